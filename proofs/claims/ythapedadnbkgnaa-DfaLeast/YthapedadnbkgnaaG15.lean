/- What the program's front answers, walked. A text is matched just if it goes along an expression's Ones: plain facts. Fronts: plain facts: a rule is in a text's front just if it matches the text. -/
import Derived.Test.YthapedadnbkgnaaG11
import Derived.Test.YthapedadnbkgnaaG12
import Derived.Test.YthapedadnbkgnaaG14
import Derived.Test.YthapedadnbkgnaaG5
import Derived.Deep.OwnRows
import Derived.Test.YthapedadnbkgnaaG10
namespace Go.Proofs.Ythapedadnbkgnaa
set_option linter.unusedVariables false
set_option linter.unusedSimpArgs false
open Go.RowKit
theorem Ng.infoBool : (Try.prog.info? 4).map (fun i => (i.zero, i.size, i.bytes)) = some (some (.bool false), 1, 1) := by kernel_rfl
structure Ng.OAt (w : World) (x : Addr) (o : Ng.Tr) : Prop where
  c0 : w.cell? x = some (.int .u64 (Bs.word o.1 0))
  c1 : w.cell? ⟨x.block, x.off + 1, none⟩ = some (.int .u64 (Bs.word o.1 1))
  c2 : w.cell? ⟨x.block, x.off + 2, none⟩ = some (.int .u64 (Bs.word o.1 2))
  c3 : w.cell? ⟨x.block, x.off + 3, none⟩ = some (.int .u64 (Bs.word o.1 3))
  c4 : w.cell? ⟨x.block, x.off + 4, none⟩ = some (.int .i64 (o.2.1 : Nat))
  c5 : w.cell? ⟨x.block, x.off + 5, none⟩ = some (.int .i64 (o.2.2 : Nat))
theorem Ng.Mem.ones {w : World} {base r : Nat} {col : Nat → Nat} {vf vo vs ve : Value} {rows : List Value} {M : Nf.Mach} {tr : List Ng.Tr} {ss es : List Nat} (h : Ng.Mem w base r col vf vo vs ve rows M tr ss es) : ∃ ao c, vo = .slice ao tr.length c ∧ ∀ k (hk : k < tr.length), ∃ x, ao = some x ∧ Ng.OAt w (x.add (k * 6)) tr[k] := by
  have ho := h.oo
  rcases ho.2 with ⟨e, h0⟩ | ⟨g, cap, cur, e, _⟩
  · refine ⟨none, 0, by rw [e, h0], fun k hk => by omega⟩
  · refine ⟨some ⟨g, 0, none⟩, cap, e, fun k hk => ⟨_, rfl, ?_⟩⟩
    have hc := ho.cells (g := g) (by rw [e]; rfl)
    have e0 : ∀ j, (⟨g, 0, none⟩ : Addr).add j = ⟨g, j, none⟩ := fun j => by unfold Addr.add; split <;> simp_all
    have q0 := hc _ _ ((Ng.sixes_at tr k hk 0 (by decide)).trans rfl)
    have q1 := hc _ _ ((Ng.sixes_at tr k hk 1 (by decide)).trans rfl)
    have q2 := hc _ _ ((Ng.sixes_at tr k hk 2 (by decide)).trans rfl)
    have q3 := hc _ _ ((Ng.sixes_at tr k hk 3 (by decide)).trans rfl)
    have q4 := hc _ _ ((Ng.sixes_at tr k hk 4 (by decide)).trans rfl)
    have q5 := hc _ _ ((Ng.sixes_at tr k hk 5 (by decide)).trans rfl)
    rw [e0] at q0 q1 q2 q3 q4 q5 ⊢
    exact ⟨q0, q1, q2, q3, q4, q5⟩
theorem Ng.FV.up {w w' : World} {r g : Nat} {a : Option Addr} {c : Nat} {fs : List (List Nat)} (h : Ng.FV w r g a c fs) (hb : Below w.heap.size w w') : Ng.FV w' r g a c fs := by
  refine ⟨Bs.cell_up hb h.c0, h.rg, fun i hi => ?_⟩
  obtain ⟨ad, v, e1, e2, e3, e4⟩ := h.row i hi
  exact ⟨ad, v, e1, Bs.cell_up hb e2, e3, e4.up hb⟩
theorem Ng.Mem.fv {w : World} {base r : Nat} {col : Nat → Nat} {vf vo vs ve : Value} {rows : List Value} {M : Nf.Mach} {tr : List Ng.Tr} {ss es : List Nat} (h : Ng.Mem w base r col vf vo vs ve rows M tr ss es) {g : Nat} (hg : w.heap.size ≤ g) : ∃ a c, vf = .slice a M.free.length c ∧ Ng.FV w r g a c M.free := by
  obtain ⟨a, c, e, hS⟩ := h.ofr.cells
  rw [h.len] at e
  refine ⟨a, c, e, by rw [← e]; exact h.c0, by have := h.lt; omega, fun i hi => ?_⟩
  have hi' : i < rows.length := by rw [h.len]; exact hi
  obtain ⟨x, e1, e2⟩ := hS i hi'
  refine ⟨x, rows[i], e1, e2, ?_, ?_⟩
  · have := World.block_lt_of_cell? w _ e2
    omega
  · exact ((Nf.Own.row (h.orow i hi' hi) (fun _ h => h)).lt).mono (fun k hk => by omega)
structure Ng.Fine (M : Nf.Mach) (es : List Nat) : Prop where
  lt : ∀ l ∈ M.free, ∀ u ∈ l, u < M.free.length
  one : ∀ o ∈ M.ones, o.1 < M.free.length ∧ o.2 < M.free.length
  en : ∀ e ∈ es, e < M.free.length
  n1 : M.free.length ≤ 1000000
  n2 : ∀ l ∈ M.free, l.length ≤ 1000000
  n3 : M.ones.length ≤ 1000000
  n4 : es.length ≤ 1000000
structure Ng.FW (w : World) (H g b n : Nat) (T : Nat → Bool) (u : World) : Prop where
  bel : Below w.heap.size w u
  res : Nf.FB u H (.slice none 0 0) (.slice none 0 0)
  row : u.rowIs g 4 n (fun i => .bool (T i))
  h0 : w.heap.size ≤ H
  hb : H < b
  gb : g < b
  bu : b < u.heap.size
theorem Ng.FW.up {w : World} {H g b n : Nat} {T : Nat → Bool} {u u' : World} (h : Ng.FW w H g b n T u) (hb : Below u.heap.size u u') : Ng.FW w H g b n T u' :=
  ⟨Bs.below_up h.bel hb, h.res.up hb, h.row.of_block (hb.block _ h.row.lt), h.h0, h.hb, h.gb, Nat.lt_of_lt_of_le h.bu hb.size⟩
theorem Ng.FW.grown {w : World} {H g b n : Nat} {T : Nat → Bool} {u u' : World} {row : Option Nat} (h : Ng.FW w H g b n T u) (hg : u.grownBy u' row) (hr : ∀ k, row = some k → b < k) : Ng.FW w H g b n T u' := by
  have hH := h.hb
  have hgb := h.gb
  have hbu := h.bu
  have n1 : ¬ row = some H := fun e => by have := hr H e; omega
  have n2 : ¬ row = some g := fun e => by have := hr g e; omega
  have hO := Ng.Only.of_grown hg
  refine ⟨h.bel.grown hg h.bel.size (fun k hk => by have := hr k hk; have := h.h0; omega), ⟨hO.cell h.res.c0 n1, hO.cell h.res.c1 n1, ?_, ?_⟩, h.row.of_block (hO.block g h.row.lt n2), h.h0, h.hb, h.gb, Nat.lt_of_lt_of_le h.bu hg.size⟩
  · rw [hO.frozen h.res.lt n1]; exact h.res.z0
  · rw [hO.frozen h.res.lt n1]; exact h.res.z1
theorem Ng.FW.set {w : World} {H g b n : Nat} {T : Nat → Bool} {u : World} (h : Ng.FW w H g b n T u) (i : Nat) (v : Value) : Ng.FW w H g b n T (u.setCell ⟨b, i, none⟩ v) :=
  ⟨h.bel.setCell (by have := h.h0; have := h.hb; simp; omega) v, h.res.far (by have := h.hb; omega) v, h.row.setOther (by have := h.gb; simp; omega) v, h.h0, h.hb, h.gb, by rw [show (u.setCell ⟨b, i, none⟩ v).heap.size = u.heap.size by simp [go_sem]]; exact h.bu⟩
theorem Ng.filter_next (f : Nat → Bool) (k : Nat) : (List.range (k + 1)).filter f = (List.range k).filter f ++ (if f k = true then [k] else []) := by
  rw [List.range_succ, List.filter_append]
  congr 1
  by_cases h : f k = true <;> simp [h]
theorem Ng.filter_len (f : Nat → Bool) (k : Nat) : ((List.range k).filter f).length ≤ k := by
  have := List.length_filter_le f (List.range k)
  simpa using this
def Ng.FrPost (w : World) (B : Nat → Prop) (M : Nf.Mach) (es ps : List Nat) (e : Ending) (w' : World) : Prop := ∃ os rs, Nf.FPost w B os rs e w' ∧ Nf.Rise os (fun p => ∃ h : p < M.ones.length, ∃ q ∈ ps, Nf.Clo M.E q M.ones[p].1) ∧ Nf.Rise rs (fun i => ∃ h : i < es.length, ∃ q ∈ ps, Nf.Clo M.E q es[i])
theorem Ng.new_at' (w : World) (n : Nat) (hn : n = w.heap.size) (o : Obj) : (w.alloc o).heap[n]? = some o := hn ▸ heap_alloc_new w o
theorem Ng.fb_grown {u u' : World} {b : Nat} {v v' : Value} {row : Option Nat} (h : Nf.FB u b v v') (hg : u.grownBy u' row) (hr : ¬ row = some b) : Nf.FB u' b v v' := by
  have hO := Ng.Only.of_grown hg
  exact ⟨hO.cell h.c0 hr, hO.cell h.c1 hr, by rw [hO.frozen h.lt hr]; exact h.z0, by rw [hO.frozen h.lt hr]; exact h.z1⟩
theorem Ng.nums_snoc' (l : List Nat) (x : Nat) : Ng.nums (l ++ [x]) = Ng.nums l ++ [(x : Int)] := by simp [Ng.nums]
theorem Ng.getD_ones {M : Nf.Mach} {tr : List Ng.Tr} (h : tr.map (·.2) = M.ones) (k : Nat) (hk : k < tr.length) : M.ones.getD k (0, 0) = tr[k].2 ∧ tr[k].2 ∈ M.ones := by
  rw [← h]
  refine ⟨?_, List.mem_map.2 ⟨_, List.getElem_mem hk, rfl⟩⟩
  rw [List.getD_eq_getElem?_getD, List.getElem?_map, List.getElem?_eq_getElem hk]
  rfl
set_option maxRecDepth 100000 in
set_option maxHeartbeats 2000000 in
theorem front_any (w : World) (base r : Nat) (M : Nf.Mach) (tr : List Ng.Tr) (ss es : List Nat) (HA : Ng.At w base r M tr ss es) (F : Ng.Fine M es) (ps : List Nat) (pv : Value) (hpv : Nf.Row w (fun _ => True) pv (Ng.nums ps)) (hps : ∀ p ∈ ps, p < M.free.length) (hpl : ps.length ≤ 1000000) (B : Nat → Prop) (hB : ∀ k, w.heap.size ≤ k → B k) :
    Calls Try.prog 70 #[.pointer (some ⟨r, 0, none⟩), pv] w (Ng.FrPost w B M es ps) := by
  obtain ⟨col, vf, vo, vs, ve, rows, HM⟩ := HA
  obtain ⟨af, cf, hvf, FV⟩ := HM.fv (g := w.heap.size + 1) (by omega)
  obtain ⟨ao, co, hvo, HON⟩ := HM.ones
  obtain ⟨ae, ne, ce, hve⟩ := (Nf.Own.row HM.oe (fun _ h => h)).form
  obtain ⟨ap, np, cp, rfl⟩ := hpv.form
  obtain ⟨hnp, hpc⟩ := hpv.at
  have hne : ne = es.length := by
    have := (Nf.Own.row HM.oe (fun _ h => h))
    rw [hve] at this
    have := this.at.1
    rwa [List.length_map] at this
  rw [List.length_map] at hnp
  have htr := congrArg List.length HM.ons
  rw [List.length_map] at htr
  have hn1 := F.n1
  have hn3 := F.n3
  have hn4 := F.n4
  have c0 := HM.c0
  rw [hvf] at c0
  obtain ⟨n, hn⟩ : ∃ n, M.free.length = n := ⟨_, rfl⟩
  obtain ⟨no, hno⟩ : ∃ n, tr.length = n := ⟨_, rfl⟩
  have HNN := Lib.hid hn
  have HNO := Lib.hid hno
  have HNE := Lib.hid hne
  have HNP := Lib.hid hnp
  have HTR := Lib.hid htr
  have hno6 : no ≤ 1000000 := by omega
  have hne6 : ne ≤ 1000000 := by omega
  have hnp6 : np ≤ 1000000 := by omega
  rw [hn] at hn1 c0
  have HMM := Lib.hid HM
  have HF := Lib.hid F
  have HFV := Lib.hid FV
  have HVF := Lib.hid hvf
  have HVO := Lib.hid hvo
  have HVE := Lib.hid hve
  have HBK := Lib.hid hB
  have HPS := Lib.hid hps
  have HPC := Lib.hid hpc
  have hmk := run_make_row' (P := Try.prog) 43 4 (.bool false) 1 Try.underlying43 Ng.infoBool rfl .i64 .i64 n (by omega) (by omega)
  have B1 := Bs.below2 w (.cells #[.slice none 0 0, .slice none 0 0] 115) (.cells (madeCells #[.bool false] n) 4)
  have X1 := (Nf.fb_new w (.slice none 0 0) (.slice none 0 0) 115).up (Bs.below1 _ (.cells (madeCells #[.bool false] n) 4))
  have es1 : (w.alloc (.cells #[.slice none 0 0, .slice none 0 0] 115)).heap.size = w.heap.size + 1 := by simp [go_sem]
  have R1 := World.rowIs_made (w.alloc (.cells #[.slice none 0 0, .slice none 0 0] 115)) (.bool false) n 4
  rw [es1] at R1
  have d0 := Bs.cell_up (Bs.below1 w (.cells #[.slice none 0 0, .slice none 0 0] 115)) c0
  have FVU := HFV.out.up B1
  have hUs : ((w.alloc (.cells #[.slice none 0 0, .slice none 0 0] 115)).alloc (.cells (madeCells #[.bool false] n) 4)).heap.size = w.heap.size + 2 := by simp [go_sem]
  have HB1 := Lib.hid B1; have HX1 := Lib.hid X1; have HR1 := Lib.hid R1; have HFU := Lib.hid FVU; have HUS := Lib.hid hUs
  clear HM F FV hvf hvo hve hpv hpc hps hB hn hno hne hnp htr HON B1 X1 es1 R1 FVU hUs c0
  go_enter Try.func70, Try.ntmps70
  go_wp2_with fail
  clear hmk d0
  generalize (w.alloc (.cells #[.slice none 0 0, .slice none 0 0] 115)).alloc (.cells (madeCells #[.bool false] n) 4) = U at *
  go_loopw [21] (fun i wr => ∃ (k : Nat) (T : Nat → Bool), k ≤ np ∧ i = .int .i64 k ∧ Hid (Ng.Seen M.E n ps k T) ∧ Hid (wr.rowIs (w.heap.size + 1) 4 n (fun i => .bool (T i))) ∧ Hid (U.grownBy wr (some (w.heap.size + 1)))) (fun i _ => np - (intOf i).toNat)
  case atStart => exact ⟨0, fun _ => false, by omega, rfl, Lib.hid (Ng.seen_zero _ _ _), HR1, Lib.hid (World.grownBy.refl _ _)⟩
  case round =>
    clear HR1
    obtain ⟨k, T, hk, rfl, HS, HR, HG⟩ := hrel
    by_cases hlt : k < np
    · have hlt' : k < ps.length := by rw [← HNP.out]; exact hlt
      obtain ⟨x, rfl, hx⟩ := HPC.out k (by rw [List.length_map]; exact hlt')
      rw [List.getElem_map] at hx
      have hx2 : wr.cell? (x.add k) = some (.int .i64 (ps[k] : Nat)) := HG.out.cell (Bs.cell_up HB1.out hx) (fun e => by
        injection e with e
        have := World.block_lt_of_cell? w _ hx
        omega)
      have hpk := HPS.out ps[k] (List.getElem_mem hlt')
      have HSN := Lib.hid (fun U' (m : Ng.Marked M.E n ps[k] T U') => Ng.seen_next HS.out hlt' m)
      have C := Lib.hid (mark_any M.free HF.out.lt HF.out.n1 HF.out.n2 M.E (fun u v => Iff.rfl) (Ng.left M.free.length T) T r (w.heap.size + 1) af cf n ps[k] wr (Nat.le_refl _) hpk (HFU.out.grown HG.out) (by rw [HNN.out]; exact HR.out))
      rw [HNN.out] at C
      generalize ps[k] = y at *
      have i1 : (0 : Int) ≤ (k : Int) := by omega
      have i2 : (k : Int) < (np : Int) := by omega
      have e1 : decide ((k : Int) < (np : Int)) = true := decide_eq_true (by omega)
      have e2 : decide (k < np) = true := decide_eq_true hlt
      clear hx
      go_wp2_with fail
      refine C.out.mono ?_
      rintro e w2 ⟨U2, rfl, m2, R2, g2⟩
      have HS2 := Lib.hid (HSN.out U2 m2)
      have HR2 := Lib.hid R2
      have HG2 := Lib.hid (HG.out.trans g2)
      clear C m2 R2 g2 hx2
      go_wp2_with fail
      go_roundw
      case rel => exact ⟨k + 1, U2, by omega, by go_num, HS2, HR2, HG2⟩
      case measure => simp [intOf]; omega
    · have HT := Lib.hid (Ng.seen_done HS.out (by rw [← HNP.out]; omega))
      have e1 : decide ((k : Int) < (np : Int)) = false := decide_eq_false (by omega)
      have e2 : decide (k < np) = false := decide_eq_false hlt
      have hbu := HG.out.size
      have hus := HUS.out
      have HBW := Lib.hid (show Below w.heap.size w wr from HB1.out.grown HG.out (by omega) (fun k hk => by injection hk with hk; omega))
      have HXW := Lib.hid (show Nf.FB wr w.heap.size (.slice none 0 0) (.slice none 0 0) from by
        have hO := Ng.Only.of_grown HG.out
        have n1 : ¬ some (w.heap.size + 1) = some w.heap.size := fun e => by injection e with e; omega
        exact ⟨hO.cell HX1.out.c0 n1, hO.cell HX1.out.c1 n1, by rw [hO.frozen HX1.out.lt n1]; exact HX1.out.z0, by rw [hO.frozen HX1.out.lt n1]; exact HX1.out.z1⟩)
      have B3 := Bs.below1 wr (.cells #[.slice none 0 0, .slice none 0 0] 115)
      have HFW := Lib.hid (show Ng.FW w w.heap.size (w.heap.size + 1) wr.heap.size n T (wr.alloc (.cells #[.slice none 0 0, .slice none 0 0] 115)) from ⟨Bs.below_up HBW.out B3, HXW.out.up B3, HR.out.of_block (B3.block _ HR.out.lt), Nat.le_refl _, by omega, by omega, by simp⟩)
      have HFB := Lib.hid (Nf.fb_new wr (.slice none 0 0) (.slice none 0 0) 115)
      have k1 := (HMM.out.up HFW.out.bel).c1
      rw [HVO.out, HNO.out] at k1
      clear B3 HS HR HG hbu hus
      go_wp2_with fail
      clear k1
      generalize wr.alloc (.cells #[.slice none 0 0, .slice none 0 0] 115) = V at *
      generalize wr.heap.size = b at *
      go_loopw [35] (fun i wr => ∃ (k : Nat) (v : Value), k ≤ no ∧ i = .int .i64 k ∧ Hid (Ng.FW w w.heap.size (w.heap.size + 1) b n T wr) ∧ Hid (Nf.FB wr b v (.slice none 0 0)) ∧ Hid (Nf.Own (b + 1) v (Ng.nums ((List.range k).filter fun p => T (M.ones.getD p (0, 0)).1)) wr)) (fun i _ => no - (intOf i).toNat)
      case atStart => exact ⟨0, _, by omega, rfl, HFW, HFB, Lib.hid (Nf.own_nil _ _)⟩
      case round =>
        clear HFW HFB HBW HXW
        obtain ⟨k, v, hk, rfl, HFW, HFB, HO⟩ := hrel
        by_cases hlt : k < no
        · have hlt' : k < tr.length := by rw [HNO.out]; exact hlt
          have hMW := HMM.out.up HFW.out.bel
          have hgd := Ng.getD_ones HMM.out.ons k hlt'
          obtain ⟨ao', co', e', hON⟩ := hMW.ones
          rw [HVO.out] at e'
          injection e' with e1 e2 e3
          subst e1
          obtain ⟨x, ex, OA⟩ := hON k hlt'
          subst ex
          have hal := (HF.out.one _ hgd.2).1
          rw [HNN.out] at hal
          have HGD := Lib.hid hgd.1
          clear hON hgd hMW e2 e3
          generalize tr[k] = o at *
          obtain ⟨f, a, c⟩ := o
          obtain ⟨x0, x1, x2, x3, x4, x5⟩ := OA
          simp only at x0 x1 x2 x3 x4 x5 hal HGD
          have B1 := Bs.below1 wr (.cells #[.int .u64 (Bs.word f 0), .int .u64 (Bs.word f 1), .int .u64 (Bs.word f 2), .int .u64 (Bs.word f 3), .int .i64 (a : Nat), .int .i64 (c : Nat)] 107)
          have s0 := (HFW.out.row.of_block (B1.block _ HFW.out.row.lt)).cell hal
          have i1 : (0 : Int) ≤ (k : Int) := by omega
          have i2 : (k : Int) < (no : Int) := by omega
          have i3 : (0 : Int) ≤ (a : Int) := by omega
          have i4 : (a : Int) < (n : Int) := by omega
          have e1 : decide ((k : Int) < (no : Int)) = true := decide_eq_true (by omega)
          have e2 : decide (k < no) = true := decide_eq_true hlt
          have HFN := Lib.hid (Ng.filter_next (fun p => T (M.ones.getD p (0, 0)).1) k)
          rw [HGD.out] at HFN
          cases hT : T a
          · rw [hT] at s0 HFN
            simp only [Bool.false_eq_true, if_false, List.append_nil] at HFN
            have HFW2 := Lib.hid (HFW.out.up B1)
            have HFB2 := Lib.hid (HFB.out.up B1)
            have HO2 := Lib.hid (HO.out.up B1)
            clear B1 hT
            go_wp2_with fail
            go_roundw
            case rel => exact ⟨k + 1, v, by omega, by go_num, HFW2, HFB2, by rw [HFN.out]; exact HO2⟩
            case measure => simp [intOf]; omega
          · rw [hT] at s0 HFN
            simp only [if_true] at HFN
            obtain ⟨av, nv, cv, rfl⟩ := (Nf.Own.row HO.out (fun _ h => h)).form
            have B2 := Bs.below2 wr (.cells #[.int .u64 (Bs.word f 0), .int .u64 (Bs.word f 1), .int .u64 (Bs.word f 2), .int .u64 (Bs.word f 3), .int .i64 (a : Nat), .int .i64 (c : Nat)] 107) (.cells #[.int .i64 (k : Nat)] 3)
            have HO2 := Lib.hid (HO.out.up B2)
            have HFW2 := Lib.hid (HFW.out.up B2)
            have HFB2 := Lib.hid (HFB.out.up B2)
            have d1 := (HFB.out.up B1).c0
            have hbu := HFW2.out.bu
            obtain ⟨mk, hmk⟩ : ∃ m, (Ng.nums ((List.range k).filter fun p => T (M.ones.getD p (0, 0)).1)).length = m := ⟨_, rfl⟩
            have HMK := Lib.hid hmk
            have hml : (Ng.nums ((List.range k).filter fun p => T (M.ones.getD p (0, 0)).1)).length ≤ 10000000 := by rw [List.length_map]; have := Ng.filter_len (fun p => T (M.ones.getD p (0, 0)).1) k; omega
            have hbs : b + 1 ≤ ((wr.alloc (.cells #[.int .u64 (Bs.word f 0), .int .u64 (Bs.word f 1), .int .u64 (Bs.word f 2), .int .u64 (Bs.word f 3), .int .i64 (a : Nat), .int .i64 (c : Nat)] 107)).alloc (.cells #[.int .i64 (k : Nat)] 3)).heap.size := hbu
            have HNB := Lib.hid (Ng.new_at' (wr.alloc (.cells #[.int .u64 (Bs.word f 0), .int .u64 (Bs.word f 1), .int .u64 (Bs.word f 2), .int .u64 (Bs.word f 3), .int .i64 (a : Nat), .int .i64 (c : Nat)] 107)) (wr.heap.size + 1) (by simp) (.cells #[.int .i64 (k : Nat)] 3))
            clear B1 B2 hT hmk
            go_wp2_with (first | (at_builtin; refine Nf.appendL rfl _ _ rfl (b + 1) _ (Ng.nums ((List.range k).filter fun p => T (M.ones.getD p (0, 0)).1)) rfl HO2.out (wr.heap.size + 1) 1 _ rfl HNB.out hml hbs ?_; intro g9 cp9 w9 O9 gr9 l9; rw [HMK.out]; rw [HMK.out] at O9; have hnb : ¬ (Value.slice av nv cv).ownBlock = some b := (fun e => by have := (World.ownsRow.lt HO2.out b e).1; omega); have FB9 := Ng.fb_grown HFB2.out gr9 hnb; have s2 := FB9.c0; have s3 := FB9.z0))
            have HFW3 := Lib.hid ((HFW2.out.grown gr9 (fun j hj => by have := (World.ownsRow.lt HO2.out j hj).1; omega)).set 0 (.slice (some ⟨g9, 0, none⟩) (mk + 1) cp9))
            have HFB3 := Lib.hid (FB9.set0 (.slice (some ⟨g9, 0, none⟩) (mk + 1) cp9))
            have hg9 : b + 1 ≤ g9 := (World.ownsRow.lt O9 g9 rfl).1
            have HO3 := Lib.hid (show Nf.Own (b + 1) (.slice (some ⟨g9, 0, none⟩) (mk + 1) cp9) (Ng.nums ((List.range (k + 1)).filter fun p => T (M.ones.getD p (0, 0)).1)) (w9.setCell ⟨b, 0, none⟩ (.slice (some ⟨g9, 0, none⟩) (mk + 1) cp9)) from by
              rw [HFN.out, Ng.nums_snoc']
              exact ownsRow_setCell_other O9 (a := ⟨b, 0, none⟩) (by simp only [Value.ownBlock]; exact fun e => by injection e with e; omega) _)
            clear O9 gr9 l9 FB9 s2 s3
            go_roundw
            case rel => exact ⟨k + 1, _, by omega, by go_num, HFW3, HFB3, HO3⟩
            case measure => simp [intOf]; omega
        · obtain rfl : k = no := by omega
          have e1 : decide ((k : Int) < (k : Int)) = false := decide_eq_false (by omega)
          have e2 : decide (k < k) = false := decide_eq_false (by omega)
          have k1 := (HMM.out.up HFW.out.bel).c3
          rw [HVE.out] at k1
          go_wp2_with fail
          clear k1
          have HO1 := HO
          obtain ⟨b3, hb3⟩ : ∃ b3, wr.heap.size = b3 := ⟨_, rfl⟩
          have HB3 := Lib.hid hb3
          have HVB := Lib.hid (show ∀ j, v.ownBlock = some j → j < b3 from fun j hj => by rw [← HB3.out]; exact (World.ownsRow.lt HO1.out j hj).2)
          have hbw : b < b3 := by rw [← HB3.out]; exact HFW.out.bu
          clear hb3
          go_loopw [57] (fun i wr => ∃ (j : Nat) (v2 : Value), j ≤ ne ∧ i = .int .i64 j ∧ Hid (Ng.FW w w.heap.size (w.heap.size + 1) b n T wr) ∧ Hid (Nf.FB wr b v v2) ∧ Hid (Nf.Own (b + 1) v (Ng.nums ((List.range k).filter fun p => T (M.ones.getD p (0, 0)).1)) wr) ∧ Hid (Nf.Own b3 v2 (Ng.nums ((List.range j).filter fun p => T (es.getD p 0))) wr) ∧ b3 ≤ wr.heap.size) (fun i _ => ne - (intOf i).toNat)
          case atStart => exact ⟨0, _, by omega, rfl, HFW, HFB, HO, Lib.hid (Nf.own_nil _ _), by rw [HB3.out]; exact Nat.le_refl _⟩
          case round =>
            clear HFW HFB HO1 HO
            obtain ⟨j, v2, hj, rfl, HFW, HFB, HO, HO2, hb3⟩ := hrel
            by_cases hlt2 : j < ne
            · have hlt' : j < es.length := by rw [← HNE.out]; exact hlt2
              have hoe := Nf.Own.row (HMM.out.up HFW.out.bel).oe (fun _ h => h)
              rw [HVE.out] at hoe
              obtain ⟨x, rfl, hx⟩ := hoe.at.2 j (by rw [List.length_map]; exact hlt')
              rw [List.getElem_map] at hx
              have hal := HF.out.en _ (List.getElem_mem hlt')
              rw [HNN.out] at hal
              have HGD := Lib.hid (show es.getD j 0 = es[j] by rw [List.getD_eq_getElem?_getD, List.getElem?_eq_getElem hlt']; rfl)
              generalize es[j] = a at *
              have s0 := HFW.out.row.cell hal
              have i1 : (0 : Int) ≤ (j : Int) := by omega
              have i2 : (j : Int) < (ne : Int) := by omega
              have i3 : (0 : Int) ≤ (a : Int) := by omega
              have i4 : (a : Int) < (n : Int) := by omega
              have e3 : decide ((j : Int) < (ne : Int)) = true := decide_eq_true (by omega)
              have e4 : decide (j < ne) = true := decide_eq_true hlt2
              have HFN := Lib.hid (Ng.filter_next (fun p => T (es.getD p 0)) j)
              rw [HGD.out] at HFN
              clear hoe
              cases hT : T a
              · rw [hT] at s0 HFN
                simp only [Bool.false_eq_true, if_false, List.append_nil] at HFN
                clear hT
                go_wp2_with fail
                go_roundw
                case rel => exact ⟨j + 1, v2, by omega, by go_num, HFW, HFB, HO, by rw [HFN.out]; exact HO2, hb3⟩
                case measure => simp [intOf]; omega
              · rw [hT] at s0 HFN
                simp only [if_true] at HFN
                obtain ⟨av, nv, cv, rfl⟩ := (Nf.Own.row HO2.out (fun _ h => h)).form
                have B2 := Bs.below1 wr (.cells #[.int .i64 (j : Nat)] 3)
                have HO3 := Lib.hid (HO2.out.up B2)
                have HO4 := Lib.hid (HO.out.up B2)
                have HFW2 := Lib.hid (HFW.out.up B2)
                have HFB2 := Lib.hid (HFB.out.up B2)
                have d1 := HFB.out.c1
                have hbu := HFW2.out.bu
                obtain ⟨mk, hmk⟩ : ∃ m, (Ng.nums ((List.range j).filter fun p => T (es.getD p 0))).length = m := ⟨_, rfl⟩
                have HMK := Lib.hid hmk
                have hml : (Ng.nums ((List.range j).filter fun p => T (es.getD p 0))).length ≤ 10000000 := by rw [List.length_map]; have := Ng.filter_len (fun p => T (es.getD p 0)) j; omega
                have hbs : b3 ≤ (wr.alloc (.cells #[.int .i64 (j : Nat)] 3)).heap.size := Nat.le_trans hb3 B2.size
                have HNB := Lib.hid (Ng.new_at' wr wr.heap.size rfl (.cells #[.int .i64 (j : Nat)] 3))
                clear B2 hT hmk
                go_wp2_with (first | (at_builtin; refine Nf.appendL rfl _ _ rfl b3 _ (Ng.nums ((List.range j).filter fun p => T (es.getD p 0))) rfl HO3.out wr.heap.size 1 _ rfl HNB.out hml hbs ?_; intro g9 cp9 w9 O9 gr9 l9; rw [HMK.out]; rw [HMK.out] at O9; have hnb : ¬ (Value.slice av nv cv).ownBlock = some b := (fun e => by have := (World.ownsRow.lt HO3.out b e).1; omega); have FB9 := Ng.fb_grown HFB2.out gr9 hnb; have s2 := FB9.c1; have s3 := FB9.z1))
                have HFW3 := Lib.hid ((HFW2.out.grown gr9 (fun i hi => by have := (World.ownsRow.lt HO3.out i hi).1; omega)).set 1 (.slice (some ⟨g9, 0, none⟩) (mk + 1) cp9))
                have HFB3 := Lib.hid (FB9.set1 (.slice (some ⟨g9, 0, none⟩) (mk + 1) cp9))
                have hg9 : b3 ≤ g9 := (World.ownsRow.lt O9 g9 rfl).1
                have HO5 := Lib.hid (show Nf.Own b3 (.slice (some ⟨g9, 0, none⟩) (mk + 1) cp9) (Ng.nums ((List.range (j + 1)).filter fun p => T (es.getD p 0))) (w9.setCell ⟨b, 1, none⟩ (.slice (some ⟨g9, 0, none⟩) (mk + 1) cp9)) from by
                  rw [HFN.out, Ng.nums_snoc']
                  exact ownsRow_setCell_other O9 (a := ⟨b, 1, none⟩) (by simp only [Value.ownBlock]; exact fun e => by injection e with e; omega) _)
                have HO6 := Lib.hid (show Nf.Own (b + 1) v (Ng.nums ((List.range k).filter fun p => T (M.ones.getD p (0, 0)).1)) (w9.setCell ⟨b, 1, none⟩ (.slice (some ⟨g9, 0, none⟩) (mk + 1) cp9)) from by
                  have h1 := (Ng.Only.of_grown gr9).row HO4.out (fun i hi e => by
                    have h2 := HVB.out i hi
                    have h3 := (World.ownsRow.lt HO3.out i e).1
                    omega)
                  exact ownsRow_setCell_other h1 (a := ⟨b, 1, none⟩) (fun e => by have := (World.ownsRow.lt HO4.out b e).1; omega) _)
                have hb4 : b3 ≤ (w9.setCell ⟨b, 1, none⟩ (.slice (some ⟨g9, 0, none⟩) (mk + 1) cp9)).heap.size := by
                  rw [show (w9.setCell ⟨b, 1, none⟩ (.slice (some ⟨g9, 0, none⟩) (mk + 1) cp9)).heap.size = w9.heap.size by simp [go_sem]]
                  exact Nat.le_trans hbs gr9.size
                clear O9 gr9 l9 FB9 s2 s3
                go_roundw
                case rel => exact ⟨j + 1, _, by omega, by go_num, HFW3, HFB3, HO6, HO5, hb4⟩
                case measure => simp [intOf]; omega
            · obtain rfl : j = ne := by omega
              have e3 : decide ((j : Int) < (j : Int)) = false := decide_eq_false (by omega)
              have e4 : decide (j < j) = false := decide_eq_false (by omega)
              obtain ⟨a1, m1, q1, rfl⟩ := (Nf.Own.row HO.out (fun _ h => h)).form
              obtain ⟨a2, m2, q2, rfl⟩ := (Nf.Own.row HO2.out (fun _ h => h)).form
              have y0 := HFB.out.c0; have y1 := HFB.out.c1
              have u0 := HFW.out.res.c0; have u1 := HFW.out.res.c1
              have t0 := HFW.out.res.z0; have t1 := HFW.out.res.z1
              go_wp2_with fail
              refine bodyPost_ret (v := .agg #[.slice a1 m1 q1, .slice a2 m2 q2]) (by simp [results, Try.results70, go_sem, u0, u1]) rfl ?_
              have hH := HFW.out.hb
              have R1 := Nf.Own.row (B := fun i => w.heap.size < i ∧ B i) HO.out (fun i hi => ⟨by omega, HBK.out i (by omega)⟩)
              have R2 := Nf.Own.row (B := fun i => w.heap.size < i ∧ B i) HO2.out (fun i hi => ⟨by omega, HBK.out i (by omega)⟩)
              have hnH : ¬ (w.heap.size < w.heap.size ∧ B w.heap.size) := fun e => by omega
              have HT' := HT.out
              refine ⟨_, _, ⟨_, _, rfl, ((R1.set hnH _).set hnH _).mono (fun _ h => h.2), ((R2.set hnH _).set hnH _).mono (fun _ h => h.2), (HFW.out.bel.setCell (p := ⟨w.heap.size, 0, none⟩) (Nat.le_refl _) _).setCell (p := ⟨w.heap.size, 1, none⟩) (Nat.le_refl _) _⟩, (Nf.rise_filter _ _).congr fun p => ?_, (Nf.rise_filter _ _).congr fun p => ?_⟩
              · have hto := HTR.out
                rw [HNO.out] at hto
                constructor
                · rintro ⟨h1, h2⟩
                  have h3 : p < M.ones.length := by omega
                  rw [List.getD_eq_getElem?_getD, List.getElem?_eq_getElem h3] at h2
                  exact ⟨h3, (HT' _).1 h2⟩
                · rintro ⟨h3, h4⟩
                  refine ⟨by omega, ?_⟩
                  rw [List.getD_eq_getElem?_getD, List.getElem?_eq_getElem h3]
                  exact (HT' _).2 h4
              · have hne := HNE.out
                constructor
                · rintro ⟨h1, h2⟩
                  have h3 : p < es.length := by omega
                  rw [List.getD_eq_getElem?_getD, List.getElem?_eq_getElem h3] at h2
                  exact ⟨h3, (HT' _).1 h2⟩
                · rintro ⟨h3, h4⟩
                  refine ⟨by omega, ?_⟩
                  rw [List.getD_eq_getElem?_getD, List.getElem?_eq_getElem h3]
                  exact (HT' _).2 h4
end Go.Proofs.Ythapedadnbkgnaa
namespace Go.Proofs.Ythapedadnbkgnaa
set_option linter.unusedVariables false
set_option linter.unusedSimpArgs false
namespace Nf
inductive Seg (F : Nat → Nat → Prop) (O : Nat → Nat → Prop) (s : Nat → Nat) (n : Nat) : Nat → Nat → Nat → Nat → Prop
  | one {i p : Nat} : i < n → O p (s i) → Seg F O s n i p (i + 1) p
  | step {i p p' k q : Nat} : i < n → O p (s i) → F p p' → Seg F O s n (i + 1) p' k q → Seg F O s n i p k q
theorem Seg.map {F F' O O' : Nat → Nat → Prop} {s : Nat → Nat} {n : Nat} (m : Nat) (hF : ∀ p q, F p q → F' (m + p) (m + q)) (hO : ∀ p c, O p c → O' (m + p) c) {i p k q : Nat} (h : Seg F O s n i p k q) : Seg F' O' s n i (m + p) k (m + q) := by
  induction h with
  | one h1 h2 => exact .one h1 (hO _ _ h2)
  | step h1 h2 h3 _ ih => exact .step h1 (hO _ _ h2) (hF _ _ h3) ih
theorem Seg.mono {F F' O O' : Nat → Nat → Prop} {s : Nat → Nat} {n : Nat} (hF : ∀ p q, F p q → F' p q) (hO : ∀ p c, O p c → O' p c) {i p k q : Nat} (h : Seg F O s n i p k q) : Seg F' O' s n i p k q := by
  induction h with
  | one h1 h2 => exact .one h1 (hO _ _ h2)
  | step h1 h2 h3 _ ih => exact .step h1 (hO _ _ h2) (hF _ _ h3) ih
theorem Seg.cat {F O : Nat → Nat → Prop} {s : Nat → Nat} {n : Nat} {i p j q p' k q' : Nat} (h : Seg F O s n i p j q) (hl : F q p') (h' : Seg F O s n j p' k q') : Seg F O s n i p k q' := by
  induction h with
  | one h1 h2 => exact .step h1 h2 hl h'
  | step h1 h2 h3 _ ih => exact .step h1 h2 h3 (ih hl h')
def on (x : Rx) (p c : Nat) : Prop := ∃ f, (Rx.sets x)[p]? = some f ∧ f c = true
def onL (l : List Rx) (p c : Nat) : Prop := ∃ f, (Rx.setsL l)[p]? = some f ∧ f c = true
end Nf
namespace Nf
end Nf
end Go.Proofs.Ythapedadnbkgnaa
