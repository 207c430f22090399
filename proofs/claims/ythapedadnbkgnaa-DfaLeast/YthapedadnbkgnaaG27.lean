/- A split of all parts: alike's closure, walked. What the walk's alike answers, walked: parts that tell fronts apart just by what comes of them. -/
import Derived.Test.YthapedadnbkgnaaG26
import Derived.Test.YthapedadnbkgnaaG19
namespace Go.Proofs.Ythapedadnbkgnaa
set_option linter.unusedVariables false
set_option linter.unusedSimpArgs false
open Go.RowKit
theorem Nf.own_one (w : World) (base : Nat) (z : Int) (hb : base ≤ w.heap.size) : Nf.Own base (.slice (some ⟨w.heap.size, 0, none⟩) 1 1) [z] (w.alloc (.cells #[.int .i64 z] 3)) :=
  ⟨rfl, .inr ⟨w.heap.size, 1, #[.int .i64 z], rfl, hb, heap_alloc_new w _, Nat.le_refl _, by decide, rfl, rfl⟩⟩
structure Df.SW (W0 : World) (bp bw r : Nat) (p : List Int) (vp : Value) (u : World) : Prop where
  bel : Below W0.heap.size W0 u
  cp : u.cell? ⟨bp, 0, none⟩ = some vp
  zp : u.frozen? ⟨bp, 0, none⟩ = false
  cw : u.cell? ⟨bw, 0, none⟩ = some (.pointer (some ⟨r, 0, none⟩))
  hp : W0.heap.size ≤ bp
  hw : bw ≠ bp
  row : Nf.Row u (fun k => k ≠ bp) vp p
theorem Df.SW.up {W0 : World} {bp bw r : Nat} {p : List Int} {vp : Value} {u u' : World} (h : Df.SW W0 bp bw r p vp u) (hb : Below u.heap.size u u') : Df.SW W0 bp bw r p vp u' :=
  ⟨Bs.below_up h.bel hb, Bs.cell_up hb h.cp, by rw [hb.frozen (World.block_lt_of_cell? u _ h.cp)]; exact h.zp, Bs.cell_up hb h.cw, h.hp, h.hw, h.row.up hb⟩
theorem Df.SW.put {W0 : World} {bp bw r : Nat} {p p' : List Int} {vp vp' : Value} {u : World} (h : Df.SW W0 bp bw r p vp u) (hr : Nf.Row u (fun k => k ≠ bp) vp' p') : Df.SW W0 bp bw r p' vp' (u.setCell ⟨bp, 0, none⟩ vp') := by
  have d0 := h.cp
  have z0 := h.zp
  exact ⟨h.bel.setCell (p := ⟨bp, 0, none⟩) h.hp _, by simp [go_sem, d0], by simpa [go_sem] using z0, Bs.cell_set h.cw (fun e => h.hw e.symm), h.hp, h.hw, hr.set (fun e => e rfl) _⟩
theorem Nf.Row.get {w : World} {B : Nat → Prop} {a : Option Addr} {n c : Nat} {l : List Int} (h : Nf.Row w B (.slice a n c) l) (k : Nat) (hk : k < l.length) : n = l.length ∧ ∃ p, a = some p ∧ w.cell? (p.add k) = some (.int .i64 (l.getD k 0)) := by
  obtain ⟨a', c', e, _, _, hs, _⟩ := h
  injection e with e1 e2 e3
  subst e1
  obtain ⟨x, ex, hx⟩ := hs k hk
  refine ⟨e2, x, ex, ?_⟩
  rw [hx, List.getD_eq_getElem?_getD, List.getElem?_eq_getElem hk]
  rfl
theorem Nf.Row.len {w : World} {B : Nat → Prop} {a : Option Addr} {n c : Nat} {l : List Int} (h : Nf.Row w B (.slice a n c) l) : n = l.length := by
  obtain ⟨a', c', e, _⟩ := h
  injection e
theorem Df.nm_new (w : World) : Df.Nm (w.alloc (.map #[] 0)) w.heap.size [] := ⟨.map [], World.ownsMap_made w _ _ _, Df.ninv_nil⟩
def Df.fv (ts : List (List Nat)) (q : Nat) (i : Nat) : Value := if i < q then .int .i64 (Df.idx (Df.names ts) (ts.getD i []) : Nat) else .int .i64 0
theorem Df.fv_row {u : World} {B : Nat → Prop} {g n : Nat} {nx : List (List Nat)} {p : List Int} (h : u.rowIs g 3 n (Df.fv (Df.texts nx p) n)) (hn : nx.length = n) (hB : B g) : Nf.Row u B (.slice (some ⟨g, 0, none⟩) n n) (Df.split nx p) := by
  have hl : (Df.split nx p).length = n := by rw [Df.split_len, hn]
  refine ⟨some ⟨g, 0, none⟩, n, by rw [hl], by rw [hl]; exact Nat.le_refl _, fun e => (by cases e), fun i hi => ⟨_, rfl, ?_⟩, fun x e _ => by injection e with e; subst e; exact hB⟩
  have e0 : (⟨g, 0, none⟩ : Addr).add i = ⟨g, i, none⟩ := by unfold Addr.add; split <;> simp_all
  have hi2 : i < n := by omega
  have hti : i < (Df.texts nx p).length := by simp [Df.texts]; omega
  rw [e0, h.cell hi2]
  simp only [Df.fv, hi2, if_true, Df.split, List.getElem_map, List.getD_eq_getElem?_getD, List.getElem?_eq_getElem hti, Option.getD_some]
set_option maxRecDepth 100000 in
set_option maxHeartbeats 2000000 in
theorem split_any (w0 : World) (r b gx rm : Nat) (vb : Value) (l : List Rx) (st : Nat) (ks : List (List Nat)) (vF : Value) (F : List Df.Fr) (vs : List (Value × Value × Value)) (nx : List (List Nat)) (W0 : World) (HK0 : Df.WK w0 r b gx rm vb l st ks vF F vs nx W0)
    (hnx : nx.length = F.length) (hF : F.length ≤ 1000) (hwd : ∀ x ∈ nx, x.length ≤ 1000) (bp bw : Nat) (p : List Int) (vp : Value) (u : World) (HS0 : Df.SW W0 bp bw r p vp u) (hok : Df.PartOk nx p) :
    Calls Try.prog 72 #[.pointer (some ⟨bp, 0, none⟩), .pointer (some ⟨bw, 0, none⟩)] u fun e u' => e = .returned (.int .i64 (Df.cnt nx p : Nat)) ∧ ∃ v', Df.SW W0 bp bw r (Df.split nx p) v' u' := by
  obtain ⟨a1, N, c1, rfl⟩ := HS0.row.form
  have hN : N = p.length := Nf.Row.len HS0.row
  have hNn : N = nx.length := by rw [hN]; exact hok.len
  have hN1 : N ≤ 1000 := by omega
  have HNN := Lib.hid hNn
  have HPL := Lib.hid hN
  have HS := Lib.hid HS0
  have HK := Lib.hid HK0
  have HOK := Lib.hid hok
  have HNX := Lib.hid hnx
  have HWD := Lib.hid hwd
  have cp := HS0.cp
  have hmm := @run_makeMap Try.prog
  have hmk := run_make_row' (P := Try.prog) 38 3 (.int .i64 0) 8 Try.underlying38 Nf.infoInt rfl .i64 .i64 N (by omega) (by omega)
  clear HS0 HK0 hok hNn hN hnx hwd
  go_enter Try.func72, Try.ntmps72
  go_upto_region 1 with fail
  go_cut [3, 4] (fun m s wx => ∃ bm bs : Nat, m = .map (some bm) ∧ s = .slice (some ⟨bs, 0, none⟩) N N ∧ Hid (Df.Nm wx bm []) ∧ Hid (wx.rowIs bs 3 N (fun _ => .int .i64 0)) ∧ Hid (Below u.heap.size u wx) ∧ Hid (u.heap.size ≤ bm ∧ u.heap.size ≤ bs ∧ bm ≠ bs))
  case first =>
    have cpm := Bs.cell_up (Bs.below1 u (.map #[] 0)) cp
    go_region
    all_goals go_wp2_with fail
    all_goals go_meet
    · refine ⟨u.heap.size, u.heap.size + 1, rfl, rfl, ?_, ?_, Lib.hid (Below.drew (Bs.below_up (Bs.below1 u _) (Bs.below1 _ _))), Lib.hid ⟨by omega, by omega, by omega⟩⟩
      · exact Lib.hid ((Df.nm_new u).same (Below.heap_alloc _ _ _ (by simp)))
      · have h1 := World.rowIs_made (u.alloc (.map #[] 0)) (.int .i64 0) N 3
        rw [show (u.alloc (.map #[] 0)).heap.size = u.heap.size + 1 by simp] at h1
        exact Lib.hid h1.drew
    · refine ⟨u.heap.size + 1, u.heap.size, rfl, rfl, ?_, ?_, Lib.hid (Below.drew (Bs.below_up (Bs.below1 u _) (Bs.below1 _ _))), Lib.hid ⟨by omega, by omega, by omega⟩⟩
      · have h1 := Df.nm_new (u.alloc (.cells (madeCells #[.int .i64 0] N) 3))
        rw [show (u.alloc (.cells (madeCells #[.int .i64 0] N) 3)).heap.size = u.heap.size + 1 by simp] at h1
        exact Lib.hid (h1.same rfl)
      · exact Lib.hid ((World.rowIs_made u (.int .i64 0) N 3).alloc _).drew
  case rest =>
    clear hmm hmk cp
    obtain ⟨bm, bs, rfl, rfl, HM, HR, HU, HB⟩ := hcut
    have hKw := HK.out.up (HS.out.up HU.out).bel
    have c3 := hKw.c3
    have cw := (HS.out.up HU.out).cw
    obtain ⟨aF, nF, cF, rfl⟩ : ∃ a n c, vF = .slice a n c := by
      rcases HK.out.of.2 with ⟨e, _⟩ | ⟨g, cap, cur, e, _⟩
      · exact ⟨_, _, _, e⟩
      · exact ⟨_, _, _, e⟩
    have hnF : nF = N := by rw [(hKw.at).1, hKw.rw'.len, HNN.out, HNX.out]
    subst hnF
    clear hKw
    go_wp2_with fail
    clear c3 cw
    obtain ⟨ts, hts⟩ : ∃ ts, ts = Df.texts nx p := ⟨_, rfl⟩
    have HTS := Lib.hid hts
    have HTL := Lib.hid (show ts.length = nF by rw [hts]; simp [Df.texts]; exact HNN.out.symm)
    clear hts
    have hbsz : bs < wc.heap.size := HR.out.lt
    have hbmz : bm < wc.heap.size := HM.out.lt
    go_loopw [19] (fun i wr => ∃ q : Nat, q ≤ nF ∧ i = .int .i64 q ∧ Hid (Below u.heap.size u wr) ∧ Hid (Df.Nm wr bm (Df.names (ts.take q))) ∧ Hid (wr.rowIs bs 3 nF (Df.fv ts q)) ∧ Hid (wc.heap.size ≤ wr.heap.size)) (fun i _ => nF - (intOf i).toNat)
    case atStart => exact ⟨0, by omega, rfl, HU, by simpa [Df.names] using HM, Lib.hid (HR.out.congr fun i hi => by simp [Df.fv]), Lib.hid (Nat.le_refl _)⟩
    case round =>
      clear HM HR HU
      obtain ⟨q, hq, rfl, HU, HM, HR, HSZ⟩ := hrel
      have hSw := HS.out.up HU.out
      by_cases hlt : q < nF
      · have hKw := HK.out.up hSw.bel
        have hqv : q < vs.length := by rw [hKw.rw'.len, ← HNX.out, ← HNN.out]; exact hlt
        have hqF : q < F.length := by rw [← HNX.out, ← HNN.out]; exact hlt
        have hqn : q < nx.length := by rw [← HNN.out]; exact hlt
        obtain ⟨pF, rfl, x0, x1, x2, zz, gg, ep, eq3⟩ := hKw.atp q hqv
        clear zz ep eq3
        have hy := hKw.rw'.ra q hqv hqF
        have hn := (hKw.rw'.rn q hqv).1 hqn
        have HWQ := Lib.hid (HWD.out _ (List.getElem_mem hqn))
        have HNQ := Lib.hid (show nx.getD q [] = nx[q] by rw [List.getD_eq_getElem?_getD, List.getElem?_eq_getElem hqn]; rfl)
        have HNI := Lib.hid (HOK.out.nx _ (List.getElem_mem hqn))
        obtain ⟨row, hrow⟩ : ∃ row, row = nx[q] := ⟨_, rfl⟩
        rw [← hrow] at hn HWQ HNQ HNI
        clear hrow
        obtain ⟨vsq, hvsq⟩ : ∃ v, v = vs[q] := ⟨_, rfl⟩
        rw [← hvsq] at x0 x1 x2 hy hn
        clear hvsq
        obtain ⟨y1, y2, y3⟩ := vsq
        simp only at x0 x1 x2 hy hn
        obtain ⟨d1, d2, d3, rfl⟩ := hy.1.form
        obtain ⟨d4, d5, d6, rfl⟩ := hy.2.form
        obtain ⟨d7, wd, d9, rfl⟩ := hn.form
        have hwl : wd = row.length := by rw [Nf.Row.len hn]; simp
        have HWL := Lib.hid hwl
        have hwd3 : wd ≤ 1000 := by rw [hwl]; exact HWQ.out
        have B1 := Bs.below1 wr (.cells #[.slice d1 d2 d3, .slice d4 d5 d6, .slice d7 wd d9] 119)
        have P3 := Df.b3_new wr (.slice d1 d2 d3) (.slice d4 d5 d6) (.slice d7 wd d9) 119
        have HSY := Lib.hid (hSw.up B1)
        have HNR := Lib.hid (hn.up B1)
        have HUY := Lib.hid (Bs.below_up HU.out B1)
        have HMY := Lib.hid (HM.out.same (B1.block _ HM.out.lt))
        have HRY := Lib.hid (HR.out.alloc (.cells #[.slice d1 d2 d3, .slice d4 d5 d6, .slice d7 wd d9] 119))
        have HP3 := Lib.hid P3
        have cp := HSY.out.cp
        obtain ⟨zz, ap, rfl, cq⟩ := HSY.out.row.get q (by rw [← HPL.out]; exact hlt)
        obtain ⟨z0, hz0⟩ : ∃ z, z = p.getD q 0 := ⟨_, rfl⟩
        rw [← hz0] at cq
        have HZ0 := Lib.hid hz0
        clear zz hz0
        have p2 := P3.p2
        have hb6 : wr.heap.size < (wr.alloc (.cells #[.slice d1 d2 d3, .slice d4 d5 d6, .slice d7 wd d9] 119)).heap.size := by simp
        have HB6 := Lib.hid hb6
        have i1 : (0 : Int) ≤ (q : Int) := by omega
        have i2 : (q : Int) < (nF : Int) := by omega
        clear hKw hSw hy hn hwl B1 P3 hb6
        go_upto_region 5 with fail
        generalize hY : wr.alloc (.cells #[.slice d1 d2 d3, .slice d4 d5 d6, .slice d7 wd d9] 119) = Y at *
        generalize hb6 : wr.heap.size = b6 at *
        clear hY hb6 x0 x1 x2
        have B2 := Bs.below1 Y (.cells #[.int .i64 z0] 3)
        have p2' := Bs.cell_up B2 p2
        have HO0 := Lib.hid (Nf.own_one Y Y.heap.size z0 (Nat.le_refl _))
        have HB2 := Lib.hid B2
        clear B2
        go_wp2_with fail
        clear p2' p2 cp cq
        go_loopw [7, 32] (fun s j wx => ∃ k : Nat, k ≤ wd ∧ j = .int .i64 k ∧ Hid (Nf.Own Y.heap.size s (z0 :: ((row.take k).map fun m => p.getD m 0)) wx) ∧ Hid (Below Y.heap.size Y wx)) (fun _ j _ => wd - (intOf j).toNat)
        case atStart => exact ⟨0, by omega, rfl, by simpa using HO0, HB2⟩
        case round =>
          clear HO0 HB2
          obtain ⟨k, hk, rfl, HO, HBY⟩ := hrel
          obtain ⟨a7, n7, c7, rfl⟩ := (Nf.Own.row (B := fun _ => True) HO.out (fun _ _ => trivial)).form
          by_cases hkw : k < wd
          · have hkr : k < row.length := by rw [← HWL.out]; exact hkw
            have cp := (HSY.out.up HBY.out).cp
            obtain ⟨zz, ar, rfl, cr⟩ := (HNR.out.up HBY.out).get k (by simpa using hkr)
            have HTK := Lib.hid (show (z0 :: ((row.take (k + 1)).map fun m => p.getD m 0)) = (z0 :: ((row.take k).map fun m => p.getD m 0)) ++ [p.getD row[k] 0] by rw [List.take_succ_eq_append_getElem hkr, List.map_append]; rfl)
            clear zz
            have e0 : (Ng.nums row).getD k 0 = (row[k] : Int) := by rw [List.getD_eq_getElem?_getD, List.getElem?_map, List.getElem?_eq_getElem hkr]; rfl
            rw [e0] at cr
            have hmn := HNI.out _ (List.getElem_mem hkr)
            rw [← HNN.out] at hmn
            generalize row[k] = m at *
            obtain ⟨zz, ap', eap, cm⟩ := (HSY.out.up HBY.out).row.get m (by rw [← HPL.out]; exact hmn)
            injection eap with eap
            subst eap
            obtain ⟨z1, hz1⟩ : ∃ z, z = p.getD m 0 := ⟨_, rfl⟩
            rw [← hz1] at cm HTK
            clear zz hz1
            have i3 : (0 : Int) ≤ (k : Int) := by omega
            have i4 : (k : Int) < (wd : Int) := by omega
            have i5 : (0 : Int) ≤ (m : Int) := by omega
            have i6 : (m : Int) < (nF : Int) := by omega
            have BW := Bs.below1 wr (.cells #[.int .i64 z1] 3)
            have HO2 := Lib.hid (HO.out.up BW)
            have HB2 := Lib.hid (Bs.below_up HBY.out BW)
            have hbs : Y.heap.size ≤ (wr.alloc (.cells #[.int .i64 z1] 3)).heap.size := HB2.out.size
            have HNB := Lib.hid (Ng.new_at wr _ rfl (.cells #[.int .i64 z1] 3))
            have hml : (z0 :: ((row.take k).map fun m => p.getD m 0)).length ≤ 10000000 := by
              rw [List.length_cons, List.length_map, List.length_take]
              omega
            obtain ⟨mk, hmk⟩ : ∃ m, (z0 :: ((row.take k).map fun m => p.getD m 0)).length = m := ⟨_, rfl⟩
            have HMK := Lib.hid hmk
            clear e0 BW HO HBY hmk
            go_wp2_with (first | (at_builtin; refine Nf.appendL rfl _ _ rfl Y.heap.size _ _ rfl HO2.out wr.heap.size 1 _ rfl HNB.out hml hbs ?_; intro g9 cp9 w9 O9 gr9 l9; rw [HMK.out]; rw [HMK.out] at O9))
            have HB3 := Lib.hid (HB2.out.grown gr9 hbs (fun i hi => (World.ownsRow.lt HO2.out i hi).1))
            have HO3 := Lib.hid O9
            rw [← HTK.out] at HO3
            clear O9 gr9 l9
            go_roundw
            case rel => exact ⟨k + 1, by omega, by go_num, HO3, HB3⟩
            case measure => simp [intOf]; omega
          · have hkn : k = wd := by omega
            subst hkn
            have HSN := Lib.hid (show (z0 :: ((row.take k).map fun m => p.getD m 0)) = Df.seen nx p q by rw [List.take_of_length_le (by rw [HWL.out]; exact Nat.le_refl _), HZ0.out]; unfold Df.seen; rw [HNQ.out])
            have HLN := Lib.hid (show (z0 :: ((row.take k).map fun m => p.getD m 0)).length ≤ 2000 by rw [List.length_cons, List.length_map, List.length_take]; omega)
            rw [HSN.out] at HO HLN
            have C := Lib.hid (textOf_any (Df.seen nx p q) _ wr (Nf.Own.row HO.out (fun _ _ => trivial)) (by have := HLN.out; omega) (HOK.out.seen q))
            clear HSN
            go_wp2_with fail
            refine C.out.mono ?_
            rintro e y ⟨rfl, by1⟩
            have hYy := HBY.out.trans (by1.mono HBY.out.size)
            have HYY := Lib.hid hYy
            have hqt : q < ts.length := by rw [HTL.out]; exact hlt
            have HTQ := Lib.hid (show ts[q] = Df.text (Df.seen nx p q) by simp only [HTS.out, Df.texts, List.getElem_map, List.getElem_range])
            have HTT := Lib.hid (show Df.names (ts.take (q + 1)) = Df.meet (Df.names (ts.take q)) ts[q] by rw [List.take_succ_eq_append_getElem hqt, Df.names_snoc])
            have hnl : (Df.names (ts.take q)).length ≤ 1000000 := by
              have h1 : ∀ us : List (List Nat), (Df.names us).length ≤ us.length := by
                intro us
                have h2 : ∀ (us ks : List (List Nat)), (us.foldl Df.meet ks).length ≤ ks.length + us.length := by
                  intro us
                  induction us with
                  | nil => intro ks; simp
                  | cons u us ih =>
                    intro ks
                    rw [List.foldl_cons, List.length_cons]
                    have := ih (Df.meet ks u)
                    have := Df.meet_len ks u
                    omega
                have := h2 us []
                simpa [Df.names] using this
              have := h1 (ts.take q)
              rw [List.length_take] at this
              omega
            have C2 := Lib.hid (number_any y bm (Df.names (ts.take q)) (Df.text (Df.seen nx p q)) (HMY.out.same (hYy.block _ HMY.out.lt)) (Df.text_by _) (by rw [Df.text_len]; have := HLN.out; unfold maxLen; omega) hnl)
            clear C by1 hYy hnl
            go_wp2_with fail
            refine C2.out.mono ?_
            rintro e z ⟨rfl, hm2, hg2⟩
            have hoz := Ng.Only.of_grown hg2
            have hrz : z.rowIs bs 3 nF (Df.fv ts q) := (HRY.out.of_block (HYY.out.block _ HRY.out.lt)).of_block (hoz.block bs (Nat.lt_of_lt_of_le HRY.out.lt HYY.out.size) (fun e => by have := HB.out.2.2; injection e with e; exact this e))
            have cb := hrz.cell hlt
            have zb := hrz.frozen q
            have HIX := Lib.hid (show Df.idx (Df.names (ts.take q)) (Df.text (Df.seen nx p q)) = Df.idx (Df.names ts) ts[q] by
              rw [← HTQ.out, ← Df.idx_met, ← HTT.out]
              have h1 := Df.names_idx (ts.drop (q + 1)) (ts.take (q + 1)) ts[q] (List.mem_take_iff_getElem.2 ⟨q, by omega, rfl⟩)
              rw [List.take_append_drop] at h1
              exact h1.symm)
            obtain ⟨ix, hix⟩ : ∃ ix, ix = Df.idx (Df.names (ts.take q)) (Df.text (Df.seen nx p q)) := ⟨_, rfl⟩
            rw [← hix] at HIX ⊢
            have HRZ := Lib.hid (hrz.set q (.int .i64 (ix : Nat)))
            have HMZ := Lib.hid (show Df.Nm (z.setCell ⟨bs, q, none⟩ (.int .i64 (ix : Nat))) bm (Df.names (ts.take (q + 1))) by
              rw [HTT.out, HTQ.out]
              exact hm2.same (Below.heap_setCell _ _ _ _ HB.out.2.2))
            have HUZ := Lib.hid (show Below u.heap.size u (z.setCell ⟨bs, q, none⟩ (.int .i64 (ix : Nat))) by
              have h1 : Below u.heap.size u y := HUY.out.trans (HYY.out.mono HUY.out.size)
              exact (h1.grown hg2 h1.size (fun k hk => by injection hk with hk; have := HB.out.1; omega)).setCell (p := ⟨bs, q, none⟩) HB.out.2.1 _)
            have HSZ2 := Lib.hid (show wc.heap.size ≤ (z.setCell ⟨bs, q, none⟩ (.int .i64 (ix : Nat))).heap.size by
              have h1 := HYY.out.size
              have h2 := hg2.size
              have h3 := HB6.out
              have h4 := HSZ.out
              simp only [World.setCell, Array.size_modify]
              omega)
            clear hm2 hg2 hoz hrz C2 hix
            go_wp2_with fail
            go_roundw
            case rel =>
              refine ⟨q + 1, by omega, by go_num, HUZ, HMZ, Lib.hid (HRZ.out.congr fun i hi => ?_), HSZ2⟩
              unfold Df.fv
              by_cases e : i = q
              · subst e
                rw [if_pos rfl, if_pos (by omega), HIX.out, List.getD_eq_getElem?_getD, List.getElem?_eq_getElem hqt]
                rfl
              · rw [if_neg e]
                by_cases e2 : i < q
                · rw [if_pos e2, if_pos (by omega)]
                · rw [if_neg e2, if_neg (by omega)]
            case measure => simp [intOf]; omega
      · have hqn : q = nF := by omega
        subst hqn
        have ht : ts.take q = ts := List.take_of_length_le (by rw [HTL.out]; exact Nat.le_refl _)
        rw [ht] at HM
        have cp := hSw.cp
        have zp := hSw.zp
        have hrow := HR.out
        rw [HTS.out] at hrow
        have hne : bs ≠ bp := by
          have h1 := World.block_lt_of_cell? u _ HS.out.cp
          have h2 := HB.out.2.1
          simp only at h1
          omega
        have HF := Lib.hid (hSw.put (Df.fv_row (B := fun k => k ≠ bp) hrow HNN.out.symm hne))
        have hnm := HM.out
        have hbmp : bm ≠ bp := by
          have h1 := World.block_lt_of_cell? u _ HS.out.cp
          have h2 := HB.out.1
          simp only at h1
          omega
        have HNM := Lib.hid (show Df.Nm (wr.setCell ⟨bp, 0, none⟩ (.slice (some ⟨bs, 0, none⟩) q q)) bm (Df.names ts) from hnm.same (Below.heap_setCell _ _ _ _ hbmp))
        clear hrow hSw hnm ht hne hbmp
        go_upto_region 14 with fail
        obtain ⟨D, hown, hI⟩ := HNM.out
        have hsz := hI.size
        go_wp2_with (first | (at_len; refine wpList_len_own _ rfl _ 71 rfl 9 3 Try.underlying71 _ bm (Df.names ts).length D rfl hown ?_))
        go_ret
        exact ⟨by rw [HTS.out]; rfl, _, HF.out⟩
end Go.Proofs.Ythapedadnbkgnaa
namespace Go.Proofs.Ythapedadnbkgnaa
set_option linter.unusedVariables false
set_option linter.unusedSimpArgs false
open Go.RowKit
theorem Df.Fine.iff {nx : List (List Nat)} {r p p' : List Int} (h : Df.Fine nx r p) (hn : ∀ r ∈ nx, ∀ k ∈ r, k < nx.length) (w : Nat) (hw : ∀ i, i < nx.length → (nx.getD i []).length = w) (e : ∀ i j, i < nx.length → j < nx.length → (p.getD i 0 = p.getD j 0 ↔ p'.getD i 0 = p'.getD j 0)) : Df.Fine nx r p' := by
  refine ⟨fun i j hi hj h1 => h.rule i j hi hj ((e i j hi hj).2 h1), fun i j hi hj h1 => ?_, fun i j hi hj H => (e i j hi hj).1 (h.back i j hi hj H)⟩
  have hs := h.step i j hi hj ((e i j hi hj).2 h1)
  refine List.ext_getElem (by rw [List.length_map, List.length_map, hw i hi, hw j hj]) fun k h2 h3 => ?_
  rw [List.length_map] at h2 h3
  have hk := congrArg (fun l => l[k]?) hs
  simp only [List.getElem?_map, List.getElem?_eq_getElem h2, List.getElem?_eq_getElem h3, Option.map_some] at hk
  injection hk with hk
  rw [List.getElem_map, List.getElem_map]
  have l1 := Df.getD_lt hn h2
  have l2 := Df.getD_lt hn h3
  rw [← Df.get_getD _ h2] at l1
  rw [← Df.get_getD _ h3] at l2
  exact (e _ _ l1 l2).1 hk
theorem Df.cnt_pos {nx : List (List Nat)} {p : List Int} (h : 0 < nx.length) : 0 < Df.cnt nx p := by
  unfold Df.cnt
  have hl : 0 < (Df.texts nx p).length := by simp [Df.texts]; exact h
  have hm := (Df.mem_names rfl ((Df.texts nx p)[0])).2 (List.getElem_mem hl)
  exact List.length_pos_of_mem hm
def Df.rl (F : List Df.Fr) : List Int := F.map fun f => Df.rle f.2
structure Df.AL (W0 : World) (bp bw bs r N : Nat) (rs : List Int) (q : Nat) (u : World) : Prop where
  bel : Below W0.heap.size W0 u
  cp : u.cell? ⟨bp, 0, none⟩ = some (.slice (some ⟨bs, 0, none⟩) N N)
  zp : u.frozen? ⟨bp, 0, none⟩ = false
  cw : u.cell? ⟨bw, 0, none⟩ = some (.pointer (some ⟨r, 0, none⟩))
  row : u.rowIs bs 3 N (fun i => if i < q then .int .i64 (rs.getD i 0) else .int .i64 0)
  h1 : W0.heap.size ≤ bp
  h2 : W0.heap.size ≤ bs
  h3 : bw ≠ bp
  h4 : bs ≠ bp
  h5 : bs ≠ bw
theorem Df.AL.up {W0 : World} {bp bw bs r N : Nat} {rs : List Int} {q : Nat} {u u' : World} (h : Df.AL W0 bp bw bs r N rs q u) (hb : Below u.heap.size u u') : Df.AL W0 bp bw bs r N rs q u' :=
  ⟨Bs.below_up h.bel hb, Bs.cell_up hb h.cp, by rw [hb.frozen (World.block_lt_of_cell? u _ h.cp)]; exact h.zp, Bs.cell_up hb h.cw, h.row.of_block (hb.block _ h.row.lt), h.h1, h.h2, h.h3, h.h4, h.h5⟩
theorem Df.AL.put {W0 : World} {bp bw bs r N : Nat} {rs : List Int} {q : Nat} {u : World} (h : Df.AL W0 bp bw bs r N rs q u) : Df.AL W0 bp bw bs r N rs (q + 1) (u.setCell ⟨bs, q, none⟩ (.int .i64 (rs.getD q 0))) := by
  have d0 := h.cp
  have z0 := h.zp
  have hh : (u.setCell ⟨bs, q, none⟩ (.int .i64 (rs.getD q 0))).heap[bp]? = u.heap[bp]? := Below.heap_setCell _ _ _ _ (fun e => h.h4 e.symm)
  refine ⟨h.bel.setCell (p := ⟨bs, q, none⟩) h.h2 _, Bs.cell_set h.cp h.h4, ?_, Bs.cell_set h.cw h.h5, (h.row.set q _).congr fun i hi => ?_, h.h1, h.h2, h.h3, h.h4, h.h5⟩
  · rw [World.frozen?_of_block (w := u) hh]; exact z0
  · by_cases e : i = q
    · subst e; rw [if_pos rfl, if_pos (by omega)]
    · rw [if_neg e]
      by_cases e2 : i < q
      · rw [if_pos e2, if_pos (by omega)]
      · rw [if_neg e2, if_neg (by omega)]
theorem Df.AL.sw {W0 : World} {bp bw bs r N : Nat} {rs : List Int} {u : World} (h : Df.AL W0 bp bw bs r N rs N u) (hl : rs.length = N) : Df.SW W0 bp bw r rs (.slice (some ⟨bs, 0, none⟩) N N) u := by
  refine ⟨h.bel, h.cp, h.zp, h.cw, h.h1, h.h3, ?_⟩
  refine ⟨some ⟨bs, 0, none⟩, N, by rw [hl], by rw [hl]; exact Nat.le_refl _, fun e => (by cases e), fun i hi => ⟨_, rfl, ?_⟩, fun x e _ => by injection e with e; subst e; exact h.h4⟩
  have e0 : (⟨bs, 0, none⟩ : Addr).add i = ⟨bs, i, none⟩ := by unfold Addr.add; split <;> simp_all
  have hi2 : i < N := by omega
  rw [e0, h.row.cell hi2]
  rw [if_pos hi2, List.getD_eq_getElem?_getD, List.getElem?_eq_getElem hi]
  rfl
def Df.relL (bs N q : Nat) (v1 v2 v3 : Value) (z : Int) : List (Value → World → Prop) :=
  [fun v _ => v = .slice (some ⟨bs, 0, none⟩) N N, fun v _ => v = .int .i64 q, fun v _ => v = .agg #[v1, v2, v3], fun v _ => v = .int .i64 z, fun v _ => v = .pointer (some ⟨bs, q, none⟩)]
theorem Df.relL_up (bs N q : Nat) (v1 v2 v3 : Value) (z : Int) : Rg.Ups (Df.relL bs N q v1 v2 v3 z) := by
  refine ⟨?_, ?_, ?_, ?_, ?_, trivial⟩
  all_goals exact fun v w w' h hb => h
set_option maxRecDepth 100000 in
set_option maxHeartbeats 2000000 in
theorem alikeW_any (w0 : World) (r b gx rm : Nat) (vb : Value) (l : List Rx) (st : Nat) (ks : List (List Nat)) (vF : Value) (F : List Df.Fr) (vs : List (Value × Value × Value)) (nx : List (List Nat)) (W0 : World) (HK0 : Df.WK w0 r b gx rm vb l st ks vF F vs nx W0)
    (hnx : nx.length = F.length) (hF : F.length ≤ 1000) (hF0 : 0 < F.length) (wd : Nat) (hwd : ∀ x ∈ nx, x.length = wd) (hw1 : wd ≤ 1000) (hin : ∀ x ∈ nx, ∀ k ∈ x, k < nx.length) (hrl : ∀ f ∈ F, -1 ≤ Df.rle f.2 ∧ Df.rle f.2 < 60000) (hll : l.length ≤ 1000) :
    Calls Try.prog 53 #[.pointer (some ⟨r, 0, none⟩)] W0 fun e u' => ∃ v p, e = .returned v ∧ Nf.Row u' (fun _ => True) v p ∧ Df.Fine nx (Df.rl F) p ∧ Df.PartOk nx p ∧ Below W0.heap.size W0 u' := by
  obtain ⟨aF, N, cF, rfl⟩ : ∃ a n c, vF = .slice a n c := by
    rcases HK0.of.2 with ⟨e, _⟩ | ⟨g, cap, cur, e, _⟩
    · exact ⟨_, _, _, e⟩
    · exact ⟨_, _, _, e⟩
  have hN : N = F.length := by rw [(HK0.at).1, HK0.rw'.len]
  have HN := Lib.hid hN
  have hN1 : N ≤ 1000 := by omega
  have hok : Df.PartOk nx (Df.rl F) := ⟨by unfold Df.rl; rw [List.length_map, hnx], fun x hx => by
    unfold Df.rl at hx
    obtain ⟨f, hf, rfl⟩ := List.mem_map.1 hx
    have := hrl f hf
    omega, by omega, hin⟩
  have HOK := Lib.hid hok
  have hwd' : ∀ i, i < nx.length → (nx.getD i []).length = wd := fun i hi => by
    rw [List.getD_eq_getElem?_getD, List.getElem?_eq_getElem hi, Option.getD_some]
    exact hwd _ (List.getElem_mem hi)
  have HWD := Lib.hid hwd'
  have HW1 := Lib.hid (show ∀ x ∈ nx, x.length ≤ 1000 from fun x hx => by rw [hwd x hx]; exact hw1)
  have HNX := Lib.hid hnx
  have HK := Lib.hid HK0
  have HF0 := Lib.hid (show 0 < nx.length by omega)
  have HF1 := Lib.hid hF
  have c3 := Bs.cell_up (Bs.below1 W0 (.cells #[.pointer (some ⟨r, 0, none⟩)] 69)) HK0.c3
  have hmk := run_make_row' (P := Try.prog) 38 3 (.int .i64 0) 8 Try.underlying38 Nf.infoInt rfl .i64 .i64 N (by omega) (by omega)
  have B1 := Bs.below1 W0 (.cells #[.pointer (some ⟨r, 0, none⟩)] 69)
  have B2 := Bs.below_up B1 (Bs.below1 _ (.cells (madeCells #[.int .i64 0] N) 3))
  have B3 := Bs.below_up B2 (Bs.below1 _ (.cells #[.slice (some ⟨W0.heap.size + 1, 0, none⟩) N N] 38))
  have HA : Hid (Df.AL W0 (W0.heap.size + 1 + 1) W0.heap.size (W0.heap.size + 1) r N (Df.rl F) 0 (((W0.alloc (.cells #[.pointer (some ⟨r, 0, none⟩)] 69)).alloc (.cells (madeCells #[.int .i64 0] N) 3)).alloc (.cells #[.slice (some ⟨W0.heap.size + 1, 0, none⟩) N N] 38))) := by
    have s1 : (W0.alloc (.cells #[.pointer (some ⟨r, 0, none⟩)] 69)).heap.size = W0.heap.size + 1 := by simp
    have R1 := World.rowIs_made (W0.alloc (.cells #[.pointer (some ⟨r, 0, none⟩)] 69)) (.int .i64 0) N 3
    rw [s1] at R1
    refine Lib.hid ⟨B3, by simp [go_sem], by simp [go_sem], by simp [go_sem], ((R1.alloc _).congr fun i hi => by simp), by omega, by omega, by omega, by omega, by omega⟩
  have d3 := (HK0.up B3).c3
  clear HK0 hN hok hwd hwd' hnx hin B1 B2
  go_enter Try.func53, Try.ntmps53
  go_upto_region 3 with fail
  clear c3 hmk d3
  generalize ((W0.alloc (.cells #[.pointer (some ⟨r, 0, none⟩)] 69)).alloc (.cells (madeCells #[.int .i64 0] N) 3)).alloc (.cells #[.slice (some ⟨W0.heap.size + 1, 0, none⟩) N N] 38) = U at *
  generalize W0.heap.size + 1 + 1 = bp at *
  generalize W0.heap.size + 1 = bs at *
  generalize hbw : W0.heap.size = bw at *
  have HBW := Lib.hid hbw
  clear hbw B3
  go_loopw [20] (fun i wr => ∃ q : Nat, q ≤ N ∧ i = .int .i64 q ∧ Hid (Df.AL W0 bp bw bs r N (Df.rl F) q wr)) (fun i _ => N - (intOf i).toNat)
  case atStart => exact ⟨0, by omega, rfl, HA⟩
  case round =>
    clear HA
    obtain ⟨q, hq, rfl, HA⟩ := hrel
    by_cases hlt : q < N
    · have hKw := HK.out.up HA.out.bel
      have hqF : q < F.length := by rw [← HN.out]; exact hlt
      have hqv : q < vs.length := by rw [hKw.rw'.len]; exact hqF
      have hqn : q < nx.length := by rw [HNX.out]; exact hqF
      obtain ⟨pF, rfl, x0, x1, x2, zz, gg, ep, eq3⟩ := hKw.atp q hqv
      clear zz ep eq3
      have hy := hKw.rw'.ra q hqv hqF
      have hn := (hKw.rw'.rn q hqv).1 hqn
      have HRQ := Lib.hid (show Df.rle (F[q]).2 = (Df.rl F).getD q 0 by unfold Df.rl; rw [List.getD_eq_getElem?_getD, List.getElem?_map, List.getElem?_eq_getElem hqF]; rfl)
      have HRL := Lib.hid (show (F[q]).2.length ≤ 1000000 by have := (hKw.ok _ (List.getElem_mem hqF)).2.1; omega)
      obtain ⟨f, hf⟩ : ∃ f, f = F[q] := ⟨_, rfl⟩
      rw [← hf] at HRQ HRL hy
      clear hf
      obtain ⟨vsq, hvsq⟩ : ∃ v, v = vs[q] := ⟨_, rfl⟩
      rw [← hvsq] at x0 x1 x2 hy hn
      clear hvsq
      obtain ⟨y1, y2, y3⟩ := vsq
      simp only at x0 x1 x2 hy hn
      obtain ⟨d1, d2, d3, rfl⟩ := hy.1.form
      obtain ⟨d4, d5, d6, rfl⟩ := hy.2.form
      obtain ⟨d7, d8, d9, rfl⟩ := hn.form
      have B1 := Bs.below1 wr (.cells #[.slice d1 d2 d3, .slice d4 d5 d6, .slice d7 d8 d9] 119)
      have HP3 := Lib.hid (Df.b3_new wr (.slice d1 d2 d3) (.slice d4 d5 d6) (.slice d7 d8 d9) 119)
      have HAY := Lib.hid (HA.out.up B1)
      have HY1 := Lib.hid (hy.1.up B1)
      have HY2 := Lib.hid (hy.2.up B1)
      have i1 : (0 : Int) ≤ (q : Int) := by omega
      have i2 : (q : Int) < (N : Int) := by omega
      clear hKw hy hn B1
      go_upto_region 5 with fail
      generalize hY : wr.alloc (.cells #[.slice d1 d2 d3, .slice d4 d5 d6, .slice d7 d8 d9] 119) = Y at *
      generalize hb6 : wr.heap.size = b6 at *
      clear hY hb6 x0 x1 x2
      obtain ⟨z, hz⟩ : ∃ z, z = (Df.rl F).getD q 0 := ⟨_, rfl⟩
      have HZ := Lib.hid hz
      rw [← hz] at HRQ
      clear hz
      refine Rg.regionT (by kernel_rfl) (by kernel_rfl) (by kernel_rfl) (by decide) (Rg.rel (Df.relL bs N q (.slice d1 d2 d3) (.slice d4 d5 d6) (.slice d7 d8 d9) z)) (fun u => Below Y.heap.size Y u) (fun w w' => Below w.heap.size w w') (fun i v w w' h _ hb => Rg.rel_up (Df.relL_up _ _ _ _ _ _ _) h hb) (Below.refl _ _).drew ⟨?_, ?_, ?_, ?_, ?_, trivial⟩ ?_
      · intro fv u hw hd
        have cp := (HAY.out.up hw).cp
        have HU := Lib.hid hw
        clear hw hd
        simp only [Rg.step, Rg.all, Act.put, List.setIfInBounds_toArray, List.set_cons_zero, List.set_cons_succ]
        go_simp
        exact ⟨rfl, HU.out, Below.refl _ _⟩
      · intro fv u hw hd
        have HU := Lib.hid hw
        clear hw hd
        simp only [Rg.step, Rg.all, Act.put, List.setIfInBounds_toArray, List.set_cons_zero, List.set_cons_succ]
        go_simp
        exact ⟨rfl, HU.out, Below.refl _ _⟩
      · intro fv u hw hd
        have hp := HP3.out.up hw
        have p0 := hp.p0
        have p1 := hp.p1
        have p2 := hp.p2
        have HU := Lib.hid hw
        clear hw hd hp
        simp only [Rg.step, Rg.all, Act.put, List.setIfInBounds_toArray, List.set_cons_zero, List.set_cons_succ]
        go_simp
        exact ⟨rfl, HU.out, Below.refl _ _⟩
      · intro fv u hw hd
        have r2 : fv 2 = .agg #[.slice d1 d2 d3, .slice d4 d5 d6, .slice d7 d8 d9] := hd _ (List.mem_cons_self ..)
        have C := Lib.hid (frontRule_any f.1 f.2 (.slice d1 d2 d3) (.slice d4 d5 d6) (.slice d7 d8 d9) u ((HY1.out.up hw).mono (fun _ _ => trivial)) ((HY2.out.up hw).mono (fun _ _ => trivial)) ⟨_, _, _, rfl⟩ HRL.out)
        have HU := Lib.hid hw
        clear hw hd
        simp only [Rg.step, Rg.all, Act.put, List.setIfInBounds_toArray, List.set_cons_zero, List.set_cons_succ]
        go_simp
        refine C.out.mono ?_
        rintro e u1 ⟨rfl, b3⟩
        exact ⟨_, rfl, by rw [← HRQ.out]; rfl, Bs.below_up HU.out b3, b3⟩
      · intro fv u hw hd
        have r0 : fv 0 = .slice (some ⟨bs, 0, none⟩) N N := hd _ (List.mem_cons_self ..)
        have r1 : fv 1 = .int .i64 q := hd _ (List.mem_cons_of_mem _ (List.mem_cons_self ..))
        have HU := Lib.hid hw
        clear hw hd
        simp only [Rg.step, Rg.all, Act.put, List.setIfInBounds_toArray, List.set_cons_zero, List.set_cons_succ]
        go_simp
        exact ⟨rfl, HU.out, Below.refl _ _⟩
      · intro fv u hw hR o ho
        have r3 : fv 3 = .int .i64 z := hR 3 (by decide)
        have r4 : fv 4 = .pointer (some ⟨bs, q, none⟩) := hR 4 (by decide)
        simp at ho
        subst ho
        simp only [Rg.step, Rg.all, Act.put, List.setIfInBounds_toArray, List.set_cons_zero, List.set_cons_succ]
        have hau := HAY.out.up hw
        have cb := hau.row.cell hlt
        have zb := hau.row.frozen q
        have HAP := Lib.hid hau.put
        rw [← HZ.out] at HAP
        clear hw hR hau
        generalize fv 0 = t0 at *
        generalize fv 1 = t1 at *
        generalize fv 2 = t2 at *
        go_simp
        go_wp2_with fail
        go_roundw
        case rel => exact ⟨q + 1, by omega, by go_num, HAP⟩
        case measure => simp [intOf]; omega
    · have hqn : q = N := by omega
      subst hqn
      have HS := Lib.hid (HA.out.sw (by unfold Df.rl; rw [List.length_map]; exact HN.out.symm))
      have HWY := Lib.hid (Df.way_zero HOK.out)
      have C := Lib.hid (split_any w0 r b gx rm vb l st ks (.slice aF q cF) F vs nx W0 HK.out HNX.out HF1.out HW1.out bp bw (Df.rl F) _ wr HS.out HOK.out)
      clear HA
      go_wp2_with fail
      refine C.out.mono ?_
      rintro e x ⟨rfl, vp, hsw⟩
      have HSW := Lib.hid hsw
      clear C hsw
      have hc1 := Df.cnt_le HOK.out
      go_wp2_with fail
      go_loopw [7, 8] (fun bb nn wx => ∃ (p : List Int) (vp : Value) (B C : Nat), bb = .int .i64 B ∧ nn = .int .i64 C ∧ C ≤ 1000 ∧ Hid (C = Df.cnt nx p) ∧ Hid (Df.Way nx (Df.rl F) p) ∧ Hid (Df.SW W0 bp bw r (Df.split nx p) vp wx) ∧ Hid (B = 0 ∨ ∃ p', Df.Way nx (Df.rl F) p' ∧ p = Df.split nx p' ∧ B = Df.cnt nx p')) (fun bb _ _ => 1001 - (intOf bb).toNat)
      case atStart => exact ⟨Df.rl F, vp, 0, Df.cnt nx (Df.rl F), rfl, rfl, by have := HNX.out; have := HF1.out; omega, Lib.hid rfl, HWY, HSW, Lib.hid (.inl rfl)⟩
      case round =>
        clear HSW HWY HS
        obtain ⟨p, vp, B, C, rfl, rfl, hC, HC, HWY, HSW, HOR⟩ := hrel
        by_cases hgt : B < C
        · have HWY2 := Lib.hid (HWY.out.split wd HWD.out)
          have hle := Df.cnt_le HWY2.out.ok
          have K := Lib.hid (split_any w0 r b gx rm vb l st ks (.slice aF q cF) F vs nx W0 HK.out HNX.out HF1.out HW1.out bp bw (Df.split nx p) vp wr HSW.out HWY2.out.ok)
          have i1 : (B : Int) < (C : Int) := by omega
          go_wp2_with fail
          refine K.out.mono ?_
          rintro e y ⟨rfl, vp2, hsw⟩
          have HSW2 := Lib.hid hsw
          clear K hsw
          go_wp2_with fail
          go_roundw
          case rel => exact ⟨Df.split nx p, vp2, C, Df.cnt nx (Df.split nx p), rfl, rfl, by have := HNX.out; have := HF1.out; omega, Lib.hid rfl, HWY2, HSW2, Lib.hid (.inr ⟨p, HWY.out, rfl, HC.out⟩)⟩
          case measure => simp [intOf]; omega
        · have cp := HSW.out.cp
          have HFI := Lib.hid (show Df.Fine nx (Df.rl F) (Df.split nx p) by
            have hpos := Df.cnt_pos (p := p) HF0.out
            rcases HOR.out with h0 | ⟨p', hw', rfl, hB⟩
            · have := HC.out; omega
            · have hm := Df.cnt_mono hw'.ok
              have he : Df.cnt nx p' = Df.cnt nx (Df.split nx p') := by have := HC.out; omega
              exact (hw'.fine wd HWD.out he).iff HOK.out.nx wd HWD.out (fun i j hi hj => Df.split_stable hw'.ok he hi hj))
          have HRW := Lib.hid (HSW.out.row.mono (fun _ _ => trivial) : Nf.Row wr (fun _ => True) vp (Df.split nx p))
          have HBL := Lib.hid HSW.out.bel
          have HPO := Lib.hid (Df.split_ok HWY.out.ok)
          go_wp2_with fail
          go_ret
          exact ⟨_, _, rfl, HRW.out, HFI.out, HPO.out, HBW.out ▸ HBL.out⟩
end Go.Proofs.Ythapedadnbkgnaa
