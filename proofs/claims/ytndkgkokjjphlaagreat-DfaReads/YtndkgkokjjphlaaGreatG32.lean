/- What Build answers, walked: the table that is planned. The chapter's example of layer 8: what its table answers. The chapter's example of layer 8, walked. -/
import Derived.Test.YtndkgkokjjphlaaGreatG31
import Derived.Test.YtndkgkokjjphlaaGreatG25
namespace Go.Proofs.YtndkgkokjjphlaaGreat
set_option linter.unusedVariables false
set_option linter.unusedSimpArgs false
open Go.RowKit
structure Df.Al (l : List Rx) (F : List Df.Fr) (nx : List (List Nat)) : Prop where
  pos : 0 < F.length
  wide : ∀ x ∈ nx, x.length = (Df.by_ l).length
  in' : ∀ x ∈ nx, ∀ k ∈ x, k < nx.length
  rl : ∀ f ∈ F, -1 ≤ Df.rle f.2 ∧ Df.rle f.2 < 60000
  st : Df.idx F (Df.s0 l) < nx.length
theorem Df.al_of {l : List Rx} {n : Nat} (hll : l.length ≤ 32) (hw : Df.Went (Df.nxt l) (Df.F0 l) n) (hn : (Df.fs l n).length = n) : Df.Al l (Df.fs l n) ((Df.fs l n).map fun f => (Df.nxt l f).map (Df.idx (Df.fs l n))) := by
  obtain ⟨ys, e⟩ := Df.gone_pre (Df.nxt l) (Df.F0 l) 0 n
  rw [Nat.zero_add] at e
  have e3 : Df.fs l n = Df.F0 l ++ ys := e
  have h1 : Df.s0 l ∈ Df.fs l n := by rw [e3]; refine List.mem_append_left _ ?_; unfold Df.F0; rw [Df.mem_meet]; simp
  refine ⟨List.length_pos_of_mem h1, fun x hx => ?_, fun x hx k hk => ?_, fun f hf => ?_, by rw [List.length_map]; exact Df.idx_lt h1⟩
  · obtain ⟨f, _, rfl⟩ := List.mem_map.1 hx
    rw [List.length_map, Df.nxt_len]
  · obtain ⟨f, hf, rfl⟩ := List.mem_map.1 hx
    obtain ⟨g, hg, rfl⟩ := List.mem_map.1 hk
    rw [List.length_map]
    obtain ⟨j, hj, rfl⟩ := List.getElem_of_mem hf
    obtain ⟨hl, hc⟩ := hw.closed (show j < n by omega)
    exact Df.idx_lt (hc g hg)
  · have hk := Df.fs_ok hf
    by_cases e : Df.rle f.2 = -1
    · omega
    · have := hk.2.2.2 _ (Df.rle_in e)
      omega
def Df.kg (l : List Rx) (c : Nat) : Nat := if c < 256 then Df.kl l c else 0
theorem Df.kg_lt (l : List Rx) (c : Nat) : Df.kg l c < 256 := by
  unfold Df.kg
  split
  · have h1 := Bs.kls_le (Df.sts l (Nf.onesL l)) c
    have h2 : Df.kl l c = Bs.kls (Df.sts l (Nf.onesL l)) c := rfl
    omega
  · omega
theorem Df.kg_arr (l : List Rx) : Bs.arr (Df.kg l) = Bs.arr (Df.kl l) := Bs.arr_congr fun c hc => by unfold Df.kg; rw [if_pos hc]
theorem Df.frs_congr {g h : Nat → Nat} : ∀ n, (∀ c, c < n → g c = h c) → Df.frs g n = Df.frs h n
  | 0, _ => rfl
  | n + 1, e => by rw [Df.frs, Df.frs, Df.frs_congr n (fun c hc => e c (by omega)), e n (by omega)]
theorem Df.kg_by (l : List Rx) : Df.frs (Df.kg l) 256 = Df.by_ l := Df.frs_congr 256 fun c hc => by unfold Df.kg; rw [if_pos hc]
theorem Df.kg_rn (l : List Rx) (N : List (List Int)) {b : Nat → Nat} (hb : ∀ i, b i < 256) : ∀ q, Df.rn (Df.kg l) N b q = Df.rn (Df.kl l) N b q
  | 0 => rfl
  | q + 1 => by
    have e : Df.kg l (b q) = Df.kl l (b q) := by unfold Df.kg; rw [if_pos (hb q)]
    rw [Df.rn, Df.rn, Df.kg_rn l N hb q]
    unfold Df.stp
    rw [e]
theorem Df.kg_top (l : List Rx) : ∀ k, k < 256 → Df.top (Df.kg l) k = Df.top (Df.kl l) k
  | 0, h => by unfold Df.top Df.kg; rw [if_pos h]
  | k + 1, h => by
    have e : Df.kg l (k + 1) = Df.kl l (k + 1) := by unfold Df.kg; rw [if_pos h]
    rw [Df.top, Df.top, Df.kg_top l k (by omega), e]
theorem Df.kg_rt (l : List Rx) (N : List (List Int)) (R : List Int) : Df.rt (Df.kg l) N R = Df.rt (Df.kl l) N R := by unfold Df.rt; rw [Df.kg_top l 255 (by omega)]
theorem Df.only_row (y : World) (b : Nat) (D : Array Value) : Ng.Only y (y.setRow b D) (fun k => k = b) := ⟨setRow_os _ _ _, setRow_tape _ _ _, setRow_output _ _ _, by rw [setRow_size]; exact Nat.le_refl _, fun k _ hp => setRow_other _ _ _ _ hp⟩
def Df.BdPost (w : World) (l : List Rx) (e : Ending) (w' : World) : Prop :=
  (∃ v F nx p st S, e = .returned (.tuple #[v, .int .i64 0]) ∧ Df.Tv w' v (Df.kg l) (Df.tN p nx S) (Df.tR (Df.rl F) S) ∧ Below w.heap.size w w' ∧ Df.Plan l F nx (Df.rl F) p st S) ∨
  (e = .returned (.tuple #[.agg Df.zT, .int .i64 21]) ∧ Below w.heap.size w w' ∧ ∃ n, Df.Went (Df.nxt l) (Df.F0 l) n ∧ 501 < (Df.fs l n).length)
theorem Df.isb_br {u : World} {B : Nat → Prop} {base : Nat} {v : Value} {l : List Nat} (h : Df.IsB base v l u) (hB : ∀ k, base ≤ k → k < u.heap.size → B k) : Df.BR u B v l := by
  obtain ⟨a, n, c, rfl⟩ := h.form
  have hn := Df.IsB.len h rfl
  subst hn
  refine ⟨a, c, rfl, fun k hk => ?_⟩
  obtain ⟨p, ep, hc⟩ := h.get k hk
  refine ⟨p, ep, hc, ?_⟩
  rcases h.2 with ⟨_, h0⟩ | ⟨g, cap, cur, e, h1, _⟩
  · omega
  · injection e with e1 e2 e3
    rw [ep] at e1
    injection e1 with e1
    subst e1
    have hlt := World.block_lt_of_cell? u _ hc
    rw [Df.add_block] at hlt
    exact ⟨hB _ h1 hlt, hlt⟩
theorem Df.wpList_built0 {P : Program} {ops : Array Oper} {rest : List Oper} {o : Oper} {a : Act} {w : World} {Q : Exit → Act → World → Prop} (hg : o.guard = none) (t : TypeId) (ho : o.op = .build t #[]) (D : Array Value) (hb : ∀ w, (Instr.build t #[]).run P w = .ok (.agg D) w)
    (h : wpList P ops Q rest (a.put o.dst (.agg D)) w) : wpList P ops Q (o :: rest) a w := by
  refine wpList_plain hg fun _ hK => ?_
  unfold Oper.wp execOp
  have e : (#[] : Array (Nat × Operand)).map (fun (i, x) => (i, a.eval x)) = #[] := by simp
  simp only [ho, e, Sem.run_bind, hb, Result.andThen_ok]
  exact hK _ _ h
theorem Df.wpList_built3 {P : Program} {ops : Array Oper} {rest : List Oper} {o : Oper} {a : Act} {w : World} {Q : Exit → Act → World → Prop} (hg : o.guard = none) (t : TypeId) (x y z : Operand) (ho : o.op = .build t #[(0, x), (1, y), (2, z)]) (u1 u2 u3 : Value) (h1 : a.eval x = u1) (h2 : a.eval y = u2) (h3 : a.eval z = u3) (D : Array Value) (hb : ∀ w, (Instr.build t #[(0, u1), (1, u2), (2, u3)]).run P w = .ok (.agg D) w)
    (h : wpList P ops Q rest (a.put o.dst (.agg D)) w) : wpList P ops Q (o :: rest) a w := by
  refine wpList_plain hg fun _ hK => ?_
  unfold Oper.wp execOp
  have e : (#[(0, x), (1, y), (2, z)] : Array (Nat × Operand)).map (fun (i, x) => (i, a.eval x)) = #[(0, u1), (1, u2), (2, u3)] := by simp [h1, h2, h3]
  simp only [ho, e, Sem.run_bind, hb, Result.andThen_ok]
  exact hK _ _ h
theorem Df.wk_new {V x2 : World} {rm : Nat} {l : List Rx} {v : Value} (hb : Below (V.alloc (.map #[] 0)).heap.size (V.alloc (.map #[] 0)) x2) (hby : Df.IsB (V.alloc (.map #[] 0)).heap.size v (Df.by_ l) x2) : Df.WK V x2.heap.size V.heap.size x2.heap.size rm v l 0 [] (.slice none 0 0) [] [] [] (x2.alloc (.cells #[.pointer (some ⟨rm, 0, none⟩), .map (some V.heap.size), v, .slice none 0 0, .int .i64 0] 94)) := by
  have hs : (V.alloc (.map #[] 0)).heap.size = V.heap.size + 1 := by simp
  have hx := hb.size
  have B0 : Below V.heap.size V x2 := Bs.below_up (Bs.below1 V (.map #[] 0)) hb
  have hnm : Df.Nm x2 V.heap.size [] := (Df.nm_new V).same (hb.block _ (by omega))
  refine ⟨Bs.below_up B0 (Bs.below1 x2 _), by simp [go_sem], by simp [go_sem], by simp [go_sem], by simp [go_sem], by simp [go_sem], fun i hi => by simp [go_sem], by omega, Nat.le_refl _, by omega, by simp, hnm.same (Below.heap_alloc _ _ _ hnm.lt), World.ownsRow_nil _ _ _ _, fun k hk => by simp [Value.ownBlock] at hk, fun f hf => by simp at hf, ⟨rfl, Nat.le_refl _, fun i h => by simp at h, fun i h => by simp at h⟩, ?_⟩
  exact (Df.isb_br hby (B := fun k => V.heap.size < k ∧ k < x2.heap.size) (fun k h1 h2 => ⟨by omega, h2⟩)).map (by simp) (fun a x hc _ _ => Bs.cell_up (Bs.below1 x2 _) hc) (fun k hk _ => ⟨by omega, by omega, by simp [Value.ownBlock], by omega⟩)
set_option maxRecDepth 100000 in
set_option maxHeartbeats 2000000 in
theorem buildD_any (w : World) (base r : Nat) (l : List Rx) (H : Ng.Mc w base r l) : Calls Tryz.prog 11 #[.pointer (some ⟨r, 0, none⟩)] w (Df.BdPost w l) := by
  have zz := Df.zero258.1
  have hl : Nf.onesL l ≤ 2000 := by
    have h1 := H.fit.sz
    have h2 : ∀ l : List Rx, Nf.onesL l ≤ Rx.sizeL l := by
      intro l
      induction l with
      | nil => simp [Nf.onesL, Rx.sizeL]
      | cons x r ih => simp only [Nf.onesL, Rx.sizeL]; have h9 : Nf.ones x ≤ x.size := (by rw [← Nf.sets_len]; exact Rx.sets_le x); omega
    have := h2 l
    omega
  have hll := H.fit.ln
  have HH := Lib.hid H
  have B1 := Bs.below1 w (.cells Df.zT 42)
  have HZ := Lib.hid (heap_alloc_new w (.cells Df.zT 42))
  have C := Lib.hid (classesD_any _ base r l (H.up B1) (by omega))
  have HB1 := Lib.hid B1
  have hs1 : (w.alloc (.cells Df.zT 42)).heap.size = w.heap.size + 1 := by simp
  clear H B1
  go_enter Tryz.func11, Tryz.ntmps11
  go_upto_region 1 with fail
  clear zz
  generalize hb2 : w.heap.size = b2 at *
  generalize w.alloc (.cells Df.zT 42) = W1 at *
  go_wp2_with fail
  refine C.out.mono ?_
  rintro e w2 ⟨rfl, hb⟩
  obtain ⟨A, hA⟩ : ∃ A, A = Bs.arr (Df.kg l) := ⟨_, rfl⟩
  have hA2 : Bs.arr (Bs.kls (Df.sts l (Nf.onesL l))) = A := by rw [hA, Df.kg_arr]; rfl
  rw [hA2]
  have hAs : A.size = 256 := by rw [hA]; exact Bs.arr_size _
  have HAS := Lib.hid hAs
  have HINF := Lib.hid (show (Tryz.prog.info? 39).map (·.size) = some A.size by rw [hAs]; exact Bs.zero256.2)
  have HONE := Lib.hid (show A.all (·.oneCell') = true by rw [hA]; exact Bs.arr_one _)
  have HAH := Lib.hid hA
  have HZ2 := Lib.hid (show w2.heap[b2]? = some (.cells Df.zT 42) by rw [hb.block _ (by omega)]; exact HZ.out)
  have HB2 := Lib.hid (show Below b2 w w2 from HB1.out.trans (hb.mono (by omega)))
  have hs2 : b2 < w2.heap.size := by have := hb.size; omega
  have zz := Bs.zero256.1
  have HZ3 : Hid ((w2.alloc (.cells Bs.zeros 39)).heap[w2.heap.size]? = some (.cells (Bs.arr fun _ => 0) 39)) := Lib.hid (heap_alloc_new w2 _)
  have HZ4 := Lib.hid (show (w2.alloc (.cells Bs.zeros 39)).heap[b2]? = some (.cells Df.zT 42) by rw [Below.heap_alloc _ _ _ hs2]; exact HZ2.out)
  have HB3 := Lib.hid (HB2.out.alloc (o := .cells Bs.zeros 39) (by omega))
  clear hA hA2 hAs hb C HB1 HZ HB2 HZ2
  have hmm := @run_makeMap Tryz.prog
  go_upto_region 4 with (first
    | (refine wpList_store_row rfl 39 _ _ rfl w2.heap.size A rfl rfl 39 (Bs.arr fun _ => 0) HZ3.out HINF.out (by rw [Bs.arr_size, HAS.out]) HONE.out ?_))
  clear zz
  have HV4 : Hid (((w2.alloc (.cells Bs.zeros 39)).setRow w2.heap.size A).heap[w2.heap.size]? = some (.cells A 39)) := Lib.hid (setRow_heap _ _ _ _ _ _ HZ3.out)
  have HV2 : Hid (((w2.alloc (.cells Bs.zeros 39)).setRow w2.heap.size A).heap[b2]? = some (.cells Df.zT 42)) := Lib.hid (by rw [setRow_other _ _ _ _ (by omega)]; exact HZ4.out)
  have HBV := Lib.hid (show Below b2 w ((w2.alloc (.cells Bs.zeros 39)).setRow w2.heap.size A) by
    have h1 := HB3.out
    rw [← hb2] at h1 hs2 ⊢
    exact Df.below_row h1 (by omega) A)
  have hsV : ((w2.alloc (.cells Bs.zeros 39)).setRow w2.heap.size A).heap.size = w2.heap.size + 1 := by rw [setRow_size]; simp
  generalize hb4 : w2.heap.size = b4 at *
  generalize (w2.alloc (.cells Bs.zeros 39)).setRow b4 A = V at *
  clear HZ3 HZ4 HB3
  have HMV := Lib.hid (show Ng.Mc V base r l from HH.out.up (by rw [hb2]; exact HBV.out))
  have HX4 := Lib.hid (show (V.alloc (.map #[] 0)).heap[b4]? = some (.cells A 39) by rw [Below.heap_alloc _ _ _ (by omega)]; exact HV4.out)
  have C2 := Lib.hid (firsts_any (Df.kg l) (V.alloc (.map #[] 0)) (Df.kg_lt l))
  rw [← HAH.out] at C2
  go_wp2_with (first
    | (refine wpList_load_row rfl 39 _ rfl b4 rfl 39 A (0, 0) _ HX4.out Tryz.underlying39 rfl HINF.out ?_))
  refine C2.out.mono ?_
  rintro e x2 ⟨v, rfl, hby, hb⟩
  rw [Df.kg_by] at hby
  obtain ⟨av, nv, cv, rfl⟩ := hby.form
  have HWK0 := Df.wk_new (rm := r) hb hby
  obtain ⟨g, hg⟩ : ∃ g, g = V.heap.size := ⟨_, rfl⟩
  rw [← hg] at HWK0
  have hgb : g = b4 + 1 := by rw [hg, hsV]
  subst hgb
  have HWK := Lib.hid HWK0
  clear HWK0 hg
  have C3 := Lib.hid (all_any V base x2.heap.size (b4 + 1) r (.slice av nv cv) l _ HMV.out HWK.out hl (by omega))
  have hbm := HWK.out.bel
  clear C2 hby hb hmm HX4
  go_wp2_with fail
  refine C3.out.mono ?_
  rintro e u hpost
  rcases hpost with ⟨n, vF, vs, nx, rfl, hK, hw, hn, h5, hnx⟩ | ⟨rfl, hno, hbel⟩
  · have hal := Df.al_of hll hw hn
    rw [← hnx] at hal
    have hlen : nx.length = (Df.fs l n).length := by rw [hnx, List.length_map]
    have hbu := hK.bel
    have C4 := Lib.hid (tableW_any V x2.heap.size (b4 + 1) x2.heap.size r (.slice av nv cv) l (Df.idx (Df.fs l n) (Df.s0 l)) ((Df.fs l n).map Df.ft) vF (Df.fs l n) vs nx u hK hlen (by omega) hal.pos (Df.by_ l).length hal.wide (by have := (Df.by_len l).2; omega) hal.in' hal.rl (by omega) hal.st)
    have HWE := Lib.hid hw
    have HNN := Lib.hid hn
    have HNX := Lib.hid hnx
    have HBU := Lib.hid hbu
    have hn5 : n ≤ 501 := h5
    clear hK hw hn hnx hal hlen hbu C3 hbm
    go_wp2_with fail
    refine C4.out.mono ?_
    rintro e y ⟨v8, v9, rows, p, S, rfl, ho8, hrws, hr9, hby, hfi, hpo, m, hsw, hsg, hsm⟩
    obtain ⟨a8, c8, rfl, hsv⟩ := ho8.cells
    obtain ⟨a9, n9, c9, rfl⟩ := hr9.form
    have HPL : Hid (Df.Plan l (Df.fs l n) nx (Df.rl (Df.fs l n)) p (Df.idx (Df.fs l n) (Df.s0 l)) S) := Lib.hid ⟨HH.out.fit, ⟨n, HWE.out, rfl, HNN.out⟩, HNX.out, rfl, rfl, by rw [HNN.out]; exact hn5, hfi, m, hsw, hsg, hsm⟩
    have hYV := HBU.out.trans (hby.mono HBU.out.size)
    have HY4 := Lib.hid (show y.heap[b4]? = some (.cells A 39) by rw [hYV.block _ (by omega)]; exact HV4.out)
    have HY2 := Lib.hid (show y.heap[b2]? = some (.cells Df.zT 42) by rw [hYV.block _ (by omega)]; exact HV2.out)
    have hbW : b2 ≤ V.heap.size := by omega
    have HBY := Lib.hid (HBV.out.trans (hYV.mono hbW))
    have hub : b2 < u.heap.size := by have := HBU.out.size; omega
    have HO8 := Lib.hid ho8
    have HSV := Lib.hid hsv
    have HRS := Lib.hid hrws
    have HR9 := Lib.hid hr9
    have hb3 := Df.build3 (Df.kg l) (.slice a8 rows.length c8) (.slice a9 n9 c9) rfl rfl
    rw [← HAH.out] at hb3
    obtain ⟨D, hD⟩ : ∃ D, D = A ++ #[.slice a8 rows.length c8, .slice a9 n9 c9] := ⟨_, rfl⟩
    rw [← hD] at hb3
    have HD := Lib.hid hD
    have hDs : D.size = 258 := by rw [hD, Array.size_append, HAS.out]; rfl
    have HDS := Lib.hid hDs
    have HDI := Lib.hid (show (Tryz.prog.info? 42).map (·.size) = some D.size by rw [hDs]; exact Df.zero258.2)
    have HDO := Lib.hid (show D.all (·.oneCell') = true by rw [hD, Array.all_append, HONE.out]; simp [Value.oneCell'])
    clear C4 ho8 hsv hrws hr9 hD hDs hby hfi hpo hsw hsg hsm hYV
    go_wp2_with (first
      | (refine wpList_load_row rfl 39 _ rfl b4 rfl 39 A (0, 0) _ HY4.out Tryz.underlying39 rfl HINF.out ?_)
      | (refine Df.wpList_built3 rfl 42 _ _ _ rfl (.agg A) (.slice a8 rows.length c8) (.slice a9 n9 c9) rfl rfl rfl D hb3 ?_)
      | (refine wpList_store_row rfl 42 _ _ rfl b2 D rfl rfl 42 Df.zT HY2.out HDI.out (by rw [Df.zT_size, HDS.out]) HDO.out ?_))
    have hld := run_loadVar_row (P := Tryz.prog) (y.setRow b2 D) b2 42 42 _ (0, 0) _ (setRow_heap _ _ _ _ _ _ HY2.out) Tryz.underlying42 rfl HDI.out
    refine bodyPost_ret (v := .tuple #[.agg D, .int .i64 0]) ?_ rfl ?_
    · rw [results_cell_tmp (p := 2) (u := 3) (ty := 42) rfl]
      simp [asAddr, Result.andThen, hld]
    · have hor := Df.only_row y b2 D
      have hne : ∀ k, u.heap.size ≤ k → ¬ (k = b2) := fun k hk e => by omega
      have hP := HPL.out
      have hrt := hP.len_s
      have hbl := (Df.by_len l).2
      refine .inl ⟨.agg D, _, _, _, _, S, rfl, ⟨Df.kg_lt l, ⟨a8, rows.length, c8, rows, a9, n9, c9, by rw [HD.out, HAH.out]; rfl, rfl, ?_, ⟨HRS.out.1, fun i h1 h2 => Df.row_far (HRS.out.2 i h1 h2) hor (fun k _ hk => hne k hk) (fun _ _ _ => trivial)⟩, Df.row_far HR9.out hor (fun k _ hk => hne k hk) (fun _ _ _ => trivial)⟩, by simp [Df.tN]; omega, by simp [Df.tR]; omega, fun x hx => ?_⟩, ?_, hP⟩
      · obtain ⟨a8', c8', e8, hsv2⟩ := Ng.Own.cells (hor.row HO8.out (fun k hk => hne k (World.ownsRow.lt HO8.out k hk).1))
        injection e8 with e8
        rw [e8]
        exact hsv2
      · unfold Df.tN at hx
        obtain ⟨q, hq, rfl⟩ := List.mem_map.1 hx
        rw [List.length_map, hP.wide (hP.s_lt q hq)]
        omega
      · have h1 := HBY.out
        rw [← hb2] at h1 ⊢
        exact Df.below_row h1 (Nat.le_refl _) D
  · have HBL := Lib.hid hbel
    have HNO := Lib.hid hno
    have HU2 := Lib.hid (show u.heap[b2]? = some (.cells Df.zT 42) by rw [hbel.block _ (by omega)]; exact HV2.out)
    have hb0 := Df.build0
    have hbW : b2 ≤ V.heap.size := by omega
    have HZS := Lib.hid Df.zT_size
    have HZI := Lib.hid (show (Tryz.prog.info? 42).map (·.size) = some Df.zT.size by rw [Df.zT_size]; exact Df.zero258.2)
    have HZO := Lib.hid (show Df.zT.all (·.oneCell') = true by unfold Df.zT Bs.zeros; rw [Array.all_append, Bs.arr_one]; simp [Value.oneCell'])
    generalize hzt : Df.zT = D at *
    clear hbel hno C3 hbm
    go_wp2_with (first
      | (refine Df.wpList_built0 rfl 42 rfl D hb0 ?_)
      | (refine wpList_store_row rfl 42 _ _ rfl b2 D rfl rfl 42 D HU2.out HZI.out rfl HZO.out ?_))
    have hld := run_loadVar_row (P := Tryz.prog) (u.setRow b2 D) b2 42 42 _ (0, 0) _ (setRow_heap _ _ _ _ _ _ HU2.out) Tryz.underlying42 rfl HZI.out
    refine bodyPost_ret (v := .tuple #[.agg D, .int .i64 21]) ?_ rfl ?_
    · rw [results_cell_tmp (p := 2) (u := 3) (ty := 42) rfl]
      simp [asAddr, Result.andThen, hld]
    · refine .inr ⟨by rw [hzt], ?_, HNO.out⟩
      have h1 := HBV.out.trans (HBL.out.mono hbW)
      rw [← hb2] at h1 ⊢
      exact Df.below_row h1 (Nat.le_refl _) D
end Go.Proofs.YtndkgkokjjphlaaGreat
namespace Go.Proofs.YtndkgkokjjphlaaGreat
set_option linter.unusedVariables false
set_option linter.unusedSimpArgs false
namespace Df
def five : List Fr := [([0, 1, 2], []), ([0, 1], [1]), ([], [0]), ([0, 1], []), ([], [])]
theorem Ex.fronts {l : List Rx} (E : Df.Ex l) {f : Fr} (h : From (nxt l) (F0 l) f) : f ∈ five := by
  induction h with
  | base hx =>
    unfold F0 at hx
    rw [mem_meet, E.s0] at hx
    simp only [List.mem_singleton] at hx
    rcases hx with rfl | rfl <;> simp [five]
  | step _ hy ih =>
    unfold nxt at hy
    obtain ⟨c, hc, rfl⟩ := List.mem_map.1 hy
    have hc := bys_lt hc
    simp only [five, List.mem_cons, List.not_mem_nil, or_false] at ih
    rcases ih with rfl | rfl | rfl | rfl | rfl
    · by_cases e1 : c = 97
      · subst e1; rw [E.a3]; simp [five]
      · by_cases e2 : c = 98
        · subst e2; rw [E.b3]; simp [five]
        · rw [E.n3 c [] hc e1 e2]; simp [five]
    · by_cases e1 : c = 97
      · subst e1; rw [E.a2]; simp [five]
      · by_cases e2 : c = 98
        · subst e2; rw [E.b2]; simp [five]
        · rw [E.n2 c [1] hc e1 e2]; simp [five]
    · rw [sf_nil]; simp [five]
    · by_cases e1 : c = 97
      · subst e1; rw [E.a2]; simp [five]
      · by_cases e2 : c = 98
        · subst e2; rw [E.b2]; simp [five]
        · rw [E.n2 c [] hc e1 e2]; simp [five]
    · rw [sf_nil]; simp [five]
theorem Ex.few {l : List Rx} (E : Df.Ex l) (n : Nat) : (fs l n).length ≤ 5 := by
  have hn : (fs l n).Nodup := gone_nodup _ (F0_nodup l) n
  have := hn.length_le_of_subset (l₂ := five) (fun x hx => E.fronts (gone_from _ _ n x hx))
  simpa [five] using this
variable {l : List Rx} {F : List Fr} {nx : List (List Nat)} {r p : List Int} {st : Nat} {S : List Nat}
theorem Plan.rtg (h : Plan l F nx r p st S) : Df.rt (kg l) (tN p nx S) (tR r S) = true := by rw [kg_rt]; exact h.rt
theorem Plan.says (h : Plan l F nx r p st S) {b : Nat → Nat} (hb : ∀ i, b i < 256) (q : Nat) {k : Int} (hk : rle (Df.fat l b q).2 = k) (h0 : 0 ≤ k) : Df.rlv (kg l) (tN p nx S) (tR r S) (Df.rnv (kg l) (tN p nx S) (tR r S) b q) = (k, true) := by
  have hrt := h.rtg
  have hr := h.rule hb q
  have hge : 0 ≤ Df.rn (kl l) (tN p nx S) b q := by
    refine Int.not_lt.1 fun hlt => ?_
    have := hr.1 hlt
    omega
  obtain ⟨e, hl⟩ := hr.2 hge
  have hN : (tN p nx S).length = S.length := by simp [tN]
  unfold Df.rlv Df.rnv
  rw [if_pos hrt, kg_rn l _ hb, if_pos ⟨hrt, hge, by rw [hN]; omega, by rw [e, hk]; exact h0⟩, e, hk]
theorem Plan.none' (h : Plan l F nx r p st S) {b : Nat → Nat} (hb : ∀ i, b i < 256) {q : Nat} (hq : 0 < q) (hf : Df.fat l b q = ([], [])) : Df.rnv (kg l) (tN p nx S) (tR r S) b q = -1 := by
  unfold Df.rnv
  rw [if_pos h.rtg, kg_rn l _ hb]
  rcases h.at hb q with ⟨e, _⟩ | ⟨j, hj, _, _, e3⟩
  · exact e
  · have := e3 hq
    rw [hf, h.mem0.2.2] at this
    exact absurd rfl this
theorem Ex.aab {l : List Rx} (E : Df.Ex l) : Df.fat l (Px.by ⟨#[97, 97, 98]⟩) 3 = ([], [0]) := by
  show sf l 98 (sf l 97 (sf l 97 (Df.s0 l))) = _
  rw [E.s0, E.a3, E.a2, E.b2]
theorem Ex.a {l : List Rx} (E : Df.Ex l) : Df.fat l (Px.by ⟨#[97]⟩) 1 = ([0, 1], [1]) := by
  show sf l 97 (Df.s0 l) = _
  rw [E.s0, E.a3]
theorem Ex.ba {l : List Rx} (E : Df.Ex l) : Df.fat l (Px.by ⟨#[98, 97]⟩) 2 = ([], []) := by
  show sf l 97 (sf l 98 (Df.s0 l)) = _
  rw [E.s0, E.b3, sf_nil]
end Df
end Go.Proofs.YtndkgkokjjphlaaGreat
namespace Go.Proofs.YtndkgkokjjphlaaGreat
set_option linter.unusedVariables false
set_option linter.unusedSimpArgs false
open Go.RowKit
structure Df.AW (w0 : World) (b : Nat) (D : Array Value) (g : Nat → Nat) (N : List (List Int)) (R : List Int) (u : World) : Prop where
  row : u.heap[b]? = some (.cells D 42)
  tv : Df.Tv u (.agg D) g N R
  bel : Below w0.heap.size w0 u
theorem Df.AW.up {w0 : World} {b : Nat} {D : Array Value} {g : Nat → Nat} {N : List (List Int)} {R : List Int} {u u' : World} (h : Df.AW w0 b D g N R u) (hb : Below u.heap.size u u') : Df.AW w0 b D g N R u' :=
  ⟨by rw [hb.block _ (Array.getElem?_eq_some_iff.1 h.row).1]; exact h.row, h.tv.up hb, Bs.below_up h.bel hb⟩
def Df.relA (D : Array Value) (k x : Int) (ok : Bool) : List (Value → World → Prop) :=
  [fun v _ => v = .agg D, fun v _ => v = .agg D, fun v _ => v = .int .i64 k, fun v _ => v = .tuple #[.int .i64 x, .bool ok], fun v _ => v = .tuple #[.int .i64 x, .bool ok], fun v _ => v = .int .i64 x, fun v _ => v = .bool ok, fun v _ => v = .int .i64 x, fun v _ => v = .bool ok]
theorem Df.relA_up (D : Array Value) (k x : Int) (ok : Bool) : Rg.Ups (Df.relA D k x ok) := by
  refine ⟨?_, ?_, ?_, ?_, ?_, ?_, ?_, ?_, ?_, trivial⟩ <;> exact fun v w w' h _ => h
theorem Df.step_load {P : Program} {ρ : Operand → Value} {o : Oper} {w : World} {R : Value → World → Prop} (ty : TypeId) (x : Operand) (ho : o.op = .load ty x)
    (g : Nat) (hx : ρ x = .pointer (some ⟨g, 0, none⟩)) (t : TypeId) (cs : Array Value) (fr : Nat × Nat) (d : TypeDesc) (hg : w.heap[g]? = some (.cells cs t fr))
    (hu : P.underlying ty = some d) (hd : (match d with | .struct _ | .array _ _ => true | _ => false) = true) (hi : (P.info? ty).map (·.size) = some cs.size)
    (h : R (.agg cs) w) : Rg.step P ρ o w R := by
  unfold Rg.step execOp
  simp only [ho, hx, Instr.loadAt, Instr.sureAddr, Sem.run_bind, Sem.run_pure, Result.andThen_ok, run_loadVar_row w g t ty cs fr d hg hu hd hi]
  exact h
theorem Df.run_says {g : Nat → Nat} {N : List (List Int)} {R : List Int} {v : Value} (s : ByteArray) (q : Nat) (hq : s.size = q) (hm : q ≤ 1000) {k : Int} (hk : Df.rnv g N R (Px.by s) q = k) (u : World) (h : Df.Tv u v g N R) : Calls Tryz.prog 16 #[v, .string s] u fun e w' => e = .returned (.int .i64 k) ∧ Below u.heap.size u w' := by
  have := runT_any g N R v s u h (by unfold maxLen; omega)
  rw [hq, hk] at this
  exact this
theorem Df.rule_says {g : Nat → Nat} {N : List (List Int)} {R : List Int} {v : Value} {k x : Int} {ok : Bool} (hk : Df.rlv g N R k = (x, ok)) (u : World) (h : Df.Tv u v g N R) : Calls Tryz.prog 15 #[v, .int .i64 k] u fun e w' => e = .returned (.tuple #[.int .i64 x, .bool ok]) ∧ Below u.heap.size u w' := by
  have := ruleT_any g N R v k u h
  rw [hk] at this
  exact this
theorem Df.AW.cell {w0 : World} {b : Nat} {D : Array Value} {g : Nat → Nat} {N : List (List Int)} {R : List Int} {u : World} (h : Df.AW w0 b D g N R u) {i : Nat} {x : Value} (hx : D[i]? = some x) : u.cell? ⟨b, i, none⟩ = some x := by
  have := h.row
  simp [World.cell?, this, hx]
set_option maxRecDepth 100000 in
set_option maxHeartbeats 4000000 in
theorem alive8_any (w : World) : Calls Tryz.prog 7 #[] w (Bs.BPost w true) := by
  go_enter Tryz.func7, Tryz.ntmps7
  have P := Lib.hid (Parse_any ⟨#[97, 42, 98]⟩ (by decide) w)
  go_wp2_with fail
  refine P.out.mono ?_
  rintro e v1 ⟨_, y1, rfl, hy, h1, h2, A⟩
  rw [Ng.ex_code1] at h1 h2 ⊢
  obtain ⟨k1, f1, a1, n1, c1, rfl⟩ := hy.form
  clear P h2
  have B := Bs.below1 v1 (.cells #[.int .u8 k1, .int .u64 (Bs.word f1 0), .int .u64 (Bs.word f1 1), .int .u64 (Bs.word f1 2), .int .u64 (Bs.word f1 3), .slice a1 n1 c1] 57)
  replace A := Bs.below_up A B
  have N1 := Rx.nod_new v1 k1 f1 a1 n1 c1
  have X1 := hy.is.up B
  have hh := h1 rfl
  have hab := Df.ex_ab
  rw [hh.1] at hab
  have H1 := Lib.hid hab
  have M1 := Lib.hid hh.2
  clear B hy h1 hh hab
  unfold Rx.hdr
  go_wp2_with fail
  generalize v1.alloc (.cells #[.int .u8 k1, .int .u64 (Bs.word f1 0), .int .u64 (Bs.word f1 1), .int .u64 (Bs.word f1 2), .int .u64 (Bs.word f1 3), .slice a1 n1 c1] 57) = W1 at *
  generalize v1.heap.size = b1 at *
  have P := Lib.hid (Parse_any ⟨#[97]⟩ (by decide) W1)
  refine P.out.mono ?_
  rintro e v2 ⟨_, y2, rfl, hy, h1, h2, hb⟩
  rw [Ng.ex_code2] at h1 h2 ⊢
  obtain ⟨k2, f2, a2, n2, c2, rfl⟩ := hy.form
  clear P h2
  replace A := Bs.below_up A hb
  replace N1 := N1.up hb
  replace X1 := X1.up hb
  clear hb
  have B := Bs.below1 v2 (.cells #[.int .u8 k2, .int .u64 (Bs.word f2 0), .int .u64 (Bs.word f2 1), .int .u64 (Bs.word f2 2), .int .u64 (Bs.word f2 3), .slice a2 n2 c2] 57)
  replace A := Bs.below_up A B
  replace N1 := N1.up B
  replace X1 := X1.up B
  have N2 := Rx.nod_new v2 k2 f2 a2 n2 c2
  have X2 := hy.is.up B
  have hh := h1 rfl
  have hab := Df.ex_a
  rw [hh.1] at hab
  have H2 := Lib.hid hab
  have M2 := Lib.hid hh.2
  clear B hy h1 hh hab
  have EX := Lib.hid (Df.ex H1.out H2.out)
  have HCO := Lib.hid (show Ng.code [y1, y2] = 0 by
    have hs := Ng.ex_size (Df.ab_of H1.out) (Df.a_of H2.out)
    have m1 := M1.out
    have m2 := M2.out
    simp [Ng.code, hs, m1, m2])
  have c0 := N1.cell.c0; have c1' := N1.cell.c1; have c2' := N1.cell.c2; have c3 := N1.cell.c3; have c4 := N1.cell.c4; have c5 := N1.cell.c5
  have d0 := N2.cell.c0; have d1 := N2.cell.c1; have d2 := N2.cell.c2; have d3 := N2.cell.c3; have d4 := N2.cell.c4; have d5 := N2.cell.c5
  simp only [Nat.zero_add] at c0 c1' c2' c3 c4 c5 d0 d1 d2 d3 d4 d5
  have HX1 := Lib.hid X1
  have HX2 := Lib.hid X2
  have HA := Lib.hid A
  clear N1 N2 X1 X2 A
  unfold Rx.hdr
  go_upto_region 3 with fail
  generalize v2.alloc (.cells #[.int .u8 k2, .int .u64 (Bs.word f2 0), .int .u64 (Bs.word f2 1), .int .u64 (Bs.word f2 2), .int .u64 (Bs.word f2 3), .slice a2 n2 c2] 57) = W2 at *
  generalize v2.heap.size = b2 at *
  have IL := Ng.two_in HX1.out HX2.out
  have B3 := Bs.below1 W2 (.cells #[.int .u8 k1, .int .u64 (Bs.word f1 0), .int .u64 (Bs.word f1 1), .int .u64 (Bs.word f1 2), .int .u64 (Bs.word f1 3), .slice a1 n1 c1, .int .u8 k2, .int .u64 (Bs.word f2 0), .int .u64 (Bs.word f2 1), .int .u64 (Bs.word f2 2), .int .u64 (Bs.word f2 3), .slice a2 n2 c2] 57)
  have C := Lib.hid (build_any [y1, y2] (by simp) (some ⟨W2.heap.size, 0, none⟩) 2 _ IL)
  have HA3 := Lib.hid (Bs.below_up HA.out B3)
  clear IL B3
  go_wp2_with fail
  refine C.out.mono ?_
  rintro e w3 hpo
  obtain ⟨r, rfl, MC, b3⟩ := Ng.build_yes hpo HCO.out
  have HMC := Lib.hid MC
  have HA4 := Lib.hid (Bs.below_up HA3.out b3)
  clear C MC hpo b3 c0 c1' c2' c3 c4 c5 d0 d1 d2 d3 d4 d5 HX1 HX2 HA HA3
  have C1 := Lib.hid (buildD_any w3 _ r _ HMC.out)
  go_wp2_with fail
  refine C1.out.mono ?_
  rintro e w5 hpo
  rcases hpo with ⟨v, F, nx, p, st, S, rfl, tv, bel, pl⟩ | ⟨_, _, n, _, h5⟩
  rotate_left
  · have := EX.out.few n
    omega
  have h4 := pl.four EX.out
  have hcl := tv.cl
  obtain ⟨t1, m1, q1, rows, t2, m2, q2, rfl, hm1, hsv⟩ := tv.is
  have hm4 : m1 = 4 := by
    rw [← hm1, hsv.2.1.1]
    simp [Df.tN, h4]
  subst hm4
  unfold Df.tab at tv ⊢
  have hsz : (Bs.arr (Df.kg [y1, y2]) ++ #[Value.slice t1 4 q1, Value.slice t2 m2 q2]).size = 258 := by rw [Array.size_append, Bs.arr_size]; rfl
  have hone : (Bs.arr (Df.kg [y1, y2]) ++ #[Value.slice t1 4 q1, Value.slice t2 m2 q2]).all (·.oneCell') = true := by rw [Array.all_append, Bs.arr_one]; simp [Value.oneCell']
  have hat : (Bs.arr (Df.kg [y1, y2]) ++ #[Value.slice t1 4 q1, Value.slice t2 m2 q2])[256]? = some (.slice t1 4 q1) := by
    rw [Array.getElem?_append_right (by rw [Bs.arr_size]; omega), Bs.arr_size]; rfl
  clear hsv hcl hm1
  generalize Bs.arr (Df.kg [y1, y2]) ++ #[Value.slice t1 4 q1, Value.slice t2 m2 q2] = D at *
  have HDI := Lib.hid (show (Tryz.prog.info? 42).map (·.size) = some D.size by rw [hsz]; exact Df.zero258.2)
  have HDO := Lib.hid hone
  have HDS := Lib.hid hsz
  have HDA := Lib.hid hat
  have HPL := Lib.hid pl
  have HZ := Lib.hid (heap_alloc_new w5 (.cells Df.zT 42))
  have HB5 := Lib.hid (Bs.below_up HA4.out bel)
  have HRW := Lib.hid (show Df.AW w w5.heap.size D (Df.kg [y1, y2]) (Df.tN p nx S) (Df.tR (Df.rl F) S) ((w5.alloc (.cells Df.zT 42)).setRow w5.heap.size D) from by
    have hb := Df.below_row (Bs.below1 w5 (.cells Df.zT 42)) (Nat.le_refl _) D
    exact ⟨setRow_heap _ _ _ _ _ _ HZ.out, tv.up hb, Bs.below_up HB5.out hb⟩)
  have zz := Df.zero258.1
  clear C1 hsz hone hat pl tv bel h4 HMC HA4 HB5
  go_upto_region 7 with (first
    | (refine wpList_store_row rfl 42 _ _ rfl w5.heap.size D rfl rfl 42 Df.zT HZ.out HDI.out (by rw [Df.zT_size, HDS.out]) HDO.out ?_))
  clear zz HZ
  generalize (w5.alloc (.cells Df.zT 42)).setRow w5.heap.size D = W5 at *
  generalize w5.heap.size = b7 at *
  have hs1 := HPL.out.says (Df.by_lt ⟨#[97, 97, 98]⟩) 3 (k := 0) (by rw [EX.out.aab]; decide) (by decide)
  have hs2 := HPL.out.says (Df.by_lt ⟨#[97]⟩) 1 (k := 1) (by rw [EX.out.a]; decide) (by decide)
  have hs3 := HPL.out.none' (Df.by_lt ⟨#[98, 97]⟩) (q := 2) (by decide) EX.out.ba
  obtain ⟨K1, hK1⟩ : ∃ K, Df.rnv (Df.kg [y1, y2]) (Df.tN p nx S) (Df.tR (Df.rl F) S) (Px.by ⟨#[97, 97, 98]⟩) 3 = K := ⟨_, rfl⟩
  obtain ⟨K2, hK2⟩ : ∃ K, Df.rnv (Df.kg [y1, y2]) (Df.tN p nx S) (Df.tR (Df.rl F) S) (Px.by ⟨#[97]⟩) 1 = K := ⟨_, rfl⟩
  rw [hK1] at hs1
  rw [hK2] at hs2
  have HC1 := Lib.hid (fun u h => Df.run_says (v := .agg D) ⟨#[97, 97, 98]⟩ 3 rfl (by decide) hK1 u h)
  have HC2 := Lib.hid (fun u h => Df.run_says (v := .agg D) ⟨#[97]⟩ 1 rfl (by decide) hK2 u h)
  have HC3 := Lib.hid (fun u h => Df.run_says (v := .agg D) ⟨#[98, 97]⟩ 2 rfl (by decide) hs3 u h)
  have HD1 := Lib.hid (fun u h => Df.rule_says (v := .agg D) hs1 u h)
  have HD2 := Lib.hid (fun u h => Df.rule_says (v := .agg D) hs2 u h)
  clear hs1 hs2 hs3 hK1 hK2 HPL EX HCO H1 H2 M1 M2
  refine Rg.regionW (by kernel_rfl) (by kernel_rfl) (Rg.rel (Df.relA D K1 0 true)) (Df.AW w b7 D (Df.kg [y1, y2]) (Df.tN p nx S) (Df.tR (Df.rl F) S)) (fun w w' => Below w.heap.size w w') (fun i v w w' h _ hb => Rg.rel_up (Df.relA_up _ _ _ _) h hb) (HRW.out.up (Below.refl _ _).drew) ⟨?_, ?_, ?_, ?_, ?_, ?_, ?_, ?_, ?_, trivial⟩ ?_
  · intro f' u hw hd
    have HU := Lib.hid hw
    clear hw hd
    simp only [Rg.all, Act.put, List.setIfInBounds_toArray, List.set_cons_zero, List.set_cons_succ]
    exact Df.step_load 42 (.tmp 7) rfl b7 rfl 42 D (0, 0) _ HU.out.row Tryz.underlying42 rfl HDI.out ⟨rfl, HU.out, Below.refl _ _⟩
  · intro f' u hw hd
    have HU := Lib.hid hw
    clear hw hd
    simp only [Rg.all, Act.put, List.setIfInBounds_toArray, List.set_cons_zero, List.set_cons_succ]
    exact Df.step_load 42 (.tmp 7) rfl b7 rfl 42 D (0, 0) _ HU.out.row Tryz.underlying42 rfl HDI.out ⟨rfl, HU.out, Below.refl _ _⟩
  · intro f' u hw hd
    have r1 : f' 1 = .agg D := hd _ (List.mem_cons_self ..) rfl
    have C := Lib.hid (HC1.out u hw.tv)
    have HU := Lib.hid hw
    clear hw hd
    simp only [Rg.step, Rg.all, Act.put, List.setIfInBounds_toArray, List.set_cons_zero, List.set_cons_succ]
    go_simp
    refine C.out.mono ?_
    rintro e u1 ⟨rfl, b3⟩
    exact ⟨_, rfl, rfl, HU.out.up b3, b3⟩
  · intro f' u hw hd
    have r0 : f' 0 = .agg D := hd _ (List.mem_cons_self ..) rfl
    have r2 : f' 2 = .int .i64 K1 := hd _ (List.mem_cons_of_mem _ (List.mem_cons_self ..)) rfl
    have C := Lib.hid (HD1.out u hw.tv)
    have HU := Lib.hid hw
    clear hw hd
    simp only [Rg.step, Rg.all, Act.put, List.setIfInBounds_toArray, List.set_cons_zero, List.set_cons_succ]
    go_simp
    refine C.out.mono ?_
    rintro e u1 ⟨rfl, b3⟩
    exact ⟨_, rfl, rfl, HU.out.up b3, b3⟩
  · intro f' u hw hd
    have r := (show f' 3 = .tuple #[.int .i64 0, .bool true] from hd _ (List.mem_cons_self ..) rfl)
    have HU := Lib.hid hw
    clear hw hd
    simp only [Rg.step, Rg.all, Act.put, List.setIfInBounds_toArray, List.set_cons_zero, List.set_cons_succ]
    go_simp
    exact ⟨rfl, HU.out, Below.refl _ _⟩
  · intro f' u hw hd
    have r := (show f' 4 = .tuple #[.int .i64 0, .bool true] from hd _ (List.mem_cons_self ..) rfl)
    have HU := Lib.hid hw
    clear hw hd
    simp only [Rg.step, Rg.all, Act.put, List.setIfInBounds_toArray, List.set_cons_zero, List.set_cons_succ]
    go_simp
    exact ⟨rfl, HU.out, Below.refl _ _⟩
  · intro f' u hw hd
    have r := (show f' 4 = .tuple #[.int .i64 0, .bool true] from hd _ (List.mem_cons_self ..) rfl)
    have HU := Lib.hid hw
    clear hw hd
    simp only [Rg.step, Rg.all, Act.put, List.setIfInBounds_toArray, List.set_cons_zero, List.set_cons_succ]
    go_simp
    exact ⟨rfl, HU.out, Below.refl _ _⟩
  · intro f' u hw hd
    have r := (show f' 5 = .int .i64 0 from hd _ (List.mem_cons_self ..) rfl)
    have HU := Lib.hid hw
    clear hw hd
    simp only [Rg.step, Rg.all, Act.put, List.setIfInBounds_toArray, List.set_cons_zero, List.set_cons_succ]
    go_simp
    exact ⟨rfl, HU.out, Below.refl _ _⟩
  · intro f' u hw hd
    have r := (show f' 6 = .bool true from hd _ (List.mem_cons_self ..) rfl)
    have HU := Lib.hid hw
    clear hw hd
    simp only [Rg.step, Rg.all, Act.put, List.setIfInBounds_toArray, List.set_cons_zero, List.set_cons_succ]
    go_simp
    exact ⟨rfl, HU.out, Below.refl _ _⟩
  intro f' u hw hR
  have r7 : f' 7 = .int .i64 0 := hR 7 (by decide)
  have r8 : f' 8 = .bool true := hR 8 (by decide)
  replace HRW := Lib.hid hw
  clear hw hR
  simp only [Rg.all, Act.put, List.setIfInBounds_toArray, List.set_cons_zero, List.set_cons_succ, r7, r8]
  clear r7 r8
  go_upto_region 8 with fail
  refine Rg.regionW (by kernel_rfl) (by kernel_rfl) (Rg.rel (Df.relA D K2 1 true)) (Df.AW w b7 D (Df.kg [y1, y2]) (Df.tN p nx S) (Df.tR (Df.rl F) S)) (fun w w' => Below w.heap.size w w') (fun i v w w' h _ hb => Rg.rel_up (Df.relA_up _ _ _ _) h hb) (HRW.out.up (Below.refl _ _).drew) ⟨?_, ?_, ?_, ?_, ?_, ?_, ?_, ?_, ?_, trivial⟩ ?_
  · intro f' u hw hd
    have HU := Lib.hid hw
    clear hw hd
    simp only [Rg.all, Act.put, List.setIfInBounds_toArray, List.set_cons_zero, List.set_cons_succ]
    exact Df.step_load 42 (.tmp 7) rfl b7 rfl 42 D (0, 0) _ HU.out.row Tryz.underlying42 rfl HDI.out ⟨rfl, HU.out, Below.refl _ _⟩
  · intro f' u hw hd
    have HU := Lib.hid hw
    clear hw hd
    simp only [Rg.all, Act.put, List.setIfInBounds_toArray, List.set_cons_zero, List.set_cons_succ]
    exact Df.step_load 42 (.tmp 7) rfl b7 rfl 42 D (0, 0) _ HU.out.row Tryz.underlying42 rfl HDI.out ⟨rfl, HU.out, Below.refl _ _⟩
  · intro f' u hw hd
    have r1 : f' 1 = .agg D := hd _ (List.mem_cons_self ..) rfl
    have C := Lib.hid (HC2.out u hw.tv)
    have HU := Lib.hid hw
    clear hw hd
    simp only [Rg.step, Rg.all, Act.put, List.setIfInBounds_toArray, List.set_cons_zero, List.set_cons_succ]
    go_simp
    refine C.out.mono ?_
    rintro e u1 ⟨rfl, b3⟩
    exact ⟨_, rfl, rfl, HU.out.up b3, b3⟩
  · intro f' u hw hd
    have r0 : f' 0 = .agg D := hd _ (List.mem_cons_self ..) rfl
    have r2 : f' 2 = .int .i64 K2 := hd _ (List.mem_cons_of_mem _ (List.mem_cons_self ..)) rfl
    have C := Lib.hid (HD2.out u hw.tv)
    have HU := Lib.hid hw
    clear hw hd
    simp only [Rg.step, Rg.all, Act.put, List.setIfInBounds_toArray, List.set_cons_zero, List.set_cons_succ]
    go_simp
    refine C.out.mono ?_
    rintro e u1 ⟨rfl, b3⟩
    exact ⟨_, rfl, rfl, HU.out.up b3, b3⟩
  · intro f' u hw hd
    have r := (show f' 3 = .tuple #[.int .i64 1, .bool true] from hd _ (List.mem_cons_self ..) rfl)
    have HU := Lib.hid hw
    clear hw hd
    simp only [Rg.step, Rg.all, Act.put, List.setIfInBounds_toArray, List.set_cons_zero, List.set_cons_succ]
    go_simp
    exact ⟨rfl, HU.out, Below.refl _ _⟩
  · intro f' u hw hd
    have r := (show f' 4 = .tuple #[.int .i64 1, .bool true] from hd _ (List.mem_cons_self ..) rfl)
    have HU := Lib.hid hw
    clear hw hd
    simp only [Rg.step, Rg.all, Act.put, List.setIfInBounds_toArray, List.set_cons_zero, List.set_cons_succ]
    go_simp
    exact ⟨rfl, HU.out, Below.refl _ _⟩
  · intro f' u hw hd
    have r := (show f' 4 = .tuple #[.int .i64 1, .bool true] from hd _ (List.mem_cons_self ..) rfl)
    have HU := Lib.hid hw
    clear hw hd
    simp only [Rg.step, Rg.all, Act.put, List.setIfInBounds_toArray, List.set_cons_zero, List.set_cons_succ]
    go_simp
    exact ⟨rfl, HU.out, Below.refl _ _⟩
  · intro f' u hw hd
    have r := (show f' 5 = .int .i64 1 from hd _ (List.mem_cons_self ..) rfl)
    have HU := Lib.hid hw
    clear hw hd
    simp only [Rg.step, Rg.all, Act.put, List.setIfInBounds_toArray, List.set_cons_zero, List.set_cons_succ]
    go_simp
    exact ⟨rfl, HU.out, Below.refl _ _⟩
  · intro f' u hw hd
    have r := (show f' 6 = .bool true from hd _ (List.mem_cons_self ..) rfl)
    have HU := Lib.hid hw
    clear hw hd
    simp only [Rg.step, Rg.all, Act.put, List.setIfInBounds_toArray, List.set_cons_zero, List.set_cons_succ]
    go_simp
    exact ⟨rfl, HU.out, Below.refl _ _⟩
  intro f'' u2 hw hR
  have r7 : f'' 7 = .int .i64 1 := hR 7 (by decide)
  have r8 : f'' 8 = .bool true := hR 8 (by decide)
  have c256 := hw.cell HDA.out
  have C := Lib.hid (HC3.out u2 hw.tv)
  replace HRW := Lib.hid hw
  clear hw hR
  simp only [Rg.all, Act.put, List.setIfInBounds_toArray, List.set_cons_zero, List.set_cons_succ, r7, r8]
  clear r7 r8
  go_wp2_with fail
  refine wp_load_row 42 (.tmp 7) rfl b7 rfl 42 D (0, 0) _ HRW.out.row Tryz.underlying42 rfl HDI.out ?_
  go_wp2_with fail
  refine C.out.mono ?_
  rintro e u3 ⟨rfl, b3⟩
  have HBL := Lib.hid (Bs.below_up HRW.out.bel b3)
  clear C b3 c256
  go_wp2_with fail
  go_ret
  exact ⟨rfl, HBL.out⟩
end Go.Proofs.YtndkgkokjjphlaaGreat
