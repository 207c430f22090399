/- What Build answers, walked: the table that is planned. The chapter's example of layer 8: what its table answers. What a piece is, plain: how many bytes are read from a place on, and the last good end. All pieces of a text, plain: a chain of pieces, each beginning where the last one ends. What a run's piece is, walked. Rows of pieces that grow by append. -/
import Derived.Test.YthapedadnbkgnaaG29
import Derived.Test.YthapedadnbkgnaaG23
import Derived.Test.YthapedadnbkgnaaG19
import Derived.Deep.AppendLies
namespace Go.Proofs.Ythapedadnbkgnaa
set_option linter.unusedVariables false
set_option linter.unusedSimpArgs false
open Go.RowKit
structure Df.Al (l : List Rx) (F : List Df.Fr) (nx : List (List Nat)) : Prop where
  pos : 0 < F.length
  wide : ∀ x ∈ nx, x.length = (Df.by_ l).length
  in' : ∀ x ∈ nx, ∀ k ∈ x, k < nx.length
  rl : ∀ f ∈ F, -1 ≤ Df.rle f.2 ∧ Df.rle f.2 < 60000
  st : Df.idx F (Df.s0 l) < nx.length
theorem Df.al_of {l : List Rx} {n : Nat} (hll : l.length ≤ 32) (hw : Df.Went (Df.nxt l) (Df.F0 l) n) (hn : (Df.fs l n).length = n) : Df.Al l (Df.fs l n) ((Df.fs l n).map fun f => (Df.nxt l f).map (Df.idx (Df.fs l n))) := by
  obtain ⟨ys, e⟩ := Df.gone_pre (Df.nxt l) (Df.F0 l) 0 n
  rw [Nat.zero_add] at e
  have e3 : Df.fs l n = Df.F0 l ++ ys := e
  have h1 : Df.s0 l ∈ Df.fs l n := by rw [e3]; refine List.mem_append_left _ ?_; unfold Df.F0; rw [Df.mem_meet]; simp
  refine ⟨List.length_pos_of_mem h1, fun x hx => ?_, fun x hx k hk => ?_, fun f hf => ?_, by rw [List.length_map]; exact Df.idx_lt h1⟩
  · obtain ⟨f, _, rfl⟩ := List.mem_map.1 hx
    rw [List.length_map, Df.nxt_len]
  · obtain ⟨f, hf, rfl⟩ := List.mem_map.1 hx
    obtain ⟨g, hg, rfl⟩ := List.mem_map.1 hk
    rw [List.length_map]
    obtain ⟨j, hj, rfl⟩ := List.getElem_of_mem hf
    obtain ⟨hl, hc⟩ := hw.closed (show j < n by omega)
    exact Df.idx_lt (hc g hg)
  · have hk := Df.fs_ok hf
    by_cases e : Df.rle f.2 = -1
    · omega
    · have := hk.2.2.2 _ (Df.rle_in e)
      omega
def Df.kg (l : List Rx) (c : Nat) : Nat := if c < 256 then Df.kl l c else 0
theorem Df.kg_lt (l : List Rx) (c : Nat) : Df.kg l c < 256 := by
  unfold Df.kg
  split
  · have h1 := Bs.kls_le (Df.sts l (Nf.onesL l)) c
    have h2 : Df.kl l c = Bs.kls (Df.sts l (Nf.onesL l)) c := rfl
    omega
  · omega
theorem Df.kg_arr (l : List Rx) : Bs.arr (Df.kg l) = Bs.arr (Df.kl l) := Bs.arr_congr fun c hc => by unfold Df.kg; rw [if_pos hc]
theorem Df.frs_congr {g h : Nat → Nat} : ∀ n, (∀ c, c < n → g c = h c) → Df.frs g n = Df.frs h n
  | 0, _ => rfl
  | n + 1, e => by rw [Df.frs, Df.frs, Df.frs_congr n (fun c hc => e c (by omega)), e n (by omega)]
theorem Df.kg_by (l : List Rx) : Df.frs (Df.kg l) 256 = Df.by_ l := Df.frs_congr 256 fun c hc => by unfold Df.kg; rw [if_pos hc]
theorem Df.kg_rn (l : List Rx) (N : List (List Int)) {b : Nat → Nat} (hb : ∀ i, b i < 256) : ∀ q, Df.rn (Df.kg l) N b q = Df.rn (Df.kl l) N b q
  | 0 => rfl
  | q + 1 => by
    have e : Df.kg l (b q) = Df.kl l (b q) := by unfold Df.kg; rw [if_pos (hb q)]
    rw [Df.rn, Df.rn, Df.kg_rn l N hb q]
    unfold Df.stp
    rw [e]
theorem Df.kg_top (l : List Rx) : ∀ k, k < 256 → Df.top (Df.kg l) k = Df.top (Df.kl l) k
  | 0, h => by unfold Df.top Df.kg; rw [if_pos h]
  | k + 1, h => by
    have e : Df.kg l (k + 1) = Df.kl l (k + 1) := by unfold Df.kg; rw [if_pos h]
    rw [Df.top, Df.top, Df.kg_top l k (by omega), e]
theorem Df.kg_rt (l : List Rx) (N : List (List Int)) (R : List Int) : Df.rt (Df.kg l) N R = Df.rt (Df.kl l) N R := by unfold Df.rt; rw [Df.kg_top l 255 (by omega)]
theorem Df.only_row (y : World) (b : Nat) (D : Array Value) : Ng.Only y (y.setRow b D) (fun k => k = b) := ⟨setRow_os _ _ _, setRow_tape _ _ _, setRow_output _ _ _, by rw [setRow_size]; exact Nat.le_refl _, fun k _ hp => setRow_other _ _ _ _ hp⟩
def Df.BdPost (w : World) (l : List Rx) (e : Ending) (w' : World) : Prop :=
  (∃ v F nx p st S, e = .returned (.tuple #[v, .int .i64 0]) ∧ Df.Tv w' v (Df.kg l) (Df.tN p nx S) (Df.tR (Df.rl F) S) ∧ Below w.heap.size w w' ∧ Df.Plan l F nx (Df.rl F) p st S) ∨
  (e = .returned (.tuple #[.agg Df.zT, .int .i64 21]) ∧ Below w.heap.size w w' ∧ ∃ n, Df.Went (Df.nxt l) (Df.F0 l) n ∧ 501 < (Df.fs l n).length)
theorem Df.isb_br {u : World} {B : Nat → Prop} {base : Nat} {v : Value} {l : List Nat} (h : Df.IsB base v l u) (hB : ∀ k, base ≤ k → k < u.heap.size → B k) : Df.BR u B v l := by
  obtain ⟨a, n, c, rfl⟩ := h.form
  have hn := Df.IsB.len h rfl
  subst hn
  refine ⟨a, c, rfl, fun k hk => ?_⟩
  obtain ⟨p, ep, hc⟩ := h.get k hk
  refine ⟨p, ep, hc, ?_⟩
  rcases h.2 with ⟨_, h0⟩ | ⟨g, cap, cur, e, h1, _⟩
  · omega
  · injection e with e1 e2 e3
    rw [ep] at e1
    injection e1 with e1
    subst e1
    have hlt := World.block_lt_of_cell? u _ hc
    rw [Df.add_block] at hlt
    exact ⟨hB _ h1 hlt, hlt⟩
theorem Df.wpList_built0 {P : Program} {ops : Array Oper} {rest : List Oper} {o : Oper} {a : Act} {w : World} {Q : Exit → Act → World → Prop} (hg : o.guard = none) (t : TypeId) (ho : o.op = .build t #[]) (D : Array Value) (hb : ∀ w, (Instr.build t #[]).run P w = .ok (.agg D) w)
    (h : wpList P ops Q rest (a.put o.dst (.agg D)) w) : wpList P ops Q (o :: rest) a w := by
  refine wpList_plain hg fun _ hK => ?_
  unfold Oper.wp execOp
  have e : (#[] : Array (Nat × Operand)).map (fun (i, x) => (i, a.eval x)) = #[] := by simp
  simp only [ho, e, Sem.run_bind, hb, Result.andThen_ok]
  exact hK _ _ h
theorem Df.wpList_built3 {P : Program} {ops : Array Oper} {rest : List Oper} {o : Oper} {a : Act} {w : World} {Q : Exit → Act → World → Prop} (hg : o.guard = none) (t : TypeId) (x y z : Operand) (ho : o.op = .build t #[(0, x), (1, y), (2, z)]) (u1 u2 u3 : Value) (h1 : a.eval x = u1) (h2 : a.eval y = u2) (h3 : a.eval z = u3) (D : Array Value) (hb : ∀ w, (Instr.build t #[(0, u1), (1, u2), (2, u3)]).run P w = .ok (.agg D) w)
    (h : wpList P ops Q rest (a.put o.dst (.agg D)) w) : wpList P ops Q (o :: rest) a w := by
  refine wpList_plain hg fun _ hK => ?_
  unfold Oper.wp execOp
  have e : (#[(0, x), (1, y), (2, z)] : Array (Nat × Operand)).map (fun (i, x) => (i, a.eval x)) = #[(0, u1), (1, u2), (2, u3)] := by simp [h1, h2, h3]
  simp only [ho, e, Sem.run_bind, hb, Result.andThen_ok]
  exact hK _ _ h
theorem Df.wk_new {V x2 : World} {rm : Nat} {l : List Rx} {v : Value} (hb : Below (V.alloc (.map #[] 0)).heap.size (V.alloc (.map #[] 0)) x2) (hby : Df.IsB (V.alloc (.map #[] 0)).heap.size v (Df.by_ l) x2) : Df.WK V x2.heap.size V.heap.size x2.heap.size rm v l 0 [] (.slice none 0 0) [] [] [] (x2.alloc (.cells #[.pointer (some ⟨rm, 0, none⟩), .map (some V.heap.size), v, .slice none 0 0, .int .i64 0] 76)) := by
  have hs : (V.alloc (.map #[] 0)).heap.size = V.heap.size + 1 := by simp
  have hx := hb.size
  have B0 : Below V.heap.size V x2 := Bs.below_up (Bs.below1 V (.map #[] 0)) hb
  have hnm : Df.Nm x2 V.heap.size [] := (Df.nm_new V).same (hb.block _ (by omega))
  refine ⟨Bs.below_up B0 (Bs.below1 x2 _), by simp [go_sem], by simp [go_sem], by simp [go_sem], by simp [go_sem], by simp [go_sem], fun i hi => by simp [go_sem], by omega, Nat.le_refl _, by omega, by simp, hnm.same (Below.heap_alloc _ _ _ hnm.lt), World.ownsRow_nil _ _ _ _, fun k hk => by simp [Value.ownBlock] at hk, fun f hf => by simp at hf, ⟨rfl, Nat.le_refl _, fun i h => by simp at h, fun i h => by simp at h⟩, ?_⟩
  exact (Df.isb_br hby (B := fun k => V.heap.size < k ∧ k < x2.heap.size) (fun k h1 h2 => ⟨by omega, h2⟩)).map (by simp) (fun a x hc _ _ => Bs.cell_up (Bs.below1 x2 _) hc) (fun k hk _ => ⟨by omega, by omega, by simp [Value.ownBlock], by omega⟩)
set_option maxRecDepth 100000 in
set_option maxHeartbeats 2000000 in
theorem buildD_any (w : World) (base r : Nat) (l : List Rx) (H : Ng.Mc w base r l) : Calls Try.prog 10 #[.pointer (some ⟨r, 0, none⟩)] w (Df.BdPost w l) := by
  have zz := Df.zero258.1
  have hl : Nf.onesL l ≤ 2000 := by
    have h1 := H.fit.sz
    have h2 : ∀ l : List Rx, Nf.onesL l ≤ Rx.sizeL l := by
      intro l
      induction l with
      | nil => simp [Nf.onesL, Rx.sizeL]
      | cons x r ih => simp only [Nf.onesL, Rx.sizeL]; have h9 : Nf.ones x ≤ x.size := (by rw [← Nf.sets_len]; exact Rx.sets_le x); omega
    have := h2 l
    omega
  have hll := H.fit.ln
  have HH := Lib.hid H
  have B1 := Bs.below1 w (.cells Df.zT 40)
  have HZ := Lib.hid (heap_alloc_new w (.cells Df.zT 40))
  have C := Lib.hid (classesD_any _ base r l (H.up B1) (by omega))
  have HB1 := Lib.hid B1
  have hs1 : (w.alloc (.cells Df.zT 40)).heap.size = w.heap.size + 1 := by simp
  clear H B1
  go_enter Try.func10, Try.ntmps10
  go_upto_region 1 with fail
  clear zz
  generalize hb2 : w.heap.size = b2 at *
  generalize w.alloc (.cells Df.zT 40) = W1 at *
  go_wp2_with fail
  refine C.out.mono ?_
  rintro e w2 ⟨rfl, hb⟩
  obtain ⟨A, hA⟩ : ∃ A, A = Bs.arr (Df.kg l) := ⟨_, rfl⟩
  have hA2 : Bs.arr (Bs.kls (Df.sts l (Nf.onesL l))) = A := by rw [hA, Df.kg_arr]; rfl
  rw [hA2]
  have hAs : A.size = 256 := by rw [hA]; exact Bs.arr_size _
  have HAS := Lib.hid hAs
  have HINF := Lib.hid (show (Try.prog.info? 36).map (·.size) = some A.size by rw [hAs]; exact Bs.zero256.2)
  have HONE := Lib.hid (show A.all (·.oneCell') = true by rw [hA]; exact Bs.arr_one _)
  have HAH := Lib.hid hA
  have HZ2 := Lib.hid (show w2.heap[b2]? = some (.cells Df.zT 40) by rw [hb.block _ (by omega)]; exact HZ.out)
  have HB2 := Lib.hid (show Below b2 w w2 from HB1.out.trans (hb.mono (by omega)))
  have hs2 : b2 < w2.heap.size := by have := hb.size; omega
  have zz := Bs.zero256.1
  have HZ3 : Hid ((w2.alloc (.cells Bs.zeros 36)).heap[w2.heap.size]? = some (.cells (Bs.arr fun _ => 0) 36)) := Lib.hid (heap_alloc_new w2 _)
  have HZ4 := Lib.hid (show (w2.alloc (.cells Bs.zeros 36)).heap[b2]? = some (.cells Df.zT 40) by rw [Below.heap_alloc _ _ _ hs2]; exact HZ2.out)
  have HB3 := Lib.hid (HB2.out.alloc (o := .cells Bs.zeros 36) (by omega))
  clear hA hA2 hAs hb C HB1 HZ HB2 HZ2
  have hmm := @run_makeMap Try.prog
  go_upto_region 4 with (first
    | (refine wpList_store_row rfl 36 _ _ rfl w2.heap.size A rfl rfl 36 (Bs.arr fun _ => 0) HZ3.out HINF.out (by rw [Bs.arr_size, HAS.out]) HONE.out ?_))
  clear zz
  have HV4 : Hid (((w2.alloc (.cells Bs.zeros 36)).setRow w2.heap.size A).heap[w2.heap.size]? = some (.cells A 36)) := Lib.hid (setRow_heap _ _ _ _ _ _ HZ3.out)
  have HV2 : Hid (((w2.alloc (.cells Bs.zeros 36)).setRow w2.heap.size A).heap[b2]? = some (.cells Df.zT 40)) := Lib.hid (by rw [setRow_other _ _ _ _ (by omega)]; exact HZ4.out)
  have HBV := Lib.hid (show Below b2 w ((w2.alloc (.cells Bs.zeros 36)).setRow w2.heap.size A) by
    have h1 := HB3.out
    rw [← hb2] at h1 hs2 ⊢
    exact Df.below_row h1 (by omega) A)
  have hsV : ((w2.alloc (.cells Bs.zeros 36)).setRow w2.heap.size A).heap.size = w2.heap.size + 1 := by rw [setRow_size]; simp
  generalize hb4 : w2.heap.size = b4 at *
  generalize (w2.alloc (.cells Bs.zeros 36)).setRow b4 A = V at *
  clear HZ3 HZ4 HB3
  have HMV := Lib.hid (show Ng.Mc V base r l from HH.out.up (by rw [hb2]; exact HBV.out))
  have HX4 := Lib.hid (show (V.alloc (.map #[] 0)).heap[b4]? = some (.cells A 36) by rw [Below.heap_alloc _ _ _ (by omega)]; exact HV4.out)
  have C2 := Lib.hid (firsts_any (Df.kg l) (V.alloc (.map #[] 0)) (Df.kg_lt l))
  rw [← HAH.out] at C2
  go_wp2_with (first
    | (refine wpList_load_row rfl 36 _ rfl b4 rfl 36 A (0, 0) _ HX4.out Try.underlying36 rfl HINF.out ?_))
  refine C2.out.mono ?_
  rintro e x2 ⟨v, rfl, hby, hb⟩
  rw [Df.kg_by] at hby
  obtain ⟨av, nv, cv, rfl⟩ := hby.form
  have HWK0 := Df.wk_new (rm := r) hb hby
  obtain ⟨g, hg⟩ : ∃ g, g = V.heap.size := ⟨_, rfl⟩
  rw [← hg] at HWK0
  have hgb : g = b4 + 1 := by rw [hg, hsV]
  subst hgb
  have HWK := Lib.hid HWK0
  clear HWK0 hg
  have C3 := Lib.hid (all_any V base x2.heap.size (b4 + 1) r (.slice av nv cv) l _ HMV.out HWK.out hl (by omega))
  have hbm := HWK.out.bel
  clear C2 hby hb hmm HX4
  go_wp2_with fail
  refine C3.out.mono ?_
  rintro e u hpost
  rcases hpost with ⟨n, vF, vs, nx, rfl, hK, hw, hn, h5, hnx⟩ | ⟨rfl, hno, hbel⟩
  · have hal := Df.al_of hll hw hn
    rw [← hnx] at hal
    have hlen : nx.length = (Df.fs l n).length := by rw [hnx, List.length_map]
    have hbu := hK.bel
    have C4 := Lib.hid (tableW_any V x2.heap.size (b4 + 1) x2.heap.size r (.slice av nv cv) l (Df.idx (Df.fs l n) (Df.s0 l)) ((Df.fs l n).map Df.ft) vF (Df.fs l n) vs nx u hK hlen (by omega) hal.pos (Df.by_ l).length hal.wide (by have := (Df.by_len l).2; omega) hal.in' hal.rl (by omega) hal.st)
    have HWE := Lib.hid hw
    have HNN := Lib.hid hn
    have HNX := Lib.hid hnx
    have HBU := Lib.hid hbu
    have hn5 : n ≤ 501 := h5
    clear hK hw hn hnx hal hlen hbu C3 hbm
    go_wp2_with fail
    refine C4.out.mono ?_
    rintro e y ⟨v8, v9, rows, p, S, rfl, ho8, hrws, hr9, hby, hfi, hpo, m, hsw, hsg, hsm⟩
    obtain ⟨a8, c8, rfl, hsv⟩ := ho8.cells
    obtain ⟨a9, n9, c9, rfl⟩ := hr9.form
    have HPL : Hid (Df.Plan l (Df.fs l n) nx (Df.rl (Df.fs l n)) p (Df.idx (Df.fs l n) (Df.s0 l)) S) := Lib.hid ⟨HH.out.fit, ⟨n, HWE.out, rfl, HNN.out⟩, HNX.out, rfl, rfl, by rw [HNN.out]; exact hn5, hfi, m, hsw, hsg, hsm⟩
    have hYV := HBU.out.trans (hby.mono HBU.out.size)
    have HY4 := Lib.hid (show y.heap[b4]? = some (.cells A 36) by rw [hYV.block _ (by omega)]; exact HV4.out)
    have HY2 := Lib.hid (show y.heap[b2]? = some (.cells Df.zT 40) by rw [hYV.block _ (by omega)]; exact HV2.out)
    have hbW : b2 ≤ V.heap.size := by omega
    have HBY := Lib.hid (HBV.out.trans (hYV.mono hbW))
    have hub : b2 < u.heap.size := by have := HBU.out.size; omega
    have HO8 := Lib.hid ho8
    have HSV := Lib.hid hsv
    have HRS := Lib.hid hrws
    have HR9 := Lib.hid hr9
    have hb3 := Df.build3 (Df.kg l) (.slice a8 rows.length c8) (.slice a9 n9 c9) rfl rfl
    rw [← HAH.out] at hb3
    obtain ⟨D, hD⟩ : ∃ D, D = A ++ #[.slice a8 rows.length c8, .slice a9 n9 c9] := ⟨_, rfl⟩
    rw [← hD] at hb3
    have HD := Lib.hid hD
    have hDs : D.size = 258 := by rw [hD, Array.size_append, HAS.out]; rfl
    have HDS := Lib.hid hDs
    have HDI := Lib.hid (show (Try.prog.info? 40).map (·.size) = some D.size by rw [hDs]; exact Df.zero258.2)
    have HDO := Lib.hid (show D.all (·.oneCell') = true by rw [hD, Array.all_append, HONE.out]; simp [Value.oneCell'])
    clear C4 ho8 hsv hrws hr9 hD hDs hby hfi hpo hsw hsg hsm hYV
    go_wp2_with (first
      | (refine wpList_load_row rfl 36 _ rfl b4 rfl 36 A (0, 0) _ HY4.out Try.underlying36 rfl HINF.out ?_)
      | (refine Df.wpList_built3 rfl 40 _ _ _ rfl (.agg A) (.slice a8 rows.length c8) (.slice a9 n9 c9) rfl rfl rfl D hb3 ?_)
      | (refine wpList_store_row rfl 40 _ _ rfl b2 D rfl rfl 40 Df.zT HY2.out HDI.out (by rw [Df.zT_size, HDS.out]) HDO.out ?_))
    have hld := run_loadVar_row (P := Try.prog) (y.setRow b2 D) b2 40 40 _ (0, 0) _ (setRow_heap _ _ _ _ _ _ HY2.out) Try.underlying40 rfl HDI.out
    refine bodyPost_ret (v := .tuple #[.agg D, .int .i64 0]) ?_ rfl ?_
    · rw [results_cell_tmp (p := 2) (u := 3) (ty := 40) rfl]
      simp [asAddr, Result.andThen, hld]
    · have hor := Df.only_row y b2 D
      have hne : ∀ k, u.heap.size ≤ k → ¬ (k = b2) := fun k hk e => by omega
      have hP := HPL.out
      have hrt := hP.len_s
      have hbl := (Df.by_len l).2
      refine .inl ⟨.agg D, _, _, _, _, S, rfl, ⟨Df.kg_lt l, ⟨a8, rows.length, c8, rows, a9, n9, c9, by rw [HD.out, HAH.out]; rfl, rfl, ?_, ⟨HRS.out.1, fun i h1 h2 => Df.row_far (HRS.out.2 i h1 h2) hor (fun k _ hk => hne k hk) (fun _ _ _ => trivial)⟩, Df.row_far HR9.out hor (fun k _ hk => hne k hk) (fun _ _ _ => trivial)⟩, by simp [Df.tN]; omega, by simp [Df.tR]; omega, fun x hx => ?_⟩, ?_, hP⟩
      · obtain ⟨a8', c8', e8, hsv2⟩ := Ng.Own.cells (hor.row HO8.out (fun k hk => hne k (World.ownsRow.lt HO8.out k hk).1))
        injection e8 with e8
        rw [e8]
        exact hsv2
      · unfold Df.tN at hx
        obtain ⟨q, hq, rfl⟩ := List.mem_map.1 hx
        rw [List.length_map, hP.wide (hP.s_lt q hq)]
        omega
      · have h1 := HBY.out
        rw [← hb2] at h1 ⊢
        exact Df.below_row h1 (Nat.le_refl _) D
  · have HBL := Lib.hid hbel
    have HNO := Lib.hid hno
    have HU2 := Lib.hid (show u.heap[b2]? = some (.cells Df.zT 40) by rw [hbel.block _ (by omega)]; exact HV2.out)
    have hb0 := Df.build0
    have hbW : b2 ≤ V.heap.size := by omega
    have HZS := Lib.hid Df.zT_size
    have HZI := Lib.hid (show (Try.prog.info? 40).map (·.size) = some Df.zT.size by rw [Df.zT_size]; exact Df.zero258.2)
    have HZO := Lib.hid (show Df.zT.all (·.oneCell') = true by unfold Df.zT Bs.zeros; rw [Array.all_append, Bs.arr_one]; simp [Value.oneCell'])
    generalize hzt : Df.zT = D at *
    clear hbel hno C3 hbm
    go_wp2_with (first
      | (refine Df.wpList_built0 rfl 40 rfl D hb0 ?_)
      | (refine wpList_store_row rfl 40 _ _ rfl b2 D rfl rfl 40 D HU2.out HZI.out rfl HZO.out ?_))
    have hld := run_loadVar_row (P := Try.prog) (u.setRow b2 D) b2 40 40 _ (0, 0) _ (setRow_heap _ _ _ _ _ _ HU2.out) Try.underlying40 rfl HZI.out
    refine bodyPost_ret (v := .tuple #[.agg D, .int .i64 21]) ?_ rfl ?_
    · rw [results_cell_tmp (p := 2) (u := 3) (ty := 40) rfl]
      simp [asAddr, Result.andThen, hld]
    · refine .inr ⟨by rw [hzt], ?_, HNO.out⟩
      have h1 := HBV.out.trans (HBL.out.mono hbW)
      rw [← hb2] at h1 ⊢
      exact Df.below_row h1 (Nat.le_refl _) D
end Go.Proofs.Ythapedadnbkgnaa
namespace Go.Proofs.Ythapedadnbkgnaa
set_option linter.unusedVariables false
set_option linter.unusedSimpArgs false
namespace Df
def five : List Fr := [([0, 1, 2], []), ([0, 1], [1]), ([], [0]), ([0, 1], []), ([], [])]
theorem Ex.fronts {l : List Rx} (E : Df.Ex l) {f : Fr} (h : From (nxt l) (F0 l) f) : f ∈ five := by
  induction h with
  | base hx =>
    unfold F0 at hx
    rw [mem_meet, E.s0] at hx
    simp only [List.mem_singleton] at hx
    rcases hx with rfl | rfl <;> simp [five]
  | step _ hy ih =>
    unfold nxt at hy
    obtain ⟨c, hc, rfl⟩ := List.mem_map.1 hy
    have hc := bys_lt hc
    simp only [five, List.mem_cons, List.not_mem_nil, or_false] at ih
    rcases ih with rfl | rfl | rfl | rfl | rfl
    · by_cases e1 : c = 97
      · subst e1; rw [E.a3]; simp [five]
      · by_cases e2 : c = 98
        · subst e2; rw [E.b3]; simp [five]
        · rw [E.n3 c [] hc e1 e2]; simp [five]
    · by_cases e1 : c = 97
      · subst e1; rw [E.a2]; simp [five]
      · by_cases e2 : c = 98
        · subst e2; rw [E.b2]; simp [five]
        · rw [E.n2 c [1] hc e1 e2]; simp [five]
    · rw [sf_nil]; simp [five]
    · by_cases e1 : c = 97
      · subst e1; rw [E.a2]; simp [five]
      · by_cases e2 : c = 98
        · subst e2; rw [E.b2]; simp [five]
        · rw [E.n2 c [] hc e1 e2]; simp [five]
    · rw [sf_nil]; simp [five]
theorem Ex.few {l : List Rx} (E : Df.Ex l) (n : Nat) : (fs l n).length ≤ 5 := by
  have hn : (fs l n).Nodup := gone_nodup _ (F0_nodup l) n
  have := hn.length_le_of_subset (l₂ := five) (fun x hx => E.fronts (gone_from _ _ n x hx))
  simpa [five] using this
variable {l : List Rx} {F : List Fr} {nx : List (List Nat)} {r p : List Int} {st : Nat} {S : List Nat}
theorem Plan.rtg (h : Plan l F nx r p st S) : Df.rt (kg l) (tN p nx S) (tR r S) = true := by rw [kg_rt]; exact h.rt
theorem Plan.says (h : Plan l F nx r p st S) {b : Nat → Nat} (hb : ∀ i, b i < 256) (q : Nat) {k : Int} (hk : rle (Df.fat l b q).2 = k) (h0 : 0 ≤ k) : Df.rlv (kg l) (tN p nx S) (tR r S) (Df.rnv (kg l) (tN p nx S) (tR r S) b q) = (k, true) := by
  have hrt := h.rtg
  have hr := h.rule hb q
  have hge : 0 ≤ Df.rn (kl l) (tN p nx S) b q := by
    refine Int.not_lt.1 fun hlt => ?_
    have := hr.1 hlt
    omega
  obtain ⟨e, hl⟩ := hr.2 hge
  have hN : (tN p nx S).length = S.length := by simp [tN]
  unfold Df.rlv Df.rnv
  rw [if_pos hrt, kg_rn l _ hb, if_pos ⟨hrt, hge, by rw [hN]; omega, by rw [e, hk]; exact h0⟩, e, hk]
theorem Plan.none' (h : Plan l F nx r p st S) {b : Nat → Nat} (hb : ∀ i, b i < 256) {q : Nat} (hq : 0 < q) (hf : Df.fat l b q = ([], [])) : Df.rnv (kg l) (tN p nx S) (tR r S) b q = -1 := by
  unfold Df.rnv
  rw [if_pos h.rtg, kg_rn l _ hb]
  rcases h.at hb q with ⟨e, _⟩ | ⟨j, hj, _, _, e3⟩
  · exact e
  · have := e3 hq
    rw [hf, h.mem0.2.2] at this
    exact absurd rfl this
theorem Ex.aab {l : List Rx} (E : Df.Ex l) : Df.fat l (Px.by ⟨#[97, 97, 98]⟩) 3 = ([], [0]) := by
  show sf l 98 (sf l 97 (sf l 97 (Df.s0 l))) = _
  rw [E.s0, E.a3, E.a2, E.b2]
theorem Ex.a {l : List Rx} (E : Df.Ex l) : Df.fat l (Px.by ⟨#[97]⟩) 1 = ([0, 1], [1]) := by
  show sf l 97 (Df.s0 l) = _
  rw [E.s0, E.a3]
theorem Ex.ba {l : List Rx} (E : Df.Ex l) : Df.fat l (Px.by ⟨#[98, 97]⟩) 2 = ([], []) := by
  show sf l 97 (sf l 98 (Df.s0 l)) = _
  rw [E.s0, E.b3, sf_nil]
end Df
end Go.Proofs.Ythapedadnbkgnaa
namespace Go.Proofs.Ythapedadnbkgnaa
set_option linter.unusedVariables false
set_option linter.unusedSimpArgs false
namespace Sc
def sh (b : Nat → Nat) (at' : Nat) : Nat → Nat := fun i => b (at' + i)
def good (g : Nat → Nat) (N : List (List Int)) (R : List Int) (b : Nat → Nat) : Nat → Int × Nat
  | 0 => (-1, 0)
  | q + 1 => if 0 ≤ Df.rn g N b (q + 1) ∧ 0 ≤ R.getD (Df.rn g N b (q + 1)).toNat (-1) then (R.getD (Df.rn g N b (q + 1)).toNat (-1), q + 1) else good g N R b q
def stop (g : Nat → Nat) (N : List (List Int)) (b : Nat → Nat) : Nat → Nat
  | 0 => 0
  | q + 1 => if 0 ≤ Df.rn g N b q then q + 1 else stop g N b q
structure Pc where
  rule : Int
  upto : Nat
  seen : Nat
def pc (g : Nat → Nat) (N : List (List Int)) (R : List Int) (b : Nat → Nat) (at' d : Nat) : Pc :=
  ⟨(good g N R (sh b at') d).1, at' + (good g N R (sh b at') d).2, at' + stop g N (sh b at') d + if 0 ≤ Df.rn g N (sh b at') d then 1 else 0⟩
variable {g : Nat → Nat} {N : List (List Int)} {R : List Int} {b : Nat → Nat}
theorem good_le : ∀ q, (good g N R b q).2 ≤ q
  | 0 => Nat.le_refl _
  | q + 1 => by
    rw [good]
    split
    · exact Nat.le_refl _
    · have := good_le q
      omega
theorem good_pos : ∀ q, (0 ≤ (good g N R b q).1 ↔ 0 < (good g N R b q).2) ∧ ((good g N R b q).2 = 0 → (good g N R b q).1 = -1)
  | 0 => ⟨by simp [good], fun _ => rfl⟩
  | q + 1 => by
    rw [good]
    split
    · rename_i h
      exact ⟨by simp; exact h.2, fun e => by simp at e⟩
    · exact good_pos q
theorem good_dead {q : Nat} (h : Df.rn g N b q < 0) : ∀ d, good g N R b (q + d) = good g N R b q
  | 0 => rfl
  | d + 1 => by
    have e := Df.rn_stop h (d + 1)
    rw [← Nat.add_assoc] at e
    rw [← Nat.add_assoc, good, if_neg (by rw [e]; omega)]
    exact good_dead h d
theorem stop_dead {q : Nat} (h : Df.rn g N b q < 0) : ∀ d, stop g N b (q + d) = stop g N b q
  | 0 => rfl
  | d + 1 => by
    rw [← Nat.add_assoc, stop, if_neg (by rw [Df.rn_stop h d]; omega)]
    exact stop_dead h d
theorem good_congr {b' : Nat → Nat} : ∀ q, (∀ i, i < q → b' i = b i) → good g N R b' q = good g N R b q
  | 0, _ => rfl
  | q + 1, h => by
    rw [good, good, Df.rn_congr g N (q + 1) h, good_congr q fun i hi => h i (by omega)]
theorem stop_congr {b' : Nat → Nat} : ∀ q, (∀ i, i < q → b' i = b i) → stop g N b' q = stop g N b q
  | 0, _ => rfl
  | q + 1, h => by
    rw [stop, stop, Df.rn_congr g N q fun i hi => h i (by omega), stop_congr q fun i hi => h i (by omega)]
theorem far {b' : Nat → Nat} {q d d' : Nat} (h : Df.rn g N b q < 0) (hb : ∀ i, i < q → b' i = b i) (hd : q ≤ d) (hd' : q ≤ d') : good g N R b' d' = good g N R b d ∧ stop g N b' d' = stop g N b d ∧ Df.rn g N b' d' < 0 ∧ Df.rn g N b d < 0 := by
  have h' : Df.rn g N b' q < 0 := by rw [Df.rn_congr g N q hb]; exact h
  obtain ⟨e, rfl⟩ : ∃ e, d = q + e := ⟨d - q, by omega⟩
  obtain ⟨e', rfl⟩ : ∃ e, d' = q + e := ⟨d' - q, by omega⟩
  refine ⟨by rw [good_dead h', good_dead h, good_congr q hb], by rw [stop_dead h', stop_dead h, stop_congr q hb], ?_, ?_⟩
  · rw [Df.rn_stop h' e']; exact h'
  · rw [Df.rn_stop h e]; exact h
end Sc
end Go.Proofs.Ythapedadnbkgnaa
namespace Go.Proofs.Ythapedadnbkgnaa
set_option linter.unusedVariables false
set_option linter.unusedSimpArgs false
namespace Sc
structure Lx where
  rule : Int
  at' : Int
  upto : Int
  seen : Int
def px (g : Nat → Nat) (N : List (List Int)) (R : List Int) (b : Nat → Nat) (n a : Nat) : Lx := ⟨(pc g N R b a (n - a)).rule, a, (pc g N R b a (n - a)).upto, (pc g N R b a (n - a)).seen⟩
def On (g : Nat → Nat) (N : List (List Int)) (R : List Int) (b : Nat → Nat) (n a : Nat) : Prop := a < n ∧ 0 ≤ (pc g N R b a (n - a)).rule
def Ch (g : Nat → Nat) (N : List (List Int)) (R : List Int) (b : Nat → Nat) (n : Nat) : Nat → List Lx → Nat → Prop
  | a, [], c => a = c
  | a, x :: r, c => On g N R b n a ∧ x = px g N R b n a ∧ Ch g N R b n (pc g N R b a (n - a)).upto r c
variable {g : Nat → Nat} {N : List (List Int)} {R : List Int} {b : Nat → Nat} {n : Nat}
theorem Ch.one : ∀ {a c c' : Nat} {l l' : List Lx}, Ch g N R b n a l c → ¬ On g N R b n c → Ch g N R b n a l' c' → ¬ On g N R b n c' → l = l' ∧ c = c'
  | _, _, _, [], [], h, _, h', _ => ⟨rfl, Eq.trans (Eq.symm h) h'⟩
  | _, _, _, [], _ :: _, h, hn, h', _ => by
    simp only [Ch] at h h'
    exact absurd (h ▸ h'.1) hn
  | _, _, _, _ :: _, [], h, _, h', hn' => by
    simp only [Ch] at h h'
    exact absurd (h' ▸ h.1) hn'
  | _, _, _, _ :: _, _ :: _, h, hn, h', hn' => by
    obtain ⟨_, rfl, h3⟩ := h
    obtain ⟨_, rfl, h3'⟩ := h'
    obtain ⟨rfl, rfl⟩ := Ch.one h3 hn h3' hn'
    exact ⟨rfl, rfl⟩
theorem Ch.snoc : ∀ {a c : Nat} {l : List Lx}, Ch g N R b n a l c → On g N R b n c → Ch g N R b n a (l ++ [px g N R b n c]) (pc g N R b c (n - c)).upto
  | _, _, [], h, hc => by
    simp only [Ch] at h
    subst h
    exact ⟨hc, rfl, rfl⟩
  | _, _, _ :: _, h, hc => ⟨h.1, h.2.1, Ch.snoc h.2.2 hc⟩
theorem pc_le (a : Nat) (h : a ≤ n) : a ≤ (pc g N R b a (n - a)).upto ∧ (pc g N R b a (n - a)).upto ≤ n := by
  have := good_le (g := g) (N := N) (R := R) (b := sh b a) (n - a)
  simp only [pc]
  omega
theorem pc_pos {a : Nat} (h : On g N R b n a) : a < (pc g N R b a (n - a)).upto := by
  have := (good_pos (g := g) (N := N) (R := R) (b := sh b a) (n - a)).1
  have h2 : 0 ≤ (good g N R (sh b a) (n - a)).1 := h.2
  have := this.1 h2
  simp only [pc]
  omega
theorem Ch.le : ∀ {a c : Nat} {l : List Lx}, Ch g N R b n a l c → a ≤ n → a + l.length ≤ c ∧ c ≤ n
  | _, _, [], h, ha => by simp only [Ch] at h; subst h; simpa using ha
  | _, _, _ :: _, h, ha => by
    have h1 := pc_pos h.1
    have h2 := (pc_le (g := g) (N := N) (R := R) (b := b) _ ha).2
    have := Ch.le h.2.2 h2
    simp only [List.length_cons]
    omega
theorem Ch.drop : ∀ {a c : Nat} {l : List Lx} (i : Nat), Ch g N R b n a l c → i ≤ l.length → ∃ m, Ch g N R b n a (l.take i) m ∧ Ch g N R b n m (l.drop i) c
  | a, _, _, 0, h, _ => ⟨a, rfl, h⟩
  | _, _, [], i + 1, _, hi => by simp at hi
  | _, _, _ :: r, i + 1, h, hi => by
    obtain ⟨m, h1, h2⟩ := Ch.drop i h.2.2 (by simpa using hi)
    exact ⟨m, ⟨h.1, h.2.1, h1⟩, h2⟩
end Sc
end Go.Proofs.Ythapedadnbkgnaa
namespace Go.Proofs.Ythapedadnbkgnaa
set_option linter.unusedVariables false
set_option linter.unusedSimpArgs false
open Go.RowKit
def Sc.val (x : Sc.Lx) : Array Value := #[.int .i64 x.rule, .int .i64 x.at', .int .i64 x.upto, .int .i64 x.seen]
def Sc.LB (u : World) (c : Nat) (x : Sc.Lx) : Prop := u.heap[c]? = some (.cells (Sc.val x) 47)
theorem Sc.LB.lt {u : World} {c : Nat} {x : Sc.Lx} (h : Sc.LB u c x) : c < u.heap.size := (Array.getElem?_eq_some_iff.1 h).1
theorem Sc.LB.up {u u' : World} {c : Nat} {x : Sc.Lx} (h : Sc.LB u c x) (hb : Below u.heap.size u u') : Sc.LB u' c x := by
  unfold Sc.LB
  rw [hb.block _ h.lt]
  exact h
theorem Sc.LB.far {u : World} {c d i : Nat} {x : Sc.Lx} (h : Sc.LB u c x) (hn : c ≠ d) (v : Value) : Sc.LB (u.setCell ⟨d, i, none⟩ v) c x := by
  unfold Sc.LB
  rw [Below.heap_setCell _ _ _ _ hn]
  exact h
theorem Sc.LB.far4 {u : World} {c d : Nat} {x : Sc.Lx} (h : Sc.LB u c x) (hn : c ≠ d) (v1 v2 v3 v4 : Value) : Sc.LB ((((u.setCell ⟨d, 0, none⟩ v1).setCell ⟨d, 1, none⟩ v2).setCell ⟨d, 2, none⟩ v3).setCell ⟨d, 3, none⟩ v4) c x :=
  (((h.far hn _).far hn _).far hn _).far hn _
theorem Sc.LB.set {u : World} {c i : Nat} {x y : Sc.Lx} (h : Sc.LB u c x) (v : Value) (e : (Sc.val x).setIfInBounds i v = Sc.val y) : Sc.LB (u.setCell ⟨c, i, none⟩ v) c y := by
  unfold Sc.LB at h ⊢
  rw [setCell_eq_setRow _ _ _ _ _ _ _ h, setRow_heap _ _ _ _ _ _ h, e]
theorem Sc.LB.all {u : World} {c : Nat} {x : Sc.Lx} (h : Sc.LB u c x) (y : Sc.Lx) : Sc.LB ((((u.setCell ⟨c, 0, none⟩ (.int .i64 y.rule)).setCell ⟨c, 1, none⟩ (.int .i64 y.at')).setCell ⟨c, 2, none⟩ (.int .i64 y.upto)).setCell ⟨c, 3, none⟩ (.int .i64 y.seen)) c y := by
  have h0 := h.set (i := 0) (y := ⟨y.rule, x.at', x.upto, x.seen⟩) (.int .i64 y.rule) rfl
  have h1 := h0.set (i := 1) (y := ⟨y.rule, y.at', x.upto, x.seen⟩) (.int .i64 y.at') rfl
  have h2 := h1.set (i := 2) (y := ⟨y.rule, y.at', y.upto, x.seen⟩) (.int .i64 y.upto) rfl
  exact h2.set (i := 3) (y := ⟨y.rule, y.at', y.upto, y.seen⟩) (.int .i64 y.seen) rfl
theorem Sc.LB.cells {u : World} {c : Nat} {x : Sc.Lx} (h : Sc.LB u c x) : u.cell? ⟨c, 0, none⟩ = some (.int .i64 x.rule) ∧ u.cell? ⟨c, 1, none⟩ = some (.int .i64 x.at') ∧ u.cell? ⟨c, 2, none⟩ = some (.int .i64 x.upto) ∧ u.cell? ⟨c, 3, none⟩ = some (.int .i64 x.seen) := by
  refine ⟨?_, ?_, ?_, ?_⟩ <;> rw [cell_of_row _ _ _ _ _ _ h] <;> rfl
theorem Sc.LB.frz {u : World} {c : Nat} {x : Sc.Lx} (h : Sc.LB u c x) (i : Nat) : u.frozen? ⟨c, i, none⟩ = false := by
  unfold Sc.LB at h
  simp [World.frozen?, h]
structure Sc.RB (u : World) (b : Nat) (g : Nat → Nat) (N : List (List Int)) (R : List Int) (s : ByteArray) (a1 : Option Addr) (n1 c1 : Nat) (a2 : Option Addr) (n2 c2 : Nat) (rows : List Value) : Prop where
  tb : Df.TB u b g (.slice a1 n1 c1) (.slice a2 n2 c2)
  tx : u.cell? ⟨b, 258, none⟩ = some (.string s)
  sv : Ng.Sv u a1 rows
  rw' : Df.Rws u rows N
  rl : Nf.Row u (fun _ => True) (.slice a2 n2 c2) R
theorem Sc.RB.up {u u' : World} {b : Nat} {g : Nat → Nat} {N : List (List Int)} {R : List Int} {s : ByteArray} {a1 : Option Addr} {n1 c1 : Nat} {a2 : Option Addr} {n2 c2 : Nat} {rows : List Value} (h : Sc.RB u b g N R s a1 n1 c1 a2 n2 c2 rows) (hb : Below u.heap.size u u') : Sc.RB u' b g N R s a1 n1 c1 a2 n2 c2 rows :=
  ⟨h.tb.up hb, Bs.cell_up hb h.tx, h.sv.up hb, h.rw'.up hb, h.rl.up hb⟩
def Sc.now (g : Nat → Nat) (N : List (List Int)) (R : List Int) (b : Nat → Nat) (a q : Nat) : Sc.Lx := ⟨(Sc.good g N R (Sc.sh b a) q).1, a, ((a + q : Nat) : Int), 0⟩
def Sc.best (g : Nat → Nat) (N : List (List Int)) (R : List Int) (b : Nat → Nat) (a q : Nat) : Sc.Lx := ⟨(Sc.good g N R (Sc.sh b a) q).1, a, ((a + (Sc.good g N R (Sc.sh b a) q).2 : Nat) : Int), 0⟩
structure Sc.PI (w0 : World) (g : Nat → Nat) (N : List (List Int)) (R : List Int) (s : ByteArray) (at' rb nb gb q : Nat) (u : World) : Prop where
  m0 : Sc.LB u rb ⟨0, 0, 0, 0⟩
  m1 : Sc.LB u nb (Sc.now g N R (Px.by s) at' q)
  m2 : Sc.LB u gb (Sc.best g N R (Px.by s) at' q)
  bel : Below w0.heap.size w0 u
theorem Sc.PI.step {w0 : World} {g : Nat → Nat} {N : List (List Int)} {R : List Int} {s : ByteArray} {at' rb nb gb q : Nat} {u : World} (h : Sc.PI w0 g N R s at' rb nb gb q u) (h1 : rb ≠ nb) (h2 : nb ≠ gb) (h3 : w0.heap.size ≤ nb) (n : Nat) :
    Sc.LB ((u.drewN n).setCell ⟨nb, 2, none⟩ (.int .i64 ((at' : Int) + (q : Int) + 1))) rb ⟨0, 0, 0, 0⟩ ∧ Sc.LB ((u.drewN n).setCell ⟨nb, 2, none⟩ (.int .i64 ((at' : Int) + (q : Int) + 1))) nb ⟨(Sc.good g N R (Sc.sh (Px.by s) at') q).1, at', (at' : Int) + (q : Int) + 1, 0⟩ ∧ Sc.LB ((u.drewN n).setCell ⟨nb, 2, none⟩ (.int .i64 ((at' : Int) + (q : Int) + 1))) gb (Sc.best g N R (Px.by s) at' q) ∧ Below w0.heap.size w0 ((u.drewN n).setCell ⟨nb, 2, none⟩ (.int .i64 ((at' : Int) + (q : Int) + 1))) := by
  have hd := below_drewN (Below.refl u.heap.size u) n
  exact ⟨(h.m0.up hd).far h1 _, (h.m1.up hd).set _ rfl, (h.m2.up hd).far (Ne.symm h2) _, (below_drewN h.bel n).setCell h3 _⟩
end Go.Proofs.Ythapedadnbkgnaa
namespace Go.Proofs.Ythapedadnbkgnaa
set_option linter.unusedVariables false
set_option linter.unusedSimpArgs false
open Go.RowKit
def Sc.cells (l : List Sc.Lx) : List Value := l.flatMap fun x => [.int .i64 x.rule, .int .i64 x.at', .int .i64 x.upto, .int .i64 x.seen]
theorem Sc.cells_append (a b : List Sc.Lx) : Sc.cells (a ++ b) = Sc.cells a ++ Sc.cells b := by simp [Sc.cells]
theorem Sc.cells_at : ∀ (l : List Sc.Lx) (k : Nat) (h : k < l.length), (Sc.cells l)[k * 4]? = some (.int .i64 l[k].rule) ∧ (Sc.cells l)[k * 4 + 1]? = some (.int .i64 l[k].at') ∧ (Sc.cells l)[k * 4 + 2]? = some (.int .i64 l[k].upto) ∧ (Sc.cells l)[k * 4 + 3]? = some (.int .i64 l[k].seen)
  | x :: r, 0, h => ⟨rfl, rfl, rfl, rfl⟩
  | x :: r, k + 1, h => by
    have ih := Sc.cells_at r k (by simpa using h)
    have e0 : Sc.cells (x :: r) = [.int .i64 x.rule, .int .i64 x.at', .int .i64 x.upto, .int .i64 x.seen] ++ Sc.cells r := rfl
    rw [e0]
    have a0 : (k + 1) * 4 = 4 + k * 4 := by omega
    have a1 : (k + 1) * 4 + 1 = 4 + (k * 4 + 1) := by omega
    have a2 : (k + 1) * 4 + 2 = 4 + (k * 4 + 2) := by omega
    have a3 : (k + 1) * 4 + 3 = 4 + (k * 4 + 3) := by omega
    rw [a1, a2, a3, a0, List.getElem?_append_right (by simp), List.getElem?_append_right (by simp), List.getElem?_append_right (by simp), List.getElem?_append_right (by simp)]
    simpa using ih
theorem Sc.infoLex : (Try.prog.info? 47).map (fun i => (i.zero, i.size, i.bytes)) = some (some (.agg #[.int .i64 0, .int .i64 0, .int .i64 0, .int .i64 0]), 4, 32) := by kernel_rfl
def Sc.Own (base : Nat) (v : Value) (l : List Sc.Lx) (w : World) : Prop := w.ownsRow base 47 4 v l.length (Sc.cells l)
theorem Sc.Own.up {base : Nat} {v : Value} {l : List Sc.Lx} {w w' : World} (h : Sc.Own base v l w) (hb : Below w.heap.size w w') : Sc.Own base v l w' := Bs.row_up h hb
set_option maxRecDepth 100000 in
theorem Sc.append {ops : Array Oper} {rest : List Oper} {o : Oper} {a : Act} {Q : Exit → Act → World → Prop} {W : World} (hgd : o.guard = none) (s x : Operand)
    (ho : o.op = .call { callee := .builtin .append, args := #[s, x], argTypes := #[85, 85] })
    (base : Nat) (v : Value) (l : List Sc.Lx) (hs : a.eval s = v) (O : Sc.Own base v l W) (B c : Nat) (y : Sc.Lx) (hx : a.eval x = .slice (some ⟨B, 0, none⟩) 1 c) (hB : W.heap[B]? = some (.cells #[.int .i64 y.rule, .int .i64 y.at', .int .i64 y.upto, .int .i64 y.seen] 47)) (hl : l.length ≤ 1000000) (hbase : base ≤ W.heap.size)
    (h : ∀ g cap w', Sc.Own base (.slice (some ⟨g, 0, none⟩) (l.length + 1) cap) (l ++ [y]) w' → W.grownBy w' v.ownBlock → (v.ownBlock = some g ∨ g = W.heap.size) → wpList Try.prog ops Q rest (a.put o.dst (.slice (some ⟨g, 0, none⟩) (l.length + 1) cap)) w') : wpList Try.prog ops Q (o :: rest) a W := by
  obtain ⟨iI, hiI, hz0, hz1, hz2⟩ := info_parts Sc.infoLex
  refine wpList_append_lies W hgd s x 85 ho base 47 iI _ 4 32 Try.underlying85 hiI hz0 hz1 hz2 rfl (by decide) v l.length (Sc.cells l) hs O ⟨B, 0, none⟩ 1 c [.int .i64 y.rule, .int .i64 y.at', .int .i64 y.upto, .int .i64 y.seen] hx rfl (World.news_of_block hB) (by simp [Value.oneCell']) (by decide) (by unfold maxLen; omega) (by omega) hbase _ rfl ?_
  intro g cap w' o1 o2 o3 _
  exact h g cap w' (by unfold Sc.Own; rw [List.length_append, Sc.cells_append]; exact o1) o2 o3
theorem Sc.add_is (g j : Nat) : (⟨g, 0, none⟩ : Addr).add j = ⟨g, j, none⟩ := by unfold Addr.add; split <;> simp_all
structure Sc.At (w : World) (p : Addr) (x : Sc.Lx) : Prop where
  c0 : w.cell? p = some (.int .i64 x.rule)
  c1 : w.cell? ⟨p.block, p.off + 1, none⟩ = some (.int .i64 x.at')
  c2 : w.cell? ⟨p.block, p.off + 2, none⟩ = some (.int .i64 x.upto)
  c3 : w.cell? ⟨p.block, p.off + 3, none⟩ = some (.int .i64 x.seen)
theorem Sc.At.up {w w' : World} {p : Addr} {x : Sc.Lx} (h : Sc.At w p x) (hb : Below w.heap.size w w') : Sc.At w' p x := ⟨Bs.cell_up hb h.c0, Bs.cell_up hb h.c1, Bs.cell_up hb h.c2, Bs.cell_up hb h.c3⟩
def Sc.Row (w : World) (v : Value) (l : List Sc.Lx) : Prop := ∃ a c, v = .slice a l.length c ∧ ∀ i (h : i < l.length), ∃ p, a = some p ∧ Sc.At w (p.add (i * 4)) l[i]
theorem Sc.Row.up {w w' : World} {v : Value} {l : List Sc.Lx} (h : Sc.Row w v l) (hb : Below w.heap.size w w') : Sc.Row w' v l := by
  obtain ⟨a, c, e, h⟩ := h
  exact ⟨a, c, e, fun i hi => by obtain ⟨p, e, h⟩ := h i hi; exact ⟨p, e, h.up hb⟩⟩
theorem Sc.Own.row {base : Nat} {v : Value} {l : List Sc.Lx} {w : World} (h : Sc.Own base v l w) : Sc.Row w v l := by
  rcases h.2 with ⟨rfl, h0⟩ | ⟨g, cap, cur, rfl, _⟩
  · have e : l = [] := List.length_eq_zero_iff.1 h0
    subst e
    exact ⟨none, 0, rfl, fun i hi => by simp at hi⟩
  · refine ⟨some ⟨g, 0, none⟩, cap, rfl, fun i hi => ⟨⟨g, 0, none⟩, rfl, ?_⟩⟩
    have hc := Sc.cells_at l i hi
    have k0 := World.ownsRow.cells h (g := g) rfl _ _ hc.1
    have k1 := World.ownsRow.cells h (g := g) rfl _ _ hc.2.1
    have k2 := World.ownsRow.cells h (g := g) rfl _ _ hc.2.2.1
    have k3 := World.ownsRow.cells h (g := g) rfl _ _ hc.2.2.2
    rw [Sc.add_is] at k0 k1 k2 k3 ⊢
    exact ⟨k0, k1, k2, k3⟩
end Go.Proofs.Ythapedadnbkgnaa
