/- A state's number: table's closure, walked. The worlds of table's loops. -/
import Derived.Test.YthapedadnbkgnaaG27
namespace Go.Proofs.Ythapedadnbkgnaa
set_option linter.unusedVariables false
set_option linter.unusedSimpArgs false
open Go.RowKit
open Go.Maps (Keyed)
theorem Df.keyedI : Keyed Try.prog 3 := Maps.int_keyed Try.underlying3
theorem Df.wf_z {z : Int} (h : -1 ≤ z ∧ z < 1000000) : (Lit.int .i64 z).wf = true := by
  simp [Lit.wf, IntKind.min, IntKind.max, IntKind.signed, IntKind.bits]
  omega
structure Df.IInv (ks : List Int) (D : DataW Unit) : Prop where
  has : ∀ z : Int, Maps.has D (.int .i64 z) = decide (z ∈ ks)
  at' : ∀ z : Int, z ∈ ks → ∀ d, D.atKey (.int .i64 z) d = .lit (.int .i64 (Df.idx ks z : Nat))
  size : Maps.size D = ks.length
theorem Df.iinv_nil : Df.IInv [] (.map []) := ⟨fun t => by simp [Maps.has_eq], fun t h => by simp at h, rfl⟩
theorem Df.lit_inj {a b : Int} (h : (Lit.int .i64 a) = Lit.int .i64 b) : a = b := by injection h
theorem Df.IInv.new {ks : List Int} {D : DataW Unit} (h : Df.IInv ks D) (hD : Maps.Tidy D) {z : Int} (hn : z ∉ ks) : Df.IInv (ks ++ [z]) (D.put (.int .i64 z) (.lit (.int .i64 (ks.length : Nat)))) := by
  have kl : ∀ z : Int, WideAt.IsKeyLit (.int .i64 z) := fun z => trivial
  refine ⟨fun x => ?_, fun x hx d => ?_, ?_⟩
  · by_cases e : x = z
    · subst e
      rw [Maps.has_put_same hD.isMap (kl _)]
      simp
    · rw [Maps.has_put_other (fun e2 => e (Df.lit_inj e2)), h.has x]
      simp [e]
  · rw [List.mem_append, List.mem_singleton] at hx
    rcases hx with hx | rfl
    · rw [Maps.atKey_put_other (fun e2 => hn (by rw [← Df.lit_inj e2]; exact hx)), h.at' x hx, Df.idx_snoc hx]
    · rw [Maps.atKey_put_same hD.isMap (kl _), Df.idx_new hn]
  · have h0 : Maps.has D (.int .i64 z) = false := by rw [h.has z]; simp [hn]
    rw [Maps.size_put hD, h0, h.size]
    simp
def Df.Im (w : World) (b : Nat) (ks : List Int) : Prop := ∃ D : DataW Unit, w.ownsMap Try.prog 3 (plainElem Try.prog 3) b ks.length D ∧ Df.IInv ks D
theorem Df.Im.lt {u : World} {b : Nat} {ks : List Int} (h : Df.Im u b ks) : b < u.heap.size := by
  obtain ⟨D, h, _⟩ := h
  exact h.lt
theorem Df.Im.same {u u' : World} {b : Nat} {ks : List Int} (h : Df.Im u b ks) (hs : u'.heap[b]? = u.heap[b]?) : Df.Im u' b ks := by
  obtain ⟨D, ⟨es, clock, hb, h1⟩, hI⟩ := h
  exact ⟨D, ⟨es, clock, hs.trans hb, h1⟩, hI⟩
theorem Df.im_new (w : World) : Df.Im (w.alloc (.map #[] 0)) w.heap.size [] := ⟨.map [], World.ownsMap_made w _ _ _, Df.iinv_nil⟩
def Df.lkv (ks : List Int) (z : Int) : Int := if z ∈ ks then (Df.idx ks z : Nat) else 0
set_option maxRecDepth 100000 in
theorem Df.Im.look {u : World} {b : Nat} {ks : List Int} (h : Df.Im u b ks) {z : Int} (hz : -1 ≤ z ∧ z < 1000000) : (Instr.lookup 121 (.map (some b)) (.int .i64 z) true).run Try.prog u = .ok (.tuple #[.int .i64 (Df.lkv ks z), .bool (decide (z ∈ ks))]) u := by
  obtain ⟨D, hown, hI⟩ := h
  obtain ⟨v, ps, hrun, hv⟩ := hown.look_ok Df.keyedI (t := 121) (e := 3) Try.underlying121 (Df.zeroInt u) (plainElem_int (H := Unit) Try.underlying3 (by decide)) (Maps.keyOf_int_mk Try.underlying3 (Df.wf_z hz))
  obtain ⟨c, rfl, hc, _⟩ := plainElem_int_inv Try.underlying3 hv
  rw [hI.has z] at hrun
  have h2 := congrArg Prod.fst hc
  simp only at h2
  have hcv : c = Df.lkv ks z := by
    unfold Df.lkv
    by_cases hm : z ∈ ks
    · rw [if_pos hm]
      rw [hI.at' z hm] at h2
      injection h2 with h2
      injection h2 with _ h2
      exact h2.symm
    · rw [if_neg hm]
      have h0 : Maps.has D (.int .i64 z) = false := by rw [hI.has z]; simp [hm]
      rw [Maps.atKey_of_not_has h0] at h2
      injection h2 with h2
      injection h2 with _ h2
      exact h2.symm
  rw [hcv] at hrun
  exact hrun
theorem Df.Im.add {u : World} {b : Nat} {ks : List Int} (h : Df.Im u b ks) {z : Int} (hz : -1 ≤ z ∧ z < 1000000) (hn : z ∉ ks) (hl : ks.length ≤ 1000000) : ∃ u', (Instr.mapUpdate 121 (.map (some b)) (.int .i64 z) (.int .i64 (ks.length : Nat))).run Try.prog u = .ok () u' ∧ Df.Im u' b (ks ++ [z]) ∧ u.grownBy u' (some b) := by
  obtain ⟨D, hown, hI⟩ := h
  have hnew := hI.new (hown.tidy Df.keyedI) hn
  obtain ⟨u', hrun, ho, hg⟩ := hown.update Df.keyedI (t := 121) (e := 3) Try.underlying121 (by unfold maxLen; omega) (Maps.keyOf_int_mk Try.underlying3 (Df.wf_z hz)) (plainElem_int (H := Unit) Try.underlying3 (Df.wf_i64 (n := ks.length) (by omega)))
  exact ⟨u', hrun, ⟨_, by rw [List.length_append]; exact ho, hnew⟩, hg⟩
def Df.W6 (b6 bm : Nat) (vS : Value) (k : Nat) : Prop := k = b6 ∨ k = bm ∨ some k = vS.ownBlock
structure Df.TS (W1 : World) (b4 b5 b6 bm : Nat) (p : List Int) (vp : Value) (S : List Nat) (vS : Value) (u : World) : Prop where
  bel : Below W1.heap.size W1 u
  cp : u.cell? ⟨b4, 0, none⟩ = some vp
  cm : u.cell? ⟨b5, 0, none⟩ = some (.map (some bm))
  cs : u.cell? ⟨b6, 0, none⟩ = some vS
  zs : u.frozen? ⟨b6, 0, none⟩ = false
  rp : Nf.Row u (fun k => ¬ Df.W6 b6 bm vS k) vp p
  im : Df.Im u bm (S.map fun k => p.getD k 0)
  os : Nf.Own W1.heap.size vS (Ng.nums S) u
  h4 : ¬ Df.W6 b6 bm vS b4
  h5 : ¬ Df.W6 b6 bm vS b5
  h6 : b6 ≠ bm ∧ some b6 ≠ vS.ownBlock
  hm : some bm ≠ vS.ownBlock
  l6 : W1.heap.size ≤ b6
  lm : W1.heap.size ≤ bm
theorem Df.TS.up {W1 : World} {b4 b5 b6 bm : Nat} {p : List Int} {vp : Value} {S : List Nat} {vS : Value} {u u' : World} (h : Df.TS W1 b4 b5 b6 bm p vp S vS u) (hb : Below u.heap.size u u') : Df.TS W1 b4 b5 b6 bm p vp S vS u' :=
  ⟨Bs.below_up h.bel hb, Bs.cell_up hb h.cp, Bs.cell_up hb h.cm, Bs.cell_up hb h.cs, by rw [hb.frozen (World.block_lt_of_cell? u _ h.cs)]; exact h.zs, h.rp.up hb, h.im.same (hb.block _ h.im.lt), h.os.up hb, h.h4, h.h5, h.h6, h.hm, h.l6, h.lm⟩
def Df.SPost (W1 : World) (b4 b5 b6 bm : Nat) (p : List Int) (vp : Value) (S : List Nat) (vS : Value) (k : Nat) (u : World) (e : Ending) (u' : World) : Prop :=
  e = .returned (.int .i64 (Df.sNum (fun k => p.getD k 0) S k)) ∧ ∃ vS', Df.TS W1 b4 b5 b6 bm p vp (Df.sMeet (fun k => p.getD k 0) S k) vS' u' ∧ Ng.Only u u' (Df.W6 b6 bm vS) ∧ Df.Nx vS vS' u.heap.size
theorem Df.row_keep {b6 bm : Nat} {vS vS' : Value} {u u' : World} {v : Value} {l : List Int} (h : Nf.Row u (fun k => ¬ Df.W6 b6 bm vS k) v l) (ho : Ng.Only u u' (Df.W6 b6 bm vS)) (hx : Df.Nx vS vS' u.heap.size) : Nf.Row u' (fun k => ¬ Df.W6 b6 bm vS' k) v l := by
  have h' := h.lt
  obtain ⟨a, cap, e, h1, h2, h3, h4⟩ := h'
  refine ⟨a, cap, e, h1, h2, fun i hi => ?_, fun x ex hl => ?_⟩
  · obtain ⟨x, ex, hc⟩ := h3 i hi
    have hx2 : (x.add i).block = x.block := by simp only [Addr.add]; split <;> rfl
    have h5 := h4 x ex (fun e0 => by rw [e0] at hi; simp at hi)
    exact ⟨x, ex, ho.cell hc (by rw [hx2]; exact h5.1)⟩
  · have h5 := h4 x ex hl
    rintro (e1 | e1 | e1)
    · exact h5.1 (.inl e1)
    · exact h5.1 (.inr (.inl e1))
    · rcases hx _ e1.symm with e2 | e2
      · exact h5.1 (.inr (.inr e2.symm))
      · have := h5.2; omega
theorem Df.TS.add {W1 : World} {b4 b5 b6 bm : Nat} {p : List Int} {vp : Value} {S : List Nat} {vS : Value} {x y w9 : World} (h : Df.TS W1 b4 b5 b6 bm p vp S vS x) {k : Nat} (him : Df.Im y bm ((S ++ [k]).map fun k => p.getD k 0)) (hg : x.grownBy y (some bm)) (o : Obj) {g9 n9 cp9 : Nat}
    (hg9 : (y.alloc o).grownBy w9 vS.ownBlock) (ho9 : Nf.Own W1.heap.size (.slice (some ⟨g9, 0, none⟩) n9 cp9) (Ng.nums (S ++ [k])) w9) (hl9 : vS.ownBlock = some g9 ∨ g9 = (y.alloc o).heap.size) :
    Df.TS W1 b4 b5 b6 bm p vp (S ++ [k]) (.slice (some ⟨g9, 0, none⟩) n9 cp9) (w9.setCell ⟨b6, 0, none⟩ (.slice (some ⟨g9, 0, none⟩) n9 cp9)) ∧ Ng.Only x (w9.setCell ⟨b6, 0, none⟩ (.slice (some ⟨g9, 0, none⟩) n9 cp9)) (Df.W6 b6 bm vS) ∧ Df.Nx vS (.slice (some ⟨g9, 0, none⟩) n9 cp9) x.heap.size := by
  have hs1 := hg.size
  have hsa : (y.alloc o).heap.size = y.heap.size + 1 := by simp
  have o1 := Ng.Only.of_grown hg
  have o2 := Df.only_below (Bs.below1 y o) (Df.W6 b6 bm vS)
  have o3 := (Ng.Only.of_grown hg9).set b6 0 (.slice (some ⟨g9, 0, none⟩) n9 cp9)
  have ho : Ng.Only x (w9.setCell ⟨b6, 0, none⟩ (.slice (some ⟨g9, 0, none⟩) n9 cp9)) (Df.W6 b6 bm vS) := by
    refine Df.Only.trans' (Df.Only.trans' ⟨o1.os, o1.tape, o1.output, o1.size, fun k hk hp => o1.block k hk (fun e => hp (.inr (.inl (by injection e with e; exact e.symm))))⟩ o2 (fun _ _ h => h)) o3 (fun k hk hp => ?_)
    rcases hp with e | e
    · exact .inr (.inr e.symm)
    · exact .inl e
  have hx : Df.Nx vS (.slice (some ⟨g9, 0, none⟩) n9 cp9) x.heap.size := fun k hk => by
    simp only [Value.ownBlock] at hk
    injection hk with hk
    subst hk
    rcases hl9 with e | e
    · exact .inl e
    · exact .inr (by omega)
  have low : ∀ k, Df.W6 b6 bm vS k → W1.heap.size ≤ k := fun k hk => by
    rcases hk with rfl | rfl | e
    · exact h.l6
    · exact h.lm
    · exact (World.ownsRow.lt h.os k e.symm).1
  have far : ∀ k, k < x.heap.size → ¬ Df.W6 b6 bm vS k → ¬ Df.W6 b6 bm (.slice (some ⟨g9, 0, none⟩) n9 cp9) k := fun k hk hn hw => by
    rcases hw with e | e | e
    · exact hn (.inl e)
    · exact hn (.inr (.inl e))
    · rcases hx _ e.symm with e2 | e2
      · exact hn (.inr (.inr e2.symm))
      · omega
  have lb4 := World.block_lt_of_cell? x _ h.cp
  have lb5 := World.block_lt_of_cell? x _ h.cm
  have lb6 := World.block_lt_of_cell? x _ h.cs
  have lbm : bm < x.heap.size := by
    have h1 : bm ≠ x.heap.size := fun e => by
      have := h.im.lt
      omega
    have := h.im.lt
    omega
  simp only at lb4 lb5 lb6
  have g6 : g9 ≠ b6 := fun e => by
    rcases hl9 with e2 | e2
    · exact h.h6.2 (by rw [e2, e])
    · omega
  have gm : g9 ≠ bm := fun e => by
    rcases hl9 with e2 | e2
    · exact h.hm (by rw [e2, e])
    · omega
  have n6 : ¬ (some bm = some b6) := fun e => h.h6.1 (by injection e with e; exact e.symm)
  have cs1 := Bs.cell_up (Bs.below1 y o) (o1.cell h.cs n6)
  have n9' : ¬ (vS.ownBlock = some b6) := fun e => h.h6.2 e.symm
  have cs9 := (Ng.Only.of_grown hg9).cell cs1 n9'
  have zs1 : y.frozen? ⟨b6, 0, none⟩ = false := by rw [o1.frozen lb6 n6]; exact h.zs
  have zs2 : (y.alloc o).frozen? ⟨b6, 0, none⟩ = false := by rw [(Bs.below1 y o).frozen (World.block_lt_of_cell? y _ (o1.cell h.cs n6))]; exact zs1
  have zs9 : w9.frozen? ⟨b6, 0, none⟩ = false := by rw [(Ng.Only.of_grown hg9).frozen (World.block_lt_of_cell? _ _ cs1) n9']; exact zs2
  refine ⟨⟨h.bel.trans (ho.below low h.bel.size), ho.cell h.cp h.h4, ho.cell h.cm h.h5, by simp [go_sem, cs9], by simpa [go_sem] using zs9, Df.row_keep h.rp ho hx, him.same ?_, ownsRow_setCell_other ho9 (by simp only [Value.ownBlock]; exact fun e => g6 (by injection e)) _, far _ lb4 h.h4, far _ lb5 h.h5, ⟨h.h6.1, by simp only [Value.ownBlock]; exact fun e => g6 (by injection e with e; exact e.symm)⟩, by simp only [Value.ownBlock]; exact fun e => gm (by injection e with e; exact e.symm), h.l6, h.lm⟩, ho, hx⟩
  rw [Below.heap_setCell _ _ _ _ (fun e => h.h6.1 e.symm), hg9.block bm (by omega) h.hm, Below.heap_alloc _ _ _ (by omega)]
set_option maxRecDepth 100000 in
set_option maxHeartbeats 1000000 in
theorem stateOf_any (W1 : World) (b4 b5 b6 bm : Nat) (p : List Int) (vp : Value) (S : List Nat) (vS : Value) (k : Nat) (u : World) (H : Df.TS W1 b4 b5 b6 bm p vp S vS u) (hk : k < p.length) (hp : ∀ k, -1 ≤ p.getD k 0 ∧ p.getD k 0 < 65535) (hS : S.length ≤ 10000) (hpl : p.length ≤ 1000000) :
    Calls Try.prog 54 #[.int .i64 k, .pointer (some ⟨b4, 0, none⟩), .pointer (some ⟨b5, 0, none⟩), .pointer (some ⟨b6, 0, none⟩)] u (Df.SPost W1 b4 b5 b6 bm p vp S vS k u) := by
  obtain ⟨a1, N, c1, rfl⟩ := H.rp.form
  obtain ⟨zz, ap, rfl, cq⟩ := H.rp.get k hk
  obtain ⟨zz2, ap', eap, c0⟩ := H.rp.get 0 (by omega)
  injection eap with eap
  subst eap
  have hN : k < N := by rw [zz]; exact hk
  have hN1 : N ≤ 1000000 := by rw [zz]; exact hpl
  have HP := Lib.hid hp
  have HH := Lib.hid H
  have HZK := Lib.hid (hp k)
  obtain ⟨zk, hzk⟩ : ∃ z, z = p.getD k 0 := ⟨_, rfl⟩
  obtain ⟨z0, hz0⟩ : ∃ z, z = p.getD 0 0 := ⟨_, rfl⟩
  rw [← hzk] at cq HZK
  rw [← hz0] at c0
  have HK := Lib.hid hzk
  have HZ := Lib.hid hz0
  have cp := H.cp
  rw [Nf.add_zero] at c0
  have i1 : (0 : Int) ≤ (k : Int) := by omega
  have i2 : (k : Int) < (N : Int) := by omega
  have i3 : (0 : Int) < (N : Int) := by omega
  have i4 : 0 < N := by omega
  clear H zz zz2 hzk hz0 hp
  go_enter Try.func54, Try.ntmps54
  go_upto_region 1 with fail
  by_cases hd : zk = z0
  · have e1 : (zk == z0) = true := by simp [hd]
    have e2 : decide (zk = z0) = true := decide_eq_true hd
    have HD := Lib.hid hd
    clear hd
    go_quiet (fail)
    go_wp2_with fail
    go_ret
    have hdd : p.getD k 0 = p.getD 0 0 := by rw [← HK.out, ← HZ.out]; exact HD.out
    have hb := below_drewN (Below.refl u.heap.size u) nq
    refine ⟨by unfold Df.sNum; rw [if_pos hdd]; rfl, vS, ?_, Df.only_below hb _, Df.nx_refl _ _⟩
    have h1 := HH.out.up hb
    unfold Df.sMeet
    rw [if_pos hdd]
    exact h1
  · have e1 : (zk == z0) = false := by simp [hd]
    have e2 : decide (zk = z0) = false := decide_eq_false hd
    have HD := Lib.hid (show ¬ p.getD k 0 = p.getD 0 0 by rw [← HK.out, ← HZ.out]; exact hd)
    clear hd
    go_quiet (fail)
    have hb := below_drewN (Below.refl u.heap.size u) nq
    have HY := Lib.hid (HH.out.up hb)
    have HBY := Lib.hid hb
    go_upto_region 3 with fail
    clear cq c0 cp e1 e2 hb
    generalize u.drewN nq = Y at *
    have cp := HY.out.cp
    have cm := HY.out.cm
    obtain ⟨zz, ap', eap, cq⟩ := HY.out.rp.get k hk
    injection eap with eap
    subst eap
    rw [← HK.out] at cq
    clear zz
    obtain ⟨ks, hks⟩ : ∃ ks, ks = S.map fun k => p.getD k 0 := ⟨_, rfl⟩
    have HKS := Lib.hid hks
    have hlk : ∀ n, (Instr.lookup 121 (.map (some bm)) (.int .i64 zk) true).run Try.prog (Y.drewN n) = .ok (.tuple #[.int .i64 (Df.lkv ks zk), .bool (decide (zk ∈ ks))]) (Y.drewN n) := fun n => by
      rw [hks]
      exact (HY.out.im.same (u' := Y.drewN n) rfl).look (by have := HZK.out; omega)
    clear hks
    have hsn : ks.length = S.length := by rw [HKS.out, List.length_map]
    have HSN := Lib.hid hsn
    have hnum : Df.sNum (fun k => p.getD k 0) S k = (Df.idx ks zk : Nat) := by unfold Df.sNum; rw [if_neg HD.out, HK.out, HKS.out]
    have HNUM := Lib.hid hnum
    clear hsn hnum
    by_cases hm : zk ∈ ks
    · have hmd : decide (zk ∈ ks) = true := decide_eq_true hm
      have hlv : Df.lkv ks zk = (Df.idx ks zk : Nat) := by unfold Df.lkv; rw [if_pos hm]
      rw [hmd, hlv] at hlk
      have HM := Lib.hid hm
      clear hmd hm hlv
      obtain ⟨ix, hix⟩ : ∃ ix, ix = Df.idx ks zk := ⟨_, rfl⟩
      rw [← hix] at hlk HNUM
      clear hix
      go_quiet (fail)
      go_wp2_with fail
      go_ret
      have hb2 := below_drewN (Below.refl Y.heap.size Y) nq
      refine ⟨by rw [HNUM.out]; rfl, vS, ?_, Df.only_below (Bs.below_up HBY.out hb2) _, Df.nx_refl _ _⟩
      have h1 := HY.out.up hb2
      unfold Df.sMeet
      rw [if_neg HD.out, if_pos (by have := HM.out; rw [HKS.out, HK.out] at this; exact this)]
      exact h1
    · have hmd : decide (zk ∈ ks) = false := decide_eq_false hm
      rw [hmd] at hlk
      have HM := Lib.hid hm
      have hidx : Df.idx ks zk = S.length := by rw [← HSN.out]; exact Df.idx_none hm
      rw [hidx] at HNUM
      clear hmd hm hidx
      go_quiet (fail)
      have hb2 := below_drewN (Below.refl Y.heap.size Y) nq
      have HZ2 := Lib.hid (HY.out.up hb2)
      have HBZ := Lib.hid (Bs.below_up HBY.out hb2)
      clear cq cp cm hlk hb2
      generalize Y.drewN nq = Z at *
      obtain ⟨aS, nS, cS, rfl⟩ := (Nf.Own.row (B := fun _ => True) HZ2.out.os (fun _ _ => trivial)).form
      have hnS : nS = S.length := by rw [Nf.Row.len (Nf.Own.row (B := fun _ => True) HZ2.out.os (fun _ _ => trivial))]; simp
      have HNS := Lib.hid hnS
      have hnS2 : nS ≤ 10000 := by omega
      clear hnS
      have cs := HZ2.out.cs
      go_upto_region 6 with fail
      clear cs
      have HCQ := Lib.hid (show ∀ x, Below Z.heap.size Z x → x.cell? (ap.add k) = some (.int .i64 zk) from fun x hw => by
        obtain ⟨zz, ap', eap, cq⟩ := (HZ2.out.up hw).rp.get k hk
        injection eap with eap
        subst eap
        rw [← HK.out] at cq
        exact cq)
      refine Rg.regionT (by kernel_rfl) (by kernel_rfl) (by kernel_rfl) (by decide) (Rg.rel [fun v _ => v = .map (some bm), fun v _ => v = .slice (some ap) N c1, fun v _ => v = .int .i64 k, fun v _ => v = .pointer (some (ap.add k)), fun v _ => v = .int .i64 zk, fun v _ => v = .int .i64 nS]) (fun u => Below Z.heap.size Z u) (fun w w' => Below w.heap.size w w') (fun i v w w' h _ hb => Rg.rel_up (show Rg.Ups [fun v _ => v = .map (some bm), fun v _ => v = .slice (some ap) N c1, fun v _ => v = .int .i64 k, fun v _ => v = .pointer (some (ap.add k)), fun v _ => v = .int .i64 zk, fun v _ => v = .int .i64 nS] from ⟨fun v w w' h hb => h, fun v w w' h hb => h, fun v w w' h hb => h, fun v w w' h hb => h, fun v w w' h hb => h, fun v w w' h hb => h, trivial⟩) h hb) (Below.refl _ _).drew ⟨?_, ?_, ?_, ?_, ?_, ?_, trivial⟩ ?_
      · intro fv x hw hd
        have cm := (HZ2.out.up hw).cm
        have HU := Lib.hid hw
        clear hw hd
        simp only [Rg.step, Rg.all, Act.put, List.setIfInBounds_toArray, List.set_cons_zero, List.set_cons_succ]
        go_simp
        exact ⟨rfl, HU.out, Below.refl _ _⟩
      · intro fv x hw hd
        have cp := (HZ2.out.up hw).cp
        have HU := Lib.hid hw
        clear hw hd
        simp only [Rg.step, Rg.all, Act.put, List.setIfInBounds_toArray, List.set_cons_zero, List.set_cons_succ]
        go_simp
        exact ⟨rfl, HU.out, Below.refl _ _⟩
      · intro fv x hw hd
        have HU := Lib.hid hw
        clear hw hd
        simp only [Rg.step, Rg.all, Act.put, List.setIfInBounds_toArray, List.set_cons_zero, List.set_cons_succ]
        go_simp
        exact ⟨rfl, HU.out, Below.refl _ _⟩
      · intro fv x hw hd
        have r1 : fv 1 = .slice (some ap) N c1 := hd _ (List.mem_cons_self ..)
        have r2 : fv 2 = .int .i64 k := hd _ (List.mem_cons_of_mem _ (List.mem_cons_self ..))
        have HU := Lib.hid hw
        clear hw hd
        simp only [Rg.step, Rg.all, Act.put, List.setIfInBounds_toArray, List.set_cons_zero, List.set_cons_succ]
        go_simp
        exact ⟨rfl, HU.out, Below.refl _ _⟩
      · intro fv x hw hd
        have r3 : fv 3 = .pointer (some (ap.add k)) := hd _ (List.mem_cons_self ..)
        have cq := HCQ.out x hw
        have HU := Lib.hid hw
        clear hw hd
        simp only [Rg.step, Rg.all, Act.put, List.setIfInBounds_toArray, List.set_cons_zero, List.set_cons_succ]
        go_simp
        exact ⟨rfl, HU.out, Below.refl _ _⟩
      · intro fv x hw hd
        have HU := Lib.hid hw
        clear hw hd
        simp only [Rg.step, Rg.all, Act.put, List.setIfInBounds_toArray, List.set_cons_zero, List.set_cons_succ]
        go_simp
        exact ⟨rfl, HU.out, Below.refl _ _⟩
      · intro fv x hw hR o ho
        have r0 : fv 0 = .map (some bm) := hR 0 (by decide)
        have r4 : fv 4 = .int .i64 zk := hR 4 (by decide)
        have r5 : fv 5 = .int .i64 nS := hR 5 (by decide)
        simp at ho
        subst ho
        simp only [Rg.step, Rg.all, Act.put, List.setIfInBounds_toArray, List.set_cons_zero, List.set_cons_succ]
        have hts := HZ2.out.up hw
        have him := hts.im
        rw [← HKS.out] at him
        obtain ⟨y, hrun, him2, hg2⟩ := him.add (z := zk) (by have := HZK.out; omega) HM.out (by rw [HSN.out]; omega)
        rw [HSN.out, ← HNS.out] at hrun
        have HTS := Lib.hid hts
        have HIM := Lib.hid him2
        have HG := Lib.hid hg2
        have HBX := Lib.hid (Bs.below_up HBZ.out hw)
        clear hw hR hts him him2 hg2
        generalize fv 1 = t1 at *
        generalize fv 2 = t2 at *
        generalize fv 3 = t3 at *
        go_simp
        have hoy := Ng.Only.of_grown HG.out
        have n6 : ¬ (some bm = some b6) := fun e => HTS.out.h6.1 (by injection e with e; exact e.symm)
        have cs := hoy.cell HTS.out.cs n6
        have zs : y.frozen? ⟨b6, 0, none⟩ = false := by rw [hoy.frozen (World.block_lt_of_cell? x _ HTS.out.cs) n6]; exact HTS.out.zs
        have os : Nf.Own W1.heap.size (.slice aS nS cS) (Ng.nums S) y := hoy.row HTS.out.os (fun k hk e => HTS.out.hm (by rw [e]; exact hk.symm))
        have B1 := Bs.below1 y (.cells #[.int .i64 k] 3)
        have cs' := Bs.cell_up B1 cs
        have zs' : (y.alloc (.cells #[.int .i64 k] 3)).frozen? ⟨b6, 0, none⟩ = false := by rw [B1.frozen (World.block_lt_of_cell? y _ cs)]; exact zs
        have HOS := Lib.hid (os.up B1)
        have HCS := Lib.hid cs'
        have HZS := Lib.hid zs'
        have HOY := Lib.hid hoy
        have hbs : W1.heap.size ≤ (y.alloc (.cells #[.int .i64 k] 3)).heap.size := by have h1 := HTS.out.bel.size; have h2 := HG.out.size; have h3 := B1.size; omega
        have HNB := Lib.hid (Ng.new_at y _ rfl (.cells #[.int .i64 k] 3))
        have hml : (Ng.nums S).length ≤ 10000000 := by rw [List.length_map]; omega
        have HML := Lib.hid (show (Ng.nums S).length = nS by rw [List.length_map]; exact HNS.out.symm)
        clear hoy os B1 zs'
        go_upto_region 7 with fail
        go_wp2_with (first | (at_builtin; refine Nf.appendL rfl _ _ rfl W1.heap.size (.slice aS nS cS) (Ng.nums S) rfl HOS.out y.heap.size 1 k rfl HNB.out hml hbs ?_; intro g9 cp9 w9 O9 gr9 l9; rw [HML.out]; rw [HML.out] at O9; have HO9 := Lib.hid O9; have HG9 := Lib.hid gr9; have HL9 := Lib.hid l9; have n9 : ¬ ((Value.slice aS nS cS).ownBlock = some b6) := fun e => HTS.out.h6.2 e.symm; have cs9 := (Ng.Only.of_grown gr9).cell HCS.out n9; have zs9 : w9.frozen? ⟨b6, 0, none⟩ = false := (by rw [(Ng.Only.of_grown gr9).frozen (World.block_lt_of_cell? _ _ HCS.out) n9]; exact HZS.out); clear O9 gr9 l9 cs cs' zs))
        go_ret
        have hSM : Df.sMeet (fun k => p.getD k 0) S k = S ++ [k] := by
          unfold Df.sMeet
          rw [if_neg HD.out, if_neg (by have := HM.out; rw [HKS.out, HK.out] at this; exact this)]
        obtain ⟨t1', t2', t3'⟩ := HTS.out.add (k := k) (by rw [List.map_append, ← HKS.out]; have := HIM.out; rw [HK.out] at this; exact this) HG.out _ HG9.out (by rw [Ng.nums_snoc]; exact HO9.out) HL9.out
        refine ⟨by rw [HNUM.out, ← HNS.out]; rfl, .slice (some ⟨g9, 0, none⟩) (nS + 1) cp9, by rw [hSM]; exact t1', Df.Only.trans' (Df.only_below HBX.out _) t2' (fun _ _ h => h), fun k hk => ?_⟩
        rcases t3' k hk with e | e
        · exact .inl e
        · exact .inr (Nat.le_trans HBX.out.size e)
end Go.Proofs.Ythapedadnbkgnaa
namespace Go.Proofs.Ythapedadnbkgnaa
set_option linter.unusedVariables false
set_option linter.unusedSimpArgs false
open Go.RowKit
theorem Ng.appendL {ops : Array Oper} {rest : List Oper} {o : Oper} {a : Act} {Q : Exit → Act → World → Prop} {W : World} (hgd : o.guard = none) (s x : Operand)
    (ho : o.op = .call { callee := .builtin .append, args := #[s, x], argTypes := #[37, 37] })
    (base : Nat) (v : Value) (ns : List Value) (hs : a.eval s = v) (O : Ng.Own base v ns W) (B c : Nat) (u : Value) (hx : a.eval x = .slice (some ⟨B, 0, none⟩) 1 c) (hB : W.heap[B]? = some (.cells #[u] 38)) (hu : u.oneCell' = true) (hl : ns.length ≤ 1000000) (hbase : base ≤ W.heap.size)
    (h : ∀ g cap w', Ng.Own base (.slice (some ⟨g, 0, none⟩) (ns.length + 1) cap) (ns ++ [u]) w' → W.grownBy w' v.ownBlock → (v.ownBlock = some g ∨ g = W.heap.size) → wpList Try.prog ops Q rest (a.put o.dst (.slice (some ⟨g, 0, none⟩) (ns.length + 1) cap)) w') : wpList Try.prog ops Q (o :: rest) a W := by
  obtain ⟨iI, hiI, hz0, hz1, hz2⟩ := info_parts Ng.infoRow
  refine wpList_append_lies W hgd s x 37 ho base 38 iI _ 1 24 Try.underlying37 hiI hz0 hz1 hz2 rfl (by decide) v ns.length ns hs O ⟨B, 0, none⟩ 1 c [u] hx rfl (World.news_of_block hB) (by simp [hu]) (by decide) (by unfold maxLen; omega) (by omega) hbase _ rfl ?_
  intro g cap w' o1 o2 o3 _
  exact h g cap w' (by unfold Ng.Own; simpa [List.length_append] using o1) o2 o3
def Df.Fre (G : Nat) (vS v8 v9 : Value) (k : Nat) : Prop := G ≤ k ∧ some k ≠ vS.ownBlock ∧ some k ≠ v8.ownBlock ∧ some k ≠ v9.ownBlock
structure Df.TL (A1 : World) (G b4 b5 b6 bm : Nat) (p : List Int) (vp : Value) (S : List Nat) (vS v8 v9 : Value) (rows : List Value) (N : List (List Int)) (R : List Int) (u : World) : Prop where
  ts : Df.TS A1 b4 b5 b6 bm p vp S vS u
  g5 : b5 < G
  g6 : b6 < G
  gm : bm < G
  ga : A1.heap.size ≤ G
  gu : G ≤ u.heap.size
  o8 : Ng.Own G v8 rows u
  o9 : Nf.Own G v9 R u
  d8 : ∀ k, v8.ownBlock = some k → some k ≠ vS.ownBlock
  d9 : ∀ k, v9.ownBlock = some k → some k ≠ vS.ownBlock
  d89 : ∀ k, v8.ownBlock = some k → some k ≠ v9.ownBlock
  len : rows.length = N.length
  rw' : ∀ i (h : i < rows.length) (h' : i < N.length), Nf.Row u (Df.Fre G vS v8 v9) rows[i] N[i]
section
variable {A1 : World} {G b4 b5 b6 bm : Nat} {p : List Int} {vp : Value} {S : List Nat} {vS v8 v9 : Value} {rows : List Value} {N : List (List Int)} {R : List Int} {u : World}
theorem Df.TL.up {u' : World} (h : Df.TL A1 G b4 b5 b6 bm p vp S vS v8 v9 rows N R u) (hb : Below u.heap.size u u') : Df.TL A1 G b4 b5 b6 bm p vp S vS v8 v9 rows N R u' :=
  ⟨h.ts.up hb, h.g5, h.g6, h.gm, h.ga, Nat.le_trans h.gu hb.size, h.o8.up hb, h.o9.up hb, h.d8, h.d9, h.d89, h.len, fun i h1 h2 => (h.rw' i h1 h2).up hb⟩
theorem Df.fre_new (h : Df.TL A1 G b4 b5 b6 bm p vp S vS v8 v9 rows N R u) : ∀ k, u.heap.size ≤ k → Df.Fre G vS v8 v9 k := fun k hk => by
  refine ⟨Nat.le_trans h.gu hk, fun e => ?_, fun e => ?_, fun e => ?_⟩
  · have := (World.ownsRow.lt h.ts.os k e.symm).2; omega
  · have := (World.ownsRow.lt h.o8 k e.symm).2; omega
  · have := (World.ownsRow.lt h.o9 k e.symm).2; omega
theorem Df.row_far {u u' : World} {B B' : Nat → Prop} {q : Nat → Prop} {v : Value} {l : List Int} (h : Nf.Row u B v l) (ho : Ng.Only u u' q) (hq : ∀ k, k < u.heap.size → B k → ¬ q k) (hB : ∀ k, k < u.heap.size → B k → B' k) : Nf.Row u' B' v l := by
  have h' := h.lt
  obtain ⟨a, cap, e, h1, h2, h3, h4⟩ := h'
  refine ⟨a, cap, e, h1, h2, fun i hi => ?_, fun x ex hl => ?_⟩
  · obtain ⟨x, ex, hc⟩ := h3 i hi
    have hx2 : (x.add i).block = x.block := by simp only [Addr.add]; split <;> rfl
    have h5 := h4 x ex (fun e0 => by rw [e0] at hi; simp at hi)
    exact ⟨x, ex, ho.cell hc (by rw [hx2]; exact hq _ h5.2 h5.1)⟩
  · have h5 := h4 x ex hl
    exact hB _ h5.2 h5.1
theorem Df.fre_w6 (h : Df.TL A1 G b4 b5 b6 bm p vp S vS v8 v9 rows N R u) {k : Nat} (hk : Df.Fre G vS v8 v9 k) : ¬ Df.W6 b6 bm vS k := by
  rintro (e | e | e)
  · have := h.g6; have := hk.1; omega
  · have := h.gm; have := hk.1; omega
  · exact hk.2.1 e
theorem Df.fre_nx {vS' : Value} {k n : Nat} (hk : Df.Fre G vS v8 v9 k) (hn : k < n) (hx : Df.Nx vS vS' n) : Df.Fre G vS' v8 v9 k :=
  ⟨hk.1, fun e => by
    rcases hx k e.symm with e2 | e2
    · exact hk.2.1 e2.symm
    · omega, hk.2.2.1, hk.2.2.2⟩
theorem Df.TL.state {u' : World} {S' : List Nat} {vS' : Value} (h : Df.TL A1 G b4 b5 b6 bm p vp S vS v8 v9 rows N R u) (ht : Df.TS A1 b4 b5 b6 bm p vp S' vS' u') (ho : Ng.Only u u' (Df.W6 b6 bm vS)) (hx : Df.Nx vS vS' u.heap.size) : Df.TL A1 G b4 b5 b6 bm p vp S' vS' v8 v9 rows N R u' := by
  have w6 : ∀ k, G ≤ k → some k ≠ vS.ownBlock → ¬ Df.W6 b6 bm vS k := fun k hk hn => by
    rintro (e | e | e)
    · have := h.g6; omega
    · have := h.gm; omega
    · exact hn e
  refine ⟨ht, h.g5, h.g6, h.gm, h.ga, Nat.le_trans h.gu ho.size, ho.row h.o8 (fun k hk => w6 k (World.ownsRow.lt h.o8 k hk).1 (h.d8 k hk)), ho.row h.o9 (fun k hk => w6 k (World.ownsRow.lt h.o9 k hk).1 (h.d9 k hk)), fun k hk e => ?_, fun k hk e => ?_, h.d89, h.len, fun i h1 h2 => Df.row_far (h.rw' i h1 h2) ho (fun k _ hk => Df.fre_w6 h hk) (fun k hl hk => Df.fre_nx hk hl hx)⟩
  · rcases hx k e.symm with e2 | e2
    · exact h.d8 k hk e2.symm
    · have := (World.ownsRow.lt h.o8 k hk).2; omega
  · rcases hx k e.symm with e2 | e2
    · exact h.d9 k hk e2.symm
    · have := (World.ownsRow.lt h.o9 k hk).2; omega
theorem Df.TS.far {u' : World} {q : Nat → Prop} (h : Df.TS A1 b4 b5 b6 bm p vp S vS u) (ho : Ng.Only u u' q) (hb : Below A1.heap.size A1 u') (n4 : ¬ q b4) (n5 : ¬ q b5) (n6 : ¬ q b6) (nm : ¬ q bm) (hs : ∀ k, vS.ownBlock = some k → ¬ q k) (hr : Nf.Row u' (fun k => ¬ Df.W6 b6 bm vS k) vp p) : Df.TS A1 b4 b5 b6 bm p vp S vS u' :=
  ⟨hb, ho.cell h.cp n4, ho.cell h.cm n5, ho.cell h.cs n6, by rw [ho.frozen (World.block_lt_of_cell? u _ h.cs) n6]; exact h.zs, hr, h.im.same (ho.block bm h.im.lt nm), ho.row h.os hs, h.h4, h.h5, h.h6, h.hm, h.l6, h.lm⟩
theorem Df.TL.push8 {u' : World} {g n cap : Nat} {v : Value} {row : List Int} (h : Df.TL A1 G b4 b5 b6 bm p vp S vS v8 v9 rows N R u) (h4 : b4 < A1.heap.size) (hp : Nf.Row u (fun k => k < A1.heap.size) vp p) (hv : Nf.Row u (Df.Fre G vS v8 v9) v row) (hg : u.grownBy u' v8.ownBlock) (ho : Ng.Own G (.slice (some ⟨g, 0, none⟩) n cap) (rows ++ [v]) u') (hl : v8.ownBlock = some g ∨ g = u.heap.size) :
    Df.TL A1 G b4 b5 b6 bm p vp S vS (.slice (some ⟨g, 0, none⟩) n cap) v9 (rows ++ [v]) (N ++ [row]) R u' := by
  have hoy := Ng.Only.of_grown hg
  have lo : ∀ k, v8.ownBlock = some k → G ≤ k := fun k hk => (World.ownsRow.lt h.o8 k hk).1
  have nq : ∀ k, k < G → ¬ (v8.ownBlock = some k) := fun k hk e => by have := lo k e; omega
  have hb : Below A1.heap.size A1 u' := h.ts.bel.trans (hoy.below (fun k hk => Nat.le_trans h.ga (lo k hk)) h.ts.bel.size)
  have frn : ∀ k, k < u.heap.size → Df.Fre G vS v8 v9 k → Df.Fre G vS (.slice (some ⟨g, 0, none⟩) n cap) v9 k := fun k hk hf => ⟨hf.1, hf.2.1, fun e => by
    simp only [Value.ownBlock] at e
    injection e with e
    rcases hl with e2 | e2
    · exact hf.2.2.1 (by rw [e2, e])
    · omega, hf.2.2.2⟩
  have frq : ∀ k, k < u.heap.size → Df.Fre G vS v8 v9 k → ¬ (v8.ownBlock = some k) := fun k _ hf e => hf.2.2.1 e.symm
  refine ⟨h.ts.far hoy hb (nq _ (by have := h.ga; omega)) (nq _ h.g5) (nq _ h.g6) (nq _ h.gm) (fun k hk e => h.d8 k e hk.symm) ?_, h.g5, h.g6, h.gm, h.ga, Nat.le_trans h.gu hoy.size, ho, hoy.row h.o9 (fun k hk e => h.d89 k e hk.symm), fun k hk e => ?_, h.d9, fun k hk e => ?_, by simp [h.len], fun i h1 h2 => ?_⟩
  · have hpw : ∀ k, k < A1.heap.size → ¬ Df.W6 b6 bm vS k := fun k hk => by
      rintro (e | e | e)
      · have := h.ts.l6; omega
      · have := h.ts.lm; omega
      · have := (World.ownsRow.lt h.ts.os k e.symm).1; omega
    exact Df.row_far hp hoy (fun k _ hk => nq k (by have := h.ga; omega)) (fun k _ hk => hpw k hk)
  · simp only [Value.ownBlock] at hk
    injection hk with hk
    subst hk
    rcases hl with e2 | e2
    · exact h.d8 _ e2 e
    · have := (World.ownsRow.lt h.ts.os _ e.symm).2; omega
  · simp only [Value.ownBlock] at hk
    injection hk with hk
    subst hk
    rcases hl with e2 | e2
    · exact h.d89 _ e2 e
    · have := (World.ownsRow.lt h.o9 _ e.symm).2; omega
  · by_cases e : i < rows.length
    · have e' : i < N.length := by rw [← h.len]; exact e
      simp only [List.getElem_append_left e, List.getElem_append_left e']
      exact Df.row_far (h.rw' i e e') hoy frq frn
    · have e1 : i = rows.length := by simp at h1; omega
      have g1 : (rows ++ [v])[i] = v := by subst e1; simp
      have g2 : (N ++ [row])[i] = row := by rw [List.getElem_append_right (by rw [← h.len]; omega)]; simp
      rw [g1, g2]
      exact Df.row_far hv hoy frq frn
theorem Df.TL.push9 {u' : World} {g n cap : Nat} {z : Int} (h : Df.TL A1 G b4 b5 b6 bm p vp S vS v8 v9 rows N R u) (h4 : b4 < A1.heap.size) (hp : Nf.Row u (fun k => k < A1.heap.size) vp p) (hg : u.grownBy u' v9.ownBlock) (ho : Nf.Own G (.slice (some ⟨g, 0, none⟩) n cap) (R ++ [z]) u') (hl : v9.ownBlock = some g ∨ g = u.heap.size) :
    Df.TL A1 G b4 b5 b6 bm p vp S vS v8 (.slice (some ⟨g, 0, none⟩) n cap) rows N (R ++ [z]) u' := by
  have hoy := Ng.Only.of_grown hg
  have lo : ∀ k, v9.ownBlock = some k → G ≤ k := fun k hk => (World.ownsRow.lt h.o9 k hk).1
  have nq : ∀ k, k < G → ¬ (v9.ownBlock = some k) := fun k hk e => by have := lo k e; omega
  have hb : Below A1.heap.size A1 u' := h.ts.bel.trans (hoy.below (fun k hk => Nat.le_trans h.ga (lo k hk)) h.ts.bel.size)
  have frn : ∀ k, k < u.heap.size → Df.Fre G vS v8 v9 k → Df.Fre G vS v8 (.slice (some ⟨g, 0, none⟩) n cap) k := fun k hk hf => ⟨hf.1, hf.2.1, hf.2.2.1, fun e => by
    simp only [Value.ownBlock] at e
    injection e with e
    rcases hl with e2 | e2
    · exact hf.2.2.2 (by rw [e2, e])
    · omega⟩
  have frq : ∀ k, k < u.heap.size → Df.Fre G vS v8 v9 k → ¬ (v9.ownBlock = some k) := fun k _ hf e => hf.2.2.2 e.symm
  refine ⟨h.ts.far hoy hb (nq _ (by have := h.ga; omega)) (nq _ h.g5) (nq _ h.g6) (nq _ h.gm) (fun k hk e => h.d9 k e hk.symm) ?_, h.g5, h.g6, h.gm, h.ga, Nat.le_trans h.gu hoy.size, hoy.row h.o8 (fun k hk e => h.d89 k hk e.symm), ho, h.d8, fun k hk e => ?_, fun k hk e => ?_, h.len, fun i h1 h2 => Df.row_far (h.rw' i h1 h2) hoy frq frn⟩
  · have hpw : ∀ k, k < A1.heap.size → ¬ Df.W6 b6 bm vS k := fun k hk => by
      rintro (e | e | e)
      · have := h.ts.l6; omega
      · have := h.ts.lm; omega
      · have := (World.ownsRow.lt h.ts.os k e.symm).1; omega
    exact Df.row_far hp hoy (fun k _ hk => nq k (by have := h.ga; omega)) (fun k _ hk => hpw k hk)
  · simp only [Value.ownBlock] at hk
    injection hk with hk
    subst hk
    rcases hl with e2 | e2
    · exact h.d9 _ e2 e
    · have := (World.ownsRow.lt h.ts.os _ e.symm).2; omega
  · simp only [Value.ownBlock] at e
    injection e with e
    subst e
    rcases hl with e2 | e2
    · exact h.d89 _ hk e2.symm
    · have := (World.ownsRow.lt h.o8 _ hk).2; omega
theorem Df.TL.far {G' : Nat} (h : Df.TL A1 G b4 b5 b6 bm p vp S vS v8 v9 rows N R u) (h4 : b4 < A1.heap.size) {g : Nat} (hg : Df.Fre G vS v8 v9 g) (hn : ∀ i (h : i < rows.length) (h' : i < N.length), Nf.Row u (fun k => Df.Fre G vS v8 v9 k ∧ k ≠ g) rows[i] N[i]) (hp : Nf.Row u (fun k => k < A1.heap.size) vp p) (i : Nat) (v : Value) : Df.TL A1 G b4 b5 b6 bm p vp S vS v8 v9 rows N R (u.setCell ⟨g, i, none⟩ v) := by
  have hoy := (Df.only_refl u (fun _ => False)).set g i v
  have nq : ∀ k, k ≠ g → ¬ (False ∨ k = g) := fun k hk e => by rcases e with e | e; exact e.elim; exact hk e
  have hG := hg.1
  have hb : Below A1.heap.size A1 (u.setCell ⟨g, i, none⟩ v) := h.ts.bel.setCell (p := ⟨g, i, none⟩) (Nat.le_trans h.ga hG) _
  have e5 := h.g5; have e6 := h.g6; have em := h.gm; have ea := h.ga
  refine ⟨h.ts.far hoy hb (nq _ (by omega)) (nq _ (by omega)) (nq _ (by omega)) (nq _ (by omega)) (fun k hk => nq k (fun e => hg.2.1 (by rw [hk, e]))) ?_, h.g5, h.g6, h.gm, h.ga, by simpa using h.gu, hoy.row h.o8 (fun k hk => nq k (fun e => hg.2.2.1 (by rw [hk, e]))), hoy.row h.o9 (fun k hk => nq k (fun e => hg.2.2.2 (by rw [hk, e]))), h.d8, h.d9, h.d89, h.len, fun j h1 h2 => Df.row_far (hn j h1 h2) hoy (fun k _ hk => nq k hk.2) (fun k _ hk => hk.1)⟩
  have hpw : ∀ k, k < A1.heap.size → ¬ Df.W6 b6 bm vS k := fun k hk => by
    rintro (e | e | e)
    · have := h.ts.l6; omega
    · have := h.ts.lm; omega
    · have := (World.ownsRow.lt h.ts.os k e.symm).1; omega
  exact Df.row_far hp hoy (fun k _ hk => nq k (by omega)) (fun k _ hk => hpw k hk)
end
theorem Df.sNum_met (P : Nat → Int) (S : List Nat) (k : Nat) : Df.sNum P (Df.sMeet P S k) k = Df.sNum P S k := by
  unfold Df.sMeet
  split
  · rfl
  · rename_i h0
    split
    · rfl
    · rename_i h1
      unfold Df.sNum
      rw [if_neg h0, if_neg h0, List.map_append, List.map_singleton, Df.idx_new h1, Df.idx_none h1]
structure Df.NOk (P : Nat → Int) (nx : List (List Nat)) (r : List Int) (S : List Nat) (q : Nat) (N : List (List Int)) (R : List Int) : Prop where
  ln : N.length = q
  row : ∀ j (h : j < N.length), N[j] = (nx.getD (S.getD j 0) []).map (Df.sNum P S)
  cov : ∀ j, j < q → ∀ y ∈ nx.getD (S.getD j 0) [], Df.Cov P S y
  le : q ≤ S.length
  rl : R = (S.take q).map fun s => r.getD s 0
theorem Df.NOk.next {P : Nat → Int} {nx : List (List Nat)} {r : List Int} {S : List Nat} {q : Nat} {N : List (List Int)} {R : List Int} (h : Df.NOk P nx r S q N R) (hq : q < S.length) {us S' : List Nat} (hu : us = nx.getD (S.getD q 0) []) (hS : S' = us.foldl (Df.sMeet P) S) : Df.NOk P nx r S' (q + 1) (N ++ [us.map (Df.sNum P S')]) (R ++ [r.getD (S.getD q 0) 0]) := by
  obtain ⟨ys, e⟩ := Df.sMeets_pre P us S
  rw [← hS] at e
  have hg : ∀ j, j < S.length → S'.getD j 0 = S.getD j 0 := fun j hj => by
    rw [e, List.getD_eq_getElem?_getD, List.getElem?_append_left hj, List.getD_eq_getElem?_getD]
  refine ⟨by rw [List.length_append, List.length_singleton, h.ln], fun j hj => ?_, fun j hj y hy => ?_, by rw [e, List.length_append]; omega, ?_⟩
  · by_cases e1 : j < N.length
    · simp only [List.getElem_append_left e1]
      have hjq : j < q := by rw [← h.ln]; exact e1
      rw [h.row j e1, hg j (by omega)]
      refine List.map_congr_left fun y hy => ?_
      rw [e, Df.sNum_pre (h.cov j hjq y hy)]
    · have e2 : j = N.length := by rw [List.length_append, List.length_singleton] at hj; omega
      have g1 : (N ++ [us.map (Df.sNum P S')])[j] = us.map (Df.sNum P S') := by subst e2; simp
      rw [g1, e2, h.ln, hg q hq, hu]
  · by_cases e1 : j < q
    · rw [hg j (by omega)] at hy
      rw [e]
      exact (h.cov j e1 y hy).pre ys
    · have e2 : j = q := by omega
      subst e2
      rw [hg j hq, ← hu] at hy
      rw [hS]
      exact Df.cov_meets P us S y hy
  · rw [h.rl, e, List.take_append_of_le_length (by omega), List.take_succ_eq_append_getElem hq, List.map_append, show S.getD q 0 = S[q] by rw [List.getD_eq_getElem?_getD, List.getElem?_eq_getElem hq]; rfl]
    rfl
theorem Df.sGone_len {P : Nat → Int} {nx : List (List Nat)} {st : Nat} (hin : ∀ x ∈ nx, ∀ k ∈ x, k < nx.length) (hst : st < nx.length) (q : Nat) : (∀ x ∈ Df.sGone P nx st q, x < nx.length) ∧ (Df.sGone P nx st q).length ≤ nx.length := by
  have h1 : ∀ x ∈ Df.sGone P nx st q, x < nx.length := fun x hx => by
    have := Df.sGone_from P nx st q x hx
    clear hx
    induction this with
    | base => exact hst
    | step _ h2 _ ih =>
      rename_i x y _ _
      rw [List.getD_eq_getElem?_getD, List.getElem?_eq_getElem ih, Option.getD_some] at h2
      exact hin _ (List.getElem_mem ih) _ h2
  refine ⟨h1, ?_⟩
  have hn := Df.sGone_nodup P nx st q
  have hnd : (Df.sGone P nx st q).Nodup := by
    refine List.pairwise_iff_getElem.2 fun i j hi hj hij e => ?_
    refine (List.pairwise_iff_getElem.1 hn) i j (by rw [List.length_map]; exact hi) (by rw [List.length_map]; exact hj) hij ?_
    rw [List.getElem_map, List.getElem_map, e]
  have := hnd.length_le_of_subset (l₂ := List.range nx.length) (fun x hx => List.mem_range.2 (h1 x hx))
  simpa using this
end Go.Proofs.Ythapedadnbkgnaa
