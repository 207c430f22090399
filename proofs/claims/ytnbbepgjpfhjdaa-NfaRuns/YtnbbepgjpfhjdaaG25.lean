/- The program's machine of some rules: plain facts: what front tells of it. What the program's has, Ones, Set, Start and After answer, walked. What the program's After and Step answer, walked. What the program's Run answers, walked. -/
import Derived.Test.YtnbbepgjpfhjdaaG22
import Derived.Test.YtnbbepgjpfhjdaaG23
import Derived.Test.YtnbbepgjpfhjdaaG24
import Derived.Test.YtnbbepgjpfhjdaaG6
namespace Go.Proofs.Ytnbbepgjpfhjdaa
set_option linter.unusedVariables false
set_option linter.unusedSimpArgs false
open Go.RowKit
theorem Ng.rfst_lt : ∀ (l : List Rx) (r p : Nat), Nf.rfst l r p → r < l.length ∧ p < Nf.onesL l
  | [], r, p, h => by simp [Nf.rfst] at h
  | x :: l, 0, p, h => by
    simp only [Nf.rfst] at h
    have := Nf.fst_lt _ _ h
    simp only [Nf.onesL, List.length_cons]
    omega
  | x :: l, r + 1, p, h => by
    simp only [Nf.rfst] at h
    obtain ⟨q, rfl, h⟩ := h
    have := Ng.rfst_lt l r q h
    simp only [Nf.onesL, List.length_cons]
    omega
theorem Ng.rlst_lt : ∀ (l : List Rx) (r p : Nat), Nf.rlst l r p → r < l.length ∧ p < Nf.onesL l
  | [], r, p, h => by simp [Nf.rlst] at h
  | x :: l, 0, p, h => by
    simp only [Nf.rlst] at h
    have := Nf.lst_lt _ _ h
    simp only [Nf.onesL, List.length_cons]
    omega
  | x :: l, r + 1, p, h => by
    simp only [Nf.rlst] at h
    obtain ⟨q, rfl, h⟩ := h
    have := Ng.rlst_lt l r q h
    simp only [Nf.onesL, List.length_cons]
    omega
theorem Ng.remp_lt : ∀ (l : List Rx) (r : Nat), Nf.remp l r → r < l.length
  | [], r, h => by simp [Nf.remp] at h
  | x :: l, 0, h => by simp
  | x :: l, r + 1, h => by
    simp only [Nf.remp] at h
    have := Ng.remp_lt l r h
    simp only [List.length_cons]
    omega
abbrev Ng.mk (l : List Rx) : Nf.Mach := Nf.build l Ng.M0
abbrev Ng.ss (l : List Rx) : List Nat := (Nf.ends l Ng.M0).map (·.1)
abbrev Ng.es (l : List Rx) : List Nat := (Nf.ends l Ng.M0).map (·.2)
theorem Ng.M0_E (u v : Nat) : ¬ Ng.M0.E u v := by
  rintro ⟨l, h, _⟩
  simp [Ng.M0] at h
structure Ng.Spec (l : List Rx) : Prop where
  num : (Ng.mk l).ones.length = Nf.onesL l
  cnt : (Ng.es l).length = l.length
  cnt' : (Ng.ss l).length = l.length
  so : ∀ p, (∃ h : p < (Ng.mk l).ones.length, ∃ q ∈ Ng.ss l, Nf.Clo (Ng.mk l).E q (Ng.mk l).ones[p].1) ↔ ∃ r, Nf.rfst l r p
  sr : ∀ i, (∃ h : i < (Ng.es l).length, ∃ q ∈ Ng.ss l, Nf.Clo (Ng.mk l).E q (Ng.es l)[i]) ↔ Nf.remp l i
  ao : ∀ k (hk : k < (Ng.mk l).ones.length) p, (∃ h : p < (Ng.mk l).ones.length, Nf.Clo (Ng.mk l).E (Ng.mk l).ones[k].2 (Ng.mk l).ones[p].1) ↔ Nf.folA l k p
  ar : ∀ k (hk : k < (Ng.mk l).ones.length) i, (∃ h : i < (Ng.es l).length, Nf.Clo (Ng.mk l).E (Ng.mk l).ones[k].2 (Ng.es l)[i]) ↔ Nf.rlst l i k
  lt : ∀ r ∈ (Ng.mk l).free, ∀ u ∈ r, u < (Ng.mk l).free.length
  one : ∀ o ∈ (Ng.mk l).ones, o.1 < (Ng.mk l).free.length ∧ o.2 < (Ng.mk l).free.length
  en : ∀ e ∈ Ng.es l, e < (Ng.mk l).free.length
  st : ∀ e ∈ Ng.ss l, e < (Ng.mk l).free.length
theorem Ng.spec (l : List Rx) (hw : Rx.wfL l = true) : Ng.Spec l := by
  obtain ⟨D, os, H⟩ := Nf.build_spec l hw Ng.M0
  have hons : (Ng.mk l).ones = os := by
    have this : (Ng.mk l).ones = Ng.M0.ones ++ os := H.ons
    rw [this]; rfl
  have hE : ∀ u v, (Ng.mk l).E u v ↔ D u v := fun u v => by
    have := H.stp u v
    rw [this]
    exact ⟨fun h => h.elim (fun h => absurd h (Ng.M0_E u v)) id, .inr⟩
  have hC : ∀ u v, Nf.Clo (Ng.mk l).E u v ↔ Nf.Clo D u v := fun u v => ⟨fun h => h.of fun _ _ h => (hE _ _).1 h, fun h => h.of fun _ _ h => (hE _ _).2 h⟩
  have hnum : (Ng.mk l).ones.length = Nf.onesL l := by rw [hons]; exact H.num
  have hcnt : (Ng.es l).length = l.length := by rw [List.length_map]; exact H.cnt
  have hcnt' : (Ng.ss l).length = l.length := by rw [List.length_map]; exact H.cnt
  have hel : ∀ i (h : i < (Ng.es l).length), ∃ h' : i < (Nf.ends l Ng.M0).length, (Ng.es l)[i] = (Nf.ends l Ng.M0)[i].2 := fun i h => ⟨by rwa [List.length_map] at h, by simp [Ng.es]⟩
  refine ⟨hnum, hcnt, hcnt', fun p => ?_, fun i => ?_, fun k hk p => ?_, fun k hk i => ?_, ?_, ?_, ?_, ?_⟩
  · constructor
    · rintro ⟨h, q, hq, hc⟩
      obtain ⟨e, he, rfl⟩ := List.mem_map.1 hq
      obtain ⟨r, hr, rfl⟩ := List.getElem_of_mem he
      rw [hC] at hc
      have h' : p < os.length := by rw [← hons]; exact h
      have e1 : (Ng.mk l).ones[p] = os[p] := by simp only [hons]
      rw [e1] at hc
      exact ⟨r, (H.fsts r p hr h').1 hc⟩
    · rintro ⟨r, h⟩
      obtain ⟨h1, h2⟩ := Ng.rfst_lt _ _ _ h
      have hr : r < (Nf.ends l Ng.M0).length := by rw [H.cnt]; exact h1
      have h' : p < os.length := by rw [H.num]; exact h2
      have hp : p < (Ng.mk l).ones.length := by rw [hons]; exact h'
      refine ⟨hp, _, List.mem_map.2 ⟨_, List.getElem_mem hr, rfl⟩, ?_⟩
      have e1 : (Ng.mk l).ones[p] = os[p] := by simp only [hons]
      rw [e1, hC]
      exact (H.fsts r p hr h').2 h
  · constructor
    · rintro ⟨h, q, hq, hc⟩
      obtain ⟨e, he, rfl⟩ := List.mem_map.1 hq
      obtain ⟨r, hr, rfl⟩ := List.getElem_of_mem he
      obtain ⟨h', e1⟩ := hel i h
      rw [e1, hC] at hc
      obtain ⟨rfl, h3⟩ := (H.emp r i hr h').1 hc
      exact h3
    · intro h
      have h1 := Ng.remp_lt _ _ h
      have hr : i < (Nf.ends l Ng.M0).length := by rw [H.cnt]; exact h1
      have hi : i < (Ng.es l).length := by rw [hcnt]; exact h1
      refine ⟨hi, _, List.mem_map.2 ⟨_, List.getElem_mem hr, rfl⟩, ?_⟩
      obtain ⟨h', e1⟩ := hel i hi
      rw [e1, hC]
      exact (H.emp i i hr h').2 ⟨rfl, h⟩
  · have hk' : k < os.length := by rw [← hons]; exact hk
    have e2 : (Ng.mk l).ones[k] = os[k] := by simp only [hons]
    constructor
    · rintro ⟨h, hc⟩
      have h' : p < os.length := by rw [← hons]; exact h
      have e1 : (Ng.mk l).ones[p] = os[p] := by simp only [hons]
      rw [e1, e2, hC] at hc
      exact (H.fols k p hk' h').1 hc
    · intro h
      have h2 := (Nf.folA_lt _ _ _ h).2
      have h' : p < os.length := by rw [H.num]; exact h2
      have hp : p < (Ng.mk l).ones.length := by rw [hons]; exact h'
      refine ⟨hp, ?_⟩
      have e1 : (Ng.mk l).ones[p] = os[p] := by simp only [hons]
      rw [e1, e2, hC]
      exact (H.fols k p hk' h').2 h
  · have hk' : k < os.length := by rw [← hons]; exact hk
    have e2 : (Ng.mk l).ones[k] = os[k] := by simp only [hons]
    constructor
    · rintro ⟨h, hc⟩
      obtain ⟨h', e1⟩ := hel i h
      rw [e1, e2, hC] at hc
      exact (H.lsts i k h' hk').1 hc
    · intro h
      have h1 := (Ng.rlst_lt _ _ _ h).1
      have hi : i < (Ng.es l).length := by rw [hcnt]; exact h1
      obtain ⟨h', e1⟩ := hel i hi
      refine ⟨hi, ?_⟩
      rw [e1, e2, hC]
      exact (H.lsts i k h' hk').2 h
  · intro r hr u hu
    obtain ⟨i, hi, rfl⟩ := List.getElem_of_mem hr
    have : (Ng.mk l).E i u := ⟨_, List.getElem?_eq_getElem hi, hu⟩
    exact (H.inn _ _ ((hE _ _).1 this)).2.2
  · intro o ho
    rw [hons] at ho
    obtain ⟨i, hi, rfl⟩ := List.getElem_of_mem ho
    exact ⟨(H.ose i hi).1.2, (H.ose i hi).2.2⟩
  · intro e he
    obtain ⟨x, hx, rfl⟩ := List.mem_map.1 he
    obtain ⟨i, hi, rfl⟩ := List.getElem_of_mem hx
    exact (H.ens i hi).2.2
  · intro e he
    obtain ⟨x, hx, rfl⟩ := List.mem_map.1 he
    obtain ⟨i, hi, rfl⟩ := List.getElem_of_mem hx
    exact (H.ens i hi).1.2
theorem Ng.grow_build : ∀ (l : List Rx) (M : Nf.Mach), Ng.Grow M (Nf.build l M) (3 * Rx.sizeL l + l.length) (4 * Rx.sizeL l) (Rx.sizeL l)
  | [], M => by
    simp only [Nf.build]
    exact Ng.grow_refl _ _ _ _
  | x :: r, M => by
    have h1 := (((Ng.grow_place M).trans (Ng.grow_place M.place) (Nat.le_refl _) (Nat.le_refl _) (Nat.le_refl _)).trans (Ng.grow_lay x M.free.length (M.free.length + 1) M.place.place) (Nat.le_refl _) (Nat.le_refl _) (Nat.le_refl _)).trans (Ng.grow_build r _) (Nat.le_refl _) (Nat.le_refl _) (Nat.le_refl _)
    have hs := x.size_pos
    simp only [Nf.build, Rx.sizeL, List.length_cons]
    exact h1.trans (Ng.grow_refl _ 0 0 0) (by omega) (by omega) (by omega)
structure Ng.Fits (l : List Rx) : Prop where
  wf : Rx.wfL l = true
  sz : Rx.sizeL l ≤ 2000
  ln : l.length ≤ 32
theorem Ng.fits_of {l : List Rx} (h : Ng.code l = 0) : Ng.Fits l := by
  unfold Ng.code at h
  split at h
  · omega
  · rename_i h1
    split at h
    · omega
    · rename_i h2
      simp at h1 h2
      exact ⟨Rx.wfL_all.2 fun x hx => (Rx.may_iff.1 (h1.2 x hx)).1, h2.2, h2.1⟩
theorem Ng.fine (l : List Rx) (h : Ng.Fits l) : Ng.Fine (Ng.mk l) (Ng.es l) := by
  have S := Ng.spec l h.wf
  have G : Ng.Grow Ng.M0 (Ng.mk l) _ _ _ := Ng.grow_build l Ng.M0
  have h1 := h.sz
  have h2 := h.ln
  have g2 := G.hi
  have g3 := G.tot
  have g4 := G.one
  have t0 : Ng.tot Ng.M0 = 0 := rfl
  have t1 : Ng.M0.free.length = 0 := rfl
  have t2 : Ng.M0.ones.length = 0 := rfl
  refine ⟨S.lt, S.one, S.en, by omega, fun r hr => ?_, by omega, by rw [S.cnt]; omega⟩
  obtain ⟨i, hi, rfl⟩ := List.getElem_of_mem hr
  have := Ng.le_tot (Ng.mk l) i hi
  omega
structure Ng.Mc (w : World) (base r : Nat) (l : List Rx) : Prop where
  fit : Ng.Fits l
  is : ∃ tr, Ng.At w base r (Ng.mk l) tr (Ng.ss l) (Ng.es l) ∧ tr.map (·.1) = Rx.setsL l
theorem Ng.Mc.up {w w' : World} {base r : Nat} {l : List Rx} (h : Ng.Mc w base r l) (hb : Below w.heap.size w w') : Ng.Mc w' base r l := by
  obtain ⟨f, tr, h1, h2⟩ := h
  exact ⟨f, tr, h1.up hb, h2⟩
def Ng.FP (w : World) (B : Nat → Prop) (P R : Nat → Prop) (e : Ending) (w' : World) : Prop := ∃ os rs, Nf.FPost w B os rs e w' ∧ Nf.Rise os P ∧ Nf.Rise rs R
theorem Ng.FP.congr {w : World} {B : Nat → Prop} {P R P' R' : Nat → Prop} {e : Ending} {w' : World} (h : Ng.FP w B P R e w') (h1 : ∀ p, P p ↔ P' p) (h2 : ∀ p, R p ↔ R' p) : Ng.FP w B P' R' e w' := by
  obtain ⟨os, rs, h3, h4, h5⟩ := h
  exact ⟨os, rs, h3, h4.congr h1, h5.congr h2⟩
open Go.RowKit
def Ng.setAt (l : List Rx) (i : Int) : Nat → Bool := if 0 ≤ i then (Rx.setsL l).getD i.toNat (fun _ => false) else fun _ => false
def Ng.hasAt (l : List Rx) (i : Int) : Bool := decide (0 ≤ i) && decide (i < (Nf.onesL l : Nat))
theorem Ng.hasAt_iff {l : List Rx} {i : Int} : Ng.hasAt l i = true ↔ ∃ k : Nat, i = k ∧ k < Nf.onesL l := by
  simp only [Ng.hasAt, Bool.and_eq_true, decide_eq_true_eq]
  constructor
  · rintro ⟨h1, h2⟩
    exact ⟨i.toNat, by omega, by omega⟩
  · rintro ⟨k, rfl, h⟩
    omega
theorem Ng.onL_set {l : List Rx} {k c : Nat} (hk : k < Nf.onesL l) : Nf.onL l k c ↔ Ng.setAt l k c = true := by
  have hk' : k < (Rx.setsL l).length := by rw [Nf.setsL_len]; exact hk
  unfold Nf.onL Ng.setAt
  rw [if_pos (by omega), Int.toNat_natCast, List.getD_eq_getElem?_getD, List.getElem?_eq_getElem hk']
  simp
theorem Ng.setAt_none {l : List Rx} {i : Int} (h : Ng.hasAt l i = false) : Ng.setAt l i = fun _ => false := by
  unfold Ng.setAt
  split
  · rename_i h0
    rw [List.getD_eq_getElem?_getD, List.getElem?_eq_none]
    · rfl
    · rw [Nf.setsL_len]
      have : ¬ (i < (Nf.onesL l : Nat)) := fun h1 => by simp [Ng.hasAt, h0, h1] at h
      omega
  · rfl
theorem Ng.Mc.tr {w : World} {base r : Nat} {l : List Rx} (h : Ng.Mc w base r l) : ∃ tr col vf vo vs ve rows, Ng.Mem w base r col vf vo vs ve rows (Ng.mk l) tr (Ng.ss l) (Ng.es l) ∧ tr.map (·.1) = Rx.setsL l ∧ tr.length = Nf.onesL l := by
  obtain ⟨tr, ⟨col, vf, vo, vs, ve, rows, h1⟩, h2⟩ := h.is
  refine ⟨tr, col, vf, vo, vs, ve, rows, h1, h2, ?_⟩
  have := congrArg List.length h2
  rw [List.length_map, Nf.setsL_len] at this
  exact this
set_option maxRecDepth 100000 in
set_option maxHeartbeats 400000 in
theorem has_any (w : World) (base r : Nat) (l : List Rx) (H : Ng.Mc w base r l) (i : Int) : Calls Try.prog 46 #[.pointer (some ⟨r, 0, none⟩), .int .i64 i] w fun e w' => e = .returned (.bool (Ng.hasAt l i)) ∧ w = w' := by
  obtain ⟨tr, col, vf, vo, vs, ve, rows, HM, h1, h2⟩ := H.tr
  obtain ⟨ao, co, rfl, _⟩ := HM.ones
  have c1 := HM.c1
  rw [h2] at c1
  have HH := Lib.hid (show Ng.hasAt l i = (decide (0 ≤ i) && decide (i < (Nf.onesL l : Nat))) from rfl)
  generalize Nf.onesL l = n at *
  generalize Ng.hasAt l i = b at *
  clear HM h1 h2 H
  go_enter Try.func46, Try.ntmps46
  by_cases h0 : 0 ≤ i
  · have e0 : decide (0 ≤ i) = true := decide_eq_true h0
    rw [e0, Bool.true_and] at HH
    go_wp2_with fail
    go_ret
    exact ⟨by rw [HH.out]; rfl, rfl⟩
  · have e0 : decide (0 ≤ i) = false := decide_eq_false h0
    rw [e0, Bool.false_and] at HH
    go_wp2_with fail
    go_ret
    exact ⟨by rw [HH.out]; rfl, rfl⟩
set_option maxRecDepth 100000 in
set_option maxHeartbeats 400000 in
theorem ones_any (w : World) (base r : Nat) (l : List Rx) (H : Ng.Mc w base r l) : Calls Try.prog 13 #[.pointer (some ⟨r, 0, none⟩)] w fun e w' => e = .returned (.int .i64 (Nf.onesL l : Nat)) ∧ w = w' := by
  obtain ⟨tr, col, vf, vo, vs, ve, rows, HM, h1, h2⟩ := H.tr
  obtain ⟨ao, co, rfl, _⟩ := HM.ones
  have c1 := HM.c1
  rw [h2] at c1
  generalize Nf.onesL l = n at *
  clear HM h1 h2 H
  go_enter Try.func13, Try.ntmps13
  go_wp2_with fail
  go_ret
  exact ⟨rfl, rfl⟩
set_option maxRecDepth 100000 in
set_option maxHeartbeats 1000000 in
theorem set_any (w : World) (base r : Nat) (l : List Rx) (H : Ng.Mc w base r l) (i : Int) : Calls Try.prog 16 #[.pointer (some ⟨r, 0, none⟩), .int .i64 i] w fun e w' => e = .returned (Bs.val (Ng.setAt l i)) ∧ Below w.heap.size w w' := by
  have B1 := Bs.below1 w (.cells #[.int .u64 0, .int .u64 0, .int .u64 0, .int .u64 0] 44)
  have HH := Lib.hid (has_any _ base r l (H.up B1) i)
  have HB1 := Lib.hid B1
  cases hh : Ng.hasAt l i
  · rw [hh] at HH
    have HS := Lib.hid (Ng.setAt_none hh)
    clear hh H B1
    go_enter Try.func16, Try.ntmps16
    go_wp2_with fail
    refine HH.out.mono ?_
    rintro e w1 ⟨rfl, rfl⟩
    clear HH
    go_wp2_with fail
    refine bodyPost_ret (v := Bs.val (Ng.setAt l i)) (by rw [HS.out, Bs.val_none]; simp [results, Try.results16, go_sem]) rfl ⟨rfl, ?_⟩
    exact Bs.below1 w _
  · rw [hh] at HH
    obtain ⟨k, rfl, hk⟩ := Ng.hasAt_iff.1 hh
    obtain ⟨tr, col, vf, vo, vs, ve, rows, HM, h1, h2⟩ := (H.up B1).tr
    obtain ⟨ao, co, rfl, HON⟩ := HM.ones
    have c1 := HM.c1
    rw [h2] at c1
    have hk' : k < tr.length := by rw [h2]; exact hk
    obtain ⟨x, rfl, OA⟩ := HON k hk'
    have HS := Lib.hid (show Ng.setAt l k = tr[k].1 by
      unfold Ng.setAt
      rw [if_pos (by omega), Int.toNat_natCast, ← h1, List.getD_eq_getElem?_getD, List.getElem?_map, List.getElem?_eq_getElem hk']
      rfl)
    generalize tr[k] = o at *
    obtain ⟨f, a, c⟩ := o
    obtain ⟨x0, x1, x2, x3, _, _⟩ := OA
    simp only at x0 x1 x2 x3 HS
    generalize Nf.onesL l = n at *
    have i1 : (0 : Int) ≤ (k : Int) := by omega
    have i2 : (k : Int) < (n : Int) := by omega
    clear hh H B1 HM HON h1 h2
    go_enter Try.func16, Try.ntmps16
    go_wp2_with fail
    refine HH.out.mono ?_
    rintro e w1 ⟨rfl, rfl⟩
    clear HH
    go_wp2_with fail
    refine bodyPost_ret (v := Bs.val (Ng.setAt l k)) (by rw [HS.out]; unfold Bs.val; simp [results, Try.results16, go_sem]) rfl ⟨rfl, ?_⟩
    exact Bs.below1 w _
theorem Ng.fp_ret {w u : World} {B : Nat → Prop} {P R : Nat → Prop} {v1 v2 : Value} {w' : World} {H : Nat} (hH : w.heap.size ≤ H) (hHu : H < u.heap.size) (hu : Below w.heap.size w u) (h : Ng.FP u (fun k => u.heap.size ≤ k ∧ B k) P R (.returned (.agg #[v1, v2])) w') : Ng.FP w B P R (.returned (.agg #[v1, v2])) ((w'.setCell ⟨H, 0, none⟩ v1).setCell ⟨H, 1, none⟩ v2) := by
  obtain ⟨os, rs, ⟨vo, vr, e, h1, h2, h3⟩, h4, h5⟩ := h
  injection e with e
  injection e with e
  have e1 := congrArg Array.toList e
  simp only [List.cons.injEq, and_true] at e1
  obtain ⟨rfl, rfl⟩ := e1
  have hn : ¬ (u.heap.size ≤ H ∧ B H) := fun e => by omega
  refine ⟨os, rs, ⟨_, _, rfl, ((h1.set hn _).set hn _).mono (fun _ h => h.2), ((h2.set hn _).set hn _).mono (fun _ h => h.2), ?_⟩, h4, h5⟩
  exact ((hu.trans (h3.mono hu.size)).setCell (p := ⟨H, 0, none⟩) hH _).setCell (p := ⟨H, 1, none⟩) hH _
set_option maxRecDepth 100000 in
set_option maxHeartbeats 1000000 in
theorem start_any (w : World) (base r : Nat) (l : List Rx) (H : Ng.Mc w base r l) (B : Nat → Prop) (hB : ∀ k, w.heap.size ≤ k → B k) : Calls Try.prog 15 #[.pointer (some ⟨r, 0, none⟩)] w (Ng.FP w B (fun p => ∃ r, Nf.rfst l r p) (Nf.remp l)) := by
  have B1 := Bs.below1 w (.cells #[.slice none 0 0, .slice none 0 0] 37)
  have X1 := Nf.fb_new w (.slice none 0 0) (.slice none 0 0) 37
  have S := Ng.spec l H.fit.wf
  have hF := Ng.fine l H.fit
  obtain ⟨tr, HA, _⟩ := (H.up B1).is
  obtain ⟨col, vf, vo, vs, ve, rows, HM⟩ := HA
  have hvs := Nf.Own.row (B := fun _ => True) HM.os (fun _ _ => trivial)
  obtain ⟨a7, n7, c7, rfl⟩ := hvs.form
  have c2 := HM.c2
  have C := Lib.hid (front_any _ base r (Ng.mk l) tr (Ng.ss l) (Ng.es l) ⟨_, _, _, _, _, _, HM⟩ hF (Ng.ss l) _ hvs S.st (by rw [S.cnt']; have := H.fit.ln; omega) (fun k => (w.alloc (.cells #[.slice none 0 0, .slice none 0 0] 37)).heap.size ≤ k ∧ B k) (fun k hk => ⟨hk, hB k (Nat.le_trans B1.size hk)⟩))
  have HSO := Lib.hid S.so
  have HSR := Lib.hid S.sr
  have HX1 := Lib.hid X1
  have HB1 := Lib.hid B1
  clear HM hvs S hF X1 H hB B1
  go_enter Try.func15, Try.ntmps15
  go_wp2_with fail
  refine C.out.mono ?_
  rintro e w1 ⟨os, rs, ⟨v1, v2, rfl, R1, R2, b1⟩, h4, h5⟩
  obtain ⟨a1, n1, c1, rfl⟩ := R1.form
  obtain ⟨a2, n2, c3, rfl⟩ := R2.form
  have X2 := HX1.out.up b1
  have y0 := X2.c0; have y1 := X2.c1; have z0 := X2.z0; have z1 := X2.z1
  have HFP : Hid (Ng.FP (w.alloc (.cells #[.slice none 0 0, .slice none 0 0] 37)) (fun k => (w.alloc (.cells #[.slice none 0 0, .slice none 0 0] 37)).heap.size ≤ k ∧ B k) (fun p => ∃ r, Nf.rfst l r p) (Nf.remp l) (.returned (.agg #[.slice a1 n1 c1, .slice a2 n2 c3])) w1) := Lib.hid ⟨os, rs, ⟨_, _, rfl, R1, R2, b1⟩, h4.congr HSO.out, h5.congr HSR.out⟩
  clear C R1 R2 b1 h4 h5 X2
  go_wp2_with fail
  refine bodyPost_ret (v := .agg #[.slice a1 n1 c1, .slice a2 n2 c3]) (by simp [results, Try.results15, go_sem, y0, y1]) rfl ?_
  exact Ng.fp_ret (Nat.le_refl _) (by simp) HB1.out HFP.out
open Go.RowKit
theorem Ng.row_nil (w : World) (B : Nat → Prop) : Nf.Row w B (.slice none 0 0) [] := ⟨none, 0, rfl, Nat.le_refl _, fun _ => rfl, fun i hi => by simp at hi, fun x e => by simp at e⟩
def Ng.beh (l : List Rx) (c : Nat) (fo : List Int) : List Nat := fo.filterMap fun i => if Ng.setAt l i c = true then some ((Ng.mk l).ones.getD i.toNat (0, 0)).2 else none
theorem Ng.beh_take (l : List Rx) (c : Nat) (fo : List Int) (j : Nat) (h : j < fo.length) : Ng.beh l c (fo.take (j + 1)) = Ng.beh l c (fo.take j) ++ (if Ng.setAt l fo[j] c = true then [((Ng.mk l).ones.getD fo[j].toNat (0, 0)).2] else []) := by
  rw [Ng.beh, List.take_succ_eq_append_getElem h, List.filterMap_append]
  congr 1
  by_cases e : Ng.setAt l fo[j] c = true <;> simp [e]
theorem Ng.beh_len (l : List Rx) (c : Nat) (fo : List Int) : (Ng.beh l c fo).length ≤ fo.length := List.length_filterMap_le _ _
theorem Ng.set_has {l : List Rx} {i : Int} {c : Nat} (h : Ng.setAt l i c = true) : ∃ k : Nat, i = k ∧ k < Nf.onesL l := by
  refine Ng.hasAt_iff.1 ?_
  cases hh : Ng.hasAt l i
  · rw [Ng.setAt_none hh] at h; simp at h
  · rfl
theorem Ng.mem_beh (l : List Rx) (hw : Rx.wfL l = true) (c : Nat) (fo : List Int) (q : Nat) : q ∈ Ng.beh l c fo ↔ ∃ k : Nat, (k : Int) ∈ fo ∧ Nf.onL l k c ∧ ∃ h : k < (Ng.mk l).ones.length, q = (Ng.mk l).ones[k].2 := by
  have S := Ng.spec l hw
  unfold Ng.beh
  rw [List.mem_filterMap]
  constructor
  · rintro ⟨i, hi, h⟩
    by_cases e : Ng.setAt l i c = true
    · rw [if_pos e] at h
      obtain ⟨k, rfl, hk⟩ := Ng.set_has e
      have hk' : k < (Ng.mk l).ones.length := by rw [S.num]; exact hk
      injection h with h
      rw [Int.toNat_natCast, List.getD_eq_getElem?_getD, List.getElem?_eq_getElem hk'] at h
      exact ⟨k, hi, (Ng.onL_set hk).2 e, hk', h.symm⟩
    · rw [if_neg e] at h; simp at h
  · rintro ⟨k, hi, ho, hk', rfl⟩
    have hk : k < Nf.onesL l := by rw [← S.num]; exact hk'
    refine ⟨k, hi, ?_⟩
    rw [if_pos ((Ng.onL_set hk).1 ho), Int.toNat_natCast, List.getD_eq_getElem?_getD, List.getElem?_eq_getElem hk']
    rfl
set_option maxRecDepth 100000 in
set_option maxHeartbeats 2000000 in
theorem step_any (w : World) (base r : Nat) (l : List Rx) (H : Ng.Mc w base r l) (fo : List Int) (p1 p2 : Value) (hp1 : Nf.Row w (fun _ => True) p1 fo) (hp2 : ∃ a n c, p2 = .slice a n c) (hfo : fo.length ≤ 1000000) (c : Nat) (hc : c < 256) (B : Nat → Prop) (hB : ∀ k, w.heap.size ≤ k → B k) :
    Calls Try.prog 23 #[.pointer (some ⟨r, 0, none⟩), .agg #[p1, p2], .int .u8 c] w (Ng.FP w B (fun p => ∃ k : Nat, (k : Int) ∈ fo ∧ Nf.onL l k c ∧ Nf.folA l k p) (fun q => ∃ k : Nat, (k : Int) ∈ fo ∧ Nf.onL l k c ∧ Nf.rlst l q k)) := by
  obtain ⟨a1, n1, c1, rfl⟩ := hp1.form
  obtain ⟨a2, n2, c2, rfl⟩ := hp2
  have hn1 := hp1.at.1
  have S := Ng.spec l H.fit.wf
  have HF := Lib.hid (Ng.fine l H.fit)
  have B1 := Bs.below2 w (.cells #[.slice a1 n1 c1, .slice a2 n2 c2] 37) (.cells #[.slice none 0 0, .slice none 0 0] 37)
  have X1 := Nf.fb_new (w.alloc (.cells #[.slice a1 n1 c1, .slice a2 n2 c2] 37)) (.slice none 0 0) (.slice none 0 0) 37
  have es1 : (w.alloc (.cells #[.slice a1 n1 c1, .slice a2 n2 c2] 37)).heap.size = w.heap.size + 1 := by simp
  rw [es1] at X1
  have es2 : ((w.alloc (.cells #[.slice a1 n1 c1, .slice a2 n2 c2] 37)).alloc (.cells #[.slice none 0 0, .slice none 0 0] 37)).heap.size = w.heap.size + 2 := by simp
  have HB1 := Lib.hid B1
  have HX1 := Lib.hid X1
  have HUS := Lib.hid es2
  have HMC := Lib.hid (H.up B1)
  have HP1 := Lib.hid (hp1.up B1)
  have HN1 := Lib.hid hn1
  have HBK := Lib.hid hB
  have HS := Lib.hid S
  have HWF := Lib.hid H.fit.wf
  have hn6 : n1 ≤ 1000000 := by omega
  clear H hp1 S B1 X1 es1 es2 hB hn1 hfo
  go_enter Try.func23, Try.ntmps23
  go_wp2_with fail
  generalize (w.alloc (.cells #[.slice a1 n1 c1, .slice a2 n2 c2] 37)).alloc (.cells #[.slice none 0 0, .slice none 0 0] 37) = U at *
  go_loopw [7, 13] (fun v i wr => ∃ j : Nat, j ≤ n1 ∧ i = .int .i64 j ∧ Hid (Nf.Own U.heap.size v (Ng.nums (Ng.beh l c (fo.take j))) wr) ∧ Hid (Below U.heap.size U wr)) (fun _ i _ => n1 - (intOf i).toNat)
  case atStart => exact ⟨0, by omega, rfl, Lib.hid (by simpa [Ng.beh] using Nf.own_nil _ _), Lib.hid (Below.refl _ _)⟩
  case round =>
    obtain ⟨j, hj, rfl, HO, HB⟩ := hrel
    by_cases hlt : j < n1
    · have hlt' : j < fo.length := by rw [← HN1.out]; exact hlt
      obtain ⟨x, rfl, hx⟩ := (HP1.out.up HB.out).at.2 j hlt'
      have HT := Lib.hid (Ng.beh_take l c fo j hlt')
      generalize fo[j] = y at *
      have C := Lib.hid (set_any wr base r l (HMC.out.up HB.out) y)
      have i1 : (0 : Int) ≤ (j : Int) := by omega
      have i2 : (j : Int) < (n1 : Int) := by omega
      have e1 : decide ((j : Int) < (n1 : Int)) = true := decide_eq_true (by omega)
      have e2 : decide (j < n1) = true := decide_eq_true hlt
      have hu7 := (Nf.Own.row HO.out (fun _ h => h)).form
      obtain ⟨a7, n7, c7, rfl⟩ := hu7
      go_wp2_with fail
      refine C.out.mono ?_
      rintro e w1 ⟨rfl, b1⟩
      have C2 := Lib.hid (hasB_any (Ng.setAt l y) c hc w1)
      have HB2 := Lib.hid (Bs.below_up HB.out b1)
      have HO2 := Lib.hid (HO.out.up b1)
      obtain ⟨sv, hsv⟩ : ∃ sv, Bs.val (Ng.setAt l y) = sv := ⟨_, rfl⟩
      have HSV := Lib.hid hsv
      have hsv2 : ∃ q0 q1 q2 q3, sv = .agg #[q0, q1, q2, q3] := ⟨_, _, _, _, by rw [← hsv]; rfl⟩
      obtain ⟨q0, q1, q2, q3, rfl⟩ := hsv2
      rw [hsv] at C2 ⊢
      clear C b1 hsv hx HSV
      go_wp2_with fail
      refine C2.out.mono ?_
      rintro e w2 ⟨rfl, b2⟩
      have HB3 := Lib.hid (Bs.below_up HB2.out b2)
      have HO3 := Lib.hid (HO2.out.up b2)
      clear C2 b2 HB2 HO2
      cases hs : Ng.setAt l y c
      · rw [hs] at HT
        simp only [Bool.false_eq_true, if_false, List.append_nil] at HT
        clear hs
        go_wp2_with fail
        go_roundw
        case rel => exact ⟨j + 1, by omega, by go_num, by rw [HT.out]; exact HO3, HB3⟩
        case measure => simp [intOf]; omega
      · rw [hs] at HT
        simp only [if_true] at HT
        obtain ⟨k, rfl, hk⟩ := Ng.set_has hs
        obtain ⟨tr, col, vf, vo, vs, ve, rows, HM, h1, h2⟩ := (HMC.out.up HB3.out).tr
        obtain ⟨ao, co, rfl, HON⟩ := HM.ones
        have d1 := HM.c1
        rw [h2] at d1
        have hk' : k < tr.length := by rw [h2]; exact hk
        obtain ⟨x2, rfl, OA⟩ := HON k hk'
        have hgd := (Ng.getD_ones HM.ons k hk').1
        rw [Int.toNat_natCast, hgd] at HT
        have x5 := OA.c5
        generalize tr[k].2.2 = z at *
        generalize Nf.onesL l = n at *
        have i3 : (0 : Int) ≤ (k : Int) := by omega
        have i4 : (k : Int) < (n : Int) := by omega
        have B4 := Bs.below1 w2 (.cells #[.int .i64 (z : Nat)] 3)
        have HO4 := Lib.hid (HO3.out.up B4)
        have HB4 := Lib.hid (Bs.below_up HB3.out B4)
        have hbs : U.heap.size ≤ (w2.alloc (.cells #[.int .i64 (z : Nat)] 3)).heap.size := HB4.out.size
        have HNB := Lib.hid (Ng.new_at w2 _ rfl (.cells #[.int .i64 (z : Nat)] 3))
        obtain ⟨mk, hmk⟩ : ∃ m, (Ng.nums (Ng.beh l c (fo.take j))).length = m := ⟨_, rfl⟩
        have HMK := Lib.hid hmk
        have hml : (Ng.nums (Ng.beh l c (fo.take j))).length ≤ 10000000 := by
          rw [List.length_map]
          have h3 := Ng.beh_len l c (fo.take j)
          rw [List.length_take] at h3
          omega
        clear hs HM HON h1 h2 OA hgd B4 hmk
        go_wp2_with (first | (at_builtin; refine Nf.appendL rfl _ _ rfl U.heap.size _ (Ng.nums (Ng.beh l c (fo.take j))) rfl HO4.out w2.heap.size 1 _ rfl HNB.out hml hbs ?_; intro g9 cp9 w9 O9 gr9 l9; rw [HMK.out]; rw [HMK.out] at O9))
        have HB5 := Lib.hid (HB4.out.grown gr9 hbs (fun i hi => (World.ownsRow.lt HO4.out i hi).1))
        have HO5 : Hid (Nf.Own U.heap.size (.slice (some ⟨g9, 0, none⟩) (mk + 1) cp9) (Ng.nums (Ng.beh l c (fo.take (j + 1)))) w9) := Lib.hid (by rw [HT.out, Ng.nums_snoc]; exact O9)
        clear O9 gr9 l9
        go_roundw
        case rel => exact ⟨j + 1, by omega, by go_num, HO5, HB5⟩
        case measure => simp [intOf]; omega
    · have ht : fo.take j = fo := List.take_of_length_le (by rw [← HN1.out]; omega)
      rw [ht] at HO
      have hv := Nf.Own.row (B := fun _ => True) HO.out (fun _ _ => trivial)
      obtain ⟨a7, n7, c7, rfl⟩ := hv.form
      obtain ⟨tr, HA, _⟩ := (HMC.out.up HB.out).is
      have S := HS.out
      have hus := HUS.out
      have hbsz := HB.out.size
      have C := Lib.hid (front_any wr base r (Ng.mk l) tr (Ng.ss l) (Ng.es l) HA HF.out (Ng.beh l c fo) _ hv (fun q hq => by
        obtain ⟨k, _, _, h, rfl⟩ := (Ng.mem_beh l HWF.out c fo q).1 hq
        exact (S.one _ (List.getElem_mem h)).2) (by have h3 := Ng.beh_len l c fo; rw [← HN1.out] at h3; omega) (fun j => U.heap.size ≤ j ∧ B j) (fun j hj => ⟨by omega, HBK.out j (by omega)⟩))
      have HSO := Lib.hid (show ∀ p, (∃ h : p < (Ng.mk l).ones.length, ∃ q ∈ Ng.beh l c fo, Nf.Clo (Ng.mk l).E q (Ng.mk l).ones[p].1) ↔ ∃ k : Nat, (k : Int) ∈ fo ∧ Nf.onL l k c ∧ Nf.folA l k p from fun p => by
        constructor
        · rintro ⟨h, q, hq, hcl⟩
          obtain ⟨k, hk1, hk2, hk3, rfl⟩ := (Ng.mem_beh l HWF.out c fo q).1 hq
          exact ⟨k, hk1, hk2, (S.ao k hk3 p).1 ⟨h, hcl⟩⟩
        · rintro ⟨k, hk1, hk2, hk3⟩
          have hk : k < (Ng.mk l).ones.length := by rw [S.num]; exact (Nf.folA_lt _ _ _ hk3).1
          obtain ⟨h, hcl⟩ := (S.ao k hk p).2 hk3
          exact ⟨h, _, (Ng.mem_beh l HWF.out c fo _).2 ⟨k, hk1, hk2, hk, rfl⟩, hcl⟩)
      have HSR := Lib.hid (show ∀ p, (∃ h : p < (Ng.es l).length, ∃ q ∈ Ng.beh l c fo, Nf.Clo (Ng.mk l).E q (Ng.es l)[p]) ↔ ∃ k : Nat, (k : Int) ∈ fo ∧ Nf.onL l k c ∧ Nf.rlst l p k from fun p => by
        constructor
        · rintro ⟨h, q, hq, hcl⟩
          obtain ⟨k, hk1, hk2, hk3, rfl⟩ := (Ng.mem_beh l HWF.out c fo q).1 hq
          exact ⟨k, hk1, hk2, (S.ar k hk3 p).1 ⟨h, hcl⟩⟩
        · rintro ⟨k, hk1, hk2, hk3⟩
          have hk : k < (Ng.mk l).ones.length := by rw [S.num]; exact (Ng.rlst_lt _ _ _ hk3).2
          obtain ⟨h, hcl⟩ := (S.ar k hk p).2 hk3
          exact ⟨h, _, (Ng.mem_beh l HWF.out c fo _).2 ⟨k, hk1, hk2, hk, rfl⟩, hcl⟩)
      have e1 : decide ((j : Int) < (n1 : Int)) = false := decide_eq_false (by omega)
      have e2 : decide (j < n1) = false := decide_eq_false hlt
      clear ht hv S hus hbsz
      go_wp2_with fail
      refine C.out.mono ?_
      rintro e w3 ⟨os, rs, ⟨v1, v2, rfl, R1, R2, b1⟩, h4, h5⟩
      obtain ⟨a3, n3, c3, rfl⟩ := R1.form
      obtain ⟨a4, n4, c4, rfl⟩ := R2.form
      have b2 := Bs.below_up HB.out b1
      have X2 := HX1.out.up b2
      have y0 := X2.c0; have y1 := X2.c1; have z0 := X2.z0; have z1 := X2.z1
      have HFP : Hid (Ng.FP U (fun k => U.heap.size ≤ k ∧ B k) (fun p => ∃ k : Nat, (k : Int) ∈ fo ∧ Nf.onL l k c ∧ Nf.folA l k p) (fun q => ∃ k : Nat, (k : Int) ∈ fo ∧ Nf.onL l k c ∧ Nf.rlst l q k) (.returned (.agg #[.slice a3 n3 c3, .slice a4 n4 c4])) w3) := Lib.hid ⟨os, rs, ⟨_, _, rfl, R1, R2, b2⟩, h4.congr HSO.out, h5.congr HSR.out⟩
      clear C R1 R2 b1 h4 h5 X2 b2
      go_wp2_with fail
      refine bodyPost_ret (v := .agg #[.slice a3 n3 c3, .slice a4 n4 c4]) (by simp [results, Try.results23, go_sem, y0, y1]) rfl ?_
      exact Ng.fp_ret (by omega) (by rw [HUS.out]; omega) HB1.out HFP.out
open Go.RowKit
theorem Ng.fro_none {l : List Rx} {s : Nat → Nat} {i : Nat} (h : ∀ p, ¬ Nf.fro l s i p) : ∀ j, (∀ p, ¬ Nf.fro l s (i + j) p) ∧ ∀ r, ¬ Nf.frr l s (i + j + 1) r
  | 0 => ⟨h, fun r hr => by
      simp only [Nf.frr] at hr
      obtain ⟨k, h1, _⟩ := hr
      exact h k h1⟩
  | j + 1 => by
    have ih := Ng.fro_none h j
    have h1 : ∀ p, ¬ Nf.fro l s (i + (j + 1)) p := fun p hp => by
      rw [← Nat.add_assoc] at hp
      simp only [Nf.fro] at hp
      obtain ⟨k, h1, _⟩ := hp
      exact ih.1 k h1
    refine ⟨h1, fun r hr => ?_⟩
    simp only [Nf.frr] at hr
    obtain ⟨k, h2, _⟩ := hr
    exact h1 k h2
def Ng.own3 (H b k : Nat) : Prop := H < k ∧ k ≠ b
structure Ng.RW (w : World) (H b : Nat) (v1 v2 : Value) (os rs : List Int) (u : World) : Prop where
  bel : Below w.heap.size w u
  res : Nf.FB u H (.slice none 0 0) (.slice none 0 0)
  f : Nf.FB u b v1 v2
  r1 : Nf.Row u (fun k => Ng.own3 H b k) v1 os
  r2 : Nf.Row u (fun k => Ng.own3 H b k) v2 rs
  hH : w.heap.size ≤ H
  hb : H < b
theorem Ng.RW.up {w : World} {H b : Nat} {v1 v2 : Value} {os rs : List Int} {u u' : World} (h : Ng.RW w H b v1 v2 os rs u) (hb : Below u.heap.size u u') : Ng.RW w H b v1 v2 os rs u' :=
  ⟨Bs.below_up h.bel hb, h.res.up hb, h.f.up hb, h.r1.up hb, h.r2.up hb, h.hH, h.hb⟩
theorem Ng.RW.put {w : World} {H b : Nat} {v1 v2 : Value} {os rs : List Int} {u : World} (h : Ng.RW w H b v1 v2 os rs u) {v3 v4 : Value} {os' rs' : List Int} (h3 : Nf.Row u (fun k => Ng.own3 H b k) v3 os') (h4 : Nf.Row u (fun k => Ng.own3 H b k) v4 rs') : Ng.RW w H b v3 v4 os' rs' ((u.setCell ⟨b, 0, none⟩ v3).setCell ⟨b, 1, none⟩ v4) :=
  have hn : ¬ Ng.own3 H b b := fun e => e.2 rfl
  have hw : w.heap.size ≤ b := by have := h.hH; have := h.hb; omega
  ⟨(h.bel.setCell (p := ⟨b, 0, none⟩) hw _).setCell (p := ⟨b, 1, none⟩) hw _, (h.res.far (by have := h.hb; omega) _).far (by have := h.hb; omega) _, (h.f.set0 v3).set1 v4, (h3.set hn _).set hn _, (h4.set hn _).set hn _, h.hH, h.hb⟩
def Ng.SP (H b : Nat) (P R : Nat → Prop) (v : Value) (u : World) : Prop := ∃ v3 v4 os rs, v = .agg #[v3, v4] ∧ Nf.Row u (fun k => Ng.own3 H b k) v3 os ∧ Nf.Row u (fun k => Ng.own3 H b k) v4 rs ∧ Nf.Rise os P ∧ Nf.Rise rs R
def Ng.relR (r H b i : Nat) (v1 v2 : Value) (s : ByteArray) (c : Nat) (P R : Nat → Prop) : List (Value → World → Prop) :=
  [fun v _ => v = .pointer (some ⟨r, 0, none⟩), fun v _ => v = .agg #[v1, v2], fun v _ => v = .string s, fun v _ => v = .int .i64 i, fun v _ => v = .int .u8 c, Ng.SP H b P R]
theorem Ng.relR_up (r H b i : Nat) (v1 v2 : Value) (s : ByteArray) (c : Nat) (P R : Nat → Prop) : Rg.Ups (Ng.relR r H b i v1 v2 s c P R) := by
  refine ⟨?_, ?_, ?_, ?_, ?_, ?_, trivial⟩
  all_goals intro v w w' h hb
  · exact h
  · exact h
  · exact h
  · exact h
  · exact h
  · obtain ⟨v3, v4, os, rs, e, h1, h2, h3, h4⟩ := h
    exact ⟨v3, v4, os, rs, e, h1.up hb, h2.up hb, h3, h4⟩
theorem Ng.run_ret {w u : World} {b : Nat} {v1 v2 : Value} {os rs : List Int} {B : Nat → Prop} {P R : Nat → Prop} (h : Ng.RW w w.heap.size b v1 v2 os rs u) (hB : ∀ k, w.heap.size ≤ k → B k) (h4 : Nf.Rise os P) (h5 : Nf.Rise rs R) : Ng.FP w B P R (.returned (.agg #[v1, v2])) ((u.setCell ⟨w.heap.size, 0, none⟩ v1).setCell ⟨w.heap.size, 1, none⟩ v2) := by
  have hnH : ¬ Ng.own3 w.heap.size b w.heap.size := fun e => by have := e.1; omega
  have hK : ∀ k, Ng.own3 w.heap.size b k → B k := fun k hk => hB k (by have := hk.1; omega)
  exact ⟨os, rs, ⟨_, _, rfl, ((h.r1.set hnH _).set hnH _).mono hK, ((h.r2.set hnH _).set hnH _).mono hK, (h.bel.setCell (p := ⟨w.heap.size, 0, none⟩) (Nat.le_refl _) _).setCell (p := ⟨w.heap.size, 1, none⟩) (Nat.le_refl _) _⟩, h4, h5⟩
theorem Ng.rise_len {l : List Int} (hu : l.Pairwise (· < ·)) (h : ∀ p ∈ l, 0 ≤ p ∧ p < 1000000) : l.length ≤ 1000000 := by
  have key : ∀ (l : List Int) (m : Int), l.Pairwise (· < ·) → (∀ p ∈ l, m ≤ p ∧ p < 1000000) → m ≤ 1000000 → (l.length : Int) ≤ 1000000 - m := by
    intro l
    induction l with
    | nil => intro m _ _ hm; simp; omega
    | cons x r ih =>
      intro m hu h hm
      rw [List.pairwise_cons] at hu
      have hx := h x (by simp)
      have := ih (x + 1) hu.2 (fun p hp => ⟨by have := hu.1 p hp; omega, (h p (by simp [hp])).2⟩) (by omega)
      simp only [List.length_cons]
      omega
  have := key l 0 hu h (by omega)
  omega
set_option maxRecDepth 100000 in
set_option maxHeartbeats 600000 in
theorem run_any (w : World) (base r : Nat) (l : List Rx) (H : Ng.Mc w base r l) (s : ByteArray) (hs : s.size ≤ maxLen) (B : Nat → Prop) (hB : ∀ k, w.heap.size ≤ k → B k) : Calls Try.prog 19 #[.pointer (some ⟨r, 0, none⟩), .string s] w (Ng.FP w B (Nf.fro l (Px.by s) s.size) (Nf.frr l (Px.by s) s.size)) := by
  unfold maxLen at hs
  have B1 := Bs.below1 w (.cells #[.slice none 0 0, .slice none 0 0] 37)
  have X1 := Nf.fb_new w (.slice none 0 0) (.slice none 0 0) 37
  have es1 : (w.alloc (.cells #[.slice none 0 0, .slice none 0 0] 37)).heap.size = w.heap.size + 1 := by simp
  have C := Lib.hid (start_any _ base r l (H.up B1) (fun k => w.heap.size + 1 ≤ k) (fun k hk => by rw [es1] at hk; exact hk))
  have HMC := Lib.hid (H.up B1)
  have HMW := Lib.hid H
  have HX1 := Lib.hid X1
  have HB1 := Lib.hid B1
  have HBK := Lib.hid hB
  have HL1 := Lib.hid (show ∀ p, p ∈ (Ng.mk l).ones → True from fun _ _ => trivial)
  have HONE := Lib.hid (show Nf.onesL l ≤ 1000000 by
    have := (Ng.fine l H.fit).n3
    rw [(Ng.spec l H.fit.wf).num] at this
    exact this)
  clear H X1 B1 hB HL1
  go_enter Try.func19, Try.ntmps19
  go_wp2_with fail
  refine C.out.mono ?_
  rintro e w1 ⟨os, rs, ⟨v1, v2, rfl, R1, R2, b1⟩, h4, h5⟩
  obtain ⟨a1, n1, c1, rfl⟩ := R1.form
  obtain ⟨a2, n2, c2, rfl⟩ := R2.form
  have hw1 := b1.size
  rw [es1] at hw1
  have B2 := Bs.below1 w1 (.cells #[.slice a1 n1 c1, .slice a2 n2 c2] 37)
  have lt1 := R1.lt
  have lt2 := R2.lt
  have W0 : Hid (Ng.RW w w.heap.size w1.heap.size (.slice a1 n1 c1) (.slice a2 n2 c2) os rs (w1.alloc (.cells #[.slice a1 n1 c1, .slice a2 n2 c2] 37))) := Lib.hid ⟨Bs.below_up (Bs.below_up HB1.out b1) B2, (HX1.out.up b1).up B2, Nf.fb_new _ _ _ _, (lt1.mono (fun k hk => ⟨by omega, by omega⟩)).up B2, (lt2.mono (fun k hk => ⟨by omega, by omega⟩)).up B2, Nat.le_refl _, by omega⟩
  have H4 := Lib.hid h4
  have H5 := Lib.hid h5
  have HBV := Lib.hid (Bs.below_up b1 B2)
  clear C R1 R2 b1 h4 h5 B2 lt1 lt2 HX1 es1
  go_wp2_with fail
  generalize w1.alloc (.cells #[.slice a1 n1 c1, .slice a2 n2 c2] 37) = V at *
  generalize w1.heap.size = b at *
  go_loopw [6] (fun i wr => ∃ (q : Nat) (v1 v2 : Value) (os rs : List Int), q ≤ s.size ∧ i = .int .i64 q ∧ Hid (Ng.RW w w.heap.size b v1 v2 os rs wr) ∧ Hid (Nf.Rise os (Nf.fro l (Px.by s) q)) ∧ Hid (Nf.Rise rs (Nf.frr l (Px.by s) q))) (fun i _ => s.size - (intOf i).toNat)
  case atStart => exact ⟨0, _, _, os, rs, by omega, rfl, W0, H4, H5⟩
  case round =>
    clear W0 H4 H5 HBV HMC HB1
    obtain ⟨q, v1, v2, os, rs, hq, rfl, HW, H4, H5⟩ := hrel
    obtain ⟨a1, n1, c1, rfl⟩ := HW.out.r1.form
    obtain ⟨a2, n2, c2, rfl⟩ := HW.out.r2.form
    have d0 := HW.out.f.c0; have d1 := HW.out.f.c1
    by_cases hlt : q < s.size
    · have D := Lib.hid (dead_any os rs _ _ wr (HW.out.r1.mono (fun _ _ => trivial)) (HW.out.r2.mono (fun _ _ => trivial)))
      have e1 : decide ((q : Int) < (s.size : Int)) = true := decide_eq_true (by omega)
      have e2 : decide (q < s.size) = true := decide_eq_true hlt
      go_wp2_with fail
      refine D.out.mono ?_
      rintro e w2 ⟨rfl, b2⟩
      have HW2 := Lib.hid (HW.out.up b2)
      clear D b2 HW d0 d1
      cases hd : (os.isEmpty && rs.isEmpty)
      · have hos : os.length ≤ 1000000 := by
          have h1 := H4.out
          have h3 := HONE.out
          have : ∀ p ∈ os, 0 ≤ p ∧ p < 1000000 := fun p hp => by
            have h0 := h1.nn p hp
            obtain ⟨k, rfl⟩ : ∃ k : Nat, p = k := ⟨p.toNat, by omega⟩
            have h2 := (h1.is k).1 hp
            have h4 : k < Nf.onesL l := by
              cases q with
              | zero => obtain ⟨r, h2⟩ := h2; exact (Ng.rfst_lt _ _ _ h2).2
              | succ q => obtain ⟨_, _, _, h2⟩ := h2; exact (Nf.folA_lt _ _ _ h2).2
            omega
          exact Ng.rise_len h1.up this
        have hby : Px.by s q = s[q].toNat := by
          unfold Px.by
          rw [List.getD_eq_getElem?_getD, List.getElem?_eq_getElem (by simpa using hlt)]
          simp; rfl
        have HBY := Lib.hid hby
        have hc : s[q].toNat < 256 := s[q].toNat_lt
        have HO := Lib.hid (show ∀ p, (∃ k : Nat, (k : Int) ∈ os ∧ Nf.onL l k s[q].toNat ∧ Nf.folA l k p) ↔ Nf.fro l (Px.by s) (q + 1) p from fun p => by
          simp only [Nf.fro, hby]
          exact ⟨fun ⟨k, h1, h2, h3⟩ => ⟨k, (H4.out.is k).1 h1, h2, h3⟩, fun ⟨k, h1, h2, h3⟩ => ⟨k, (H4.out.is k).2 h1, h2, h3⟩⟩)
        have HR := Lib.hid (show ∀ p, (∃ k : Nat, (k : Int) ∈ os ∧ Nf.onL l k s[q].toNat ∧ Nf.rlst l p k) ↔ Nf.frr l (Px.by s) (q + 1) p from fun p => by
          simp only [Nf.frr, hby]
          exact ⟨fun ⟨k, h1, h2, h3⟩ => ⟨k, (H4.out.is k).1 h1, h2, h3⟩, fun ⟨k, h1, h2, h3⟩ => ⟨k, (H4.out.is k).2 h1, h2, h3⟩⟩)
        have i1 : (0 : Int) ≤ (q : Int) := by omega
        have i2 : (q : Int) < (s.size : Int) := by omega
        clear hd hby
        go_upto_region 5 with fail
        refine Rg.regionT (by kernel_rfl) (by kernel_rfl) (by kernel_rfl) (by decide) (Rg.rel (Ng.relR r w.heap.size b q (.slice a1 n1 c1) (.slice a2 n2 c2) s s[q].toNat (Nf.fro l (Px.by s) (q + 1)) (Nf.frr l (Px.by s) (q + 1)))) (Ng.RW w w.heap.size b (.slice a1 n1 c1) (.slice a2 n2 c2) os rs) (fun w w' => Below w.heap.size w w') (fun i v w w' h _ hb => Rg.rel_up (Ng.relR_up _ _ _ _ _ _ _ _ _ _) h hb) (HW2.out.up (Below.refl _ _).drew) ⟨?_, ?_, ?_, ?_, ?_, ?_, trivial⟩ ?_
        · intro fv u hw hd
          have HU := Lib.hid hw
          clear hw hd
          simp only [Rg.step, Rg.all, Act.put, List.setIfInBounds_toArray, List.set_cons_zero, List.set_cons_succ]
          go_simp
          exact ⟨rfl, HU.out, Below.refl _ _⟩
        · intro fv u hw hd
          have d0 := hw.f.c0; have d1 := hw.f.c1
          have HU := Lib.hid hw
          clear hw hd
          simp only [Rg.step, Rg.all, Act.put, List.setIfInBounds_toArray, List.set_cons_zero, List.set_cons_succ]
          go_simp
          exact ⟨rfl, HU.out, Below.refl _ _⟩
        · intro fv u hw hd
          have HU := Lib.hid hw
          clear hw hd
          simp only [Rg.step, Rg.all, Act.put, List.setIfInBounds_toArray, List.set_cons_zero, List.set_cons_succ]
          go_simp
          exact ⟨rfl, HU.out, Below.refl _ _⟩
        · intro fv u hw hd
          have HU := Lib.hid hw
          clear hw hd
          simp only [Rg.step, Rg.all, Act.put, List.setIfInBounds_toArray, List.set_cons_zero, List.set_cons_succ]
          go_simp
          exact ⟨rfl, HU.out, Below.refl _ _⟩
        · intro fv u hw hd
          have r2 : fv 2 = .string s := hd _ (List.mem_cons_self ..)
          have r3 : fv 3 = .int .i64 q := hd _ (List.mem_cons_of_mem _ (List.mem_cons_self ..))
          have HU := Lib.hid hw
          clear hw hd
          simp only [Rg.step, Rg.all, Act.put, List.setIfInBounds_toArray, List.set_cons_zero, List.set_cons_succ]
          go_simp
          exact ⟨rfl, HU.out, Below.refl _ _⟩
        · intro fv u hw hd
          have r0 : fv 0 = .pointer (some ⟨r, 0, none⟩) := hd _ (List.mem_cons_self ..)
          have r1 : fv 1 = .agg #[.slice a1 n1 c1, .slice a2 n2 c2] := hd _ (List.mem_cons_of_mem _ (List.mem_cons_self ..))
          have r4 : fv 4 = .int .u8 s[q].toNat := hd _ (List.mem_cons_of_mem _ (List.mem_cons_of_mem _ (List.mem_cons_self ..)))
          have ub := hw.f.lt
          have uH := hw.hb
          have C := Lib.hid (step_any u base r l (HMW.out.up hw.bel) os _ (.slice a2 n2 c2) (hw.r1.mono (fun _ _ => trivial)) ⟨_, _, _, rfl⟩ hos s[q].toNat hc (fun k => Ng.own3 w.heap.size b k) (fun k hk => ⟨by omega, by omega⟩))
          have HU := Lib.hid hw
          clear hw hd
          simp only [Rg.step, Rg.all, Act.put, List.setIfInBounds_toArray, List.set_cons_zero, List.set_cons_succ]
          go_simp
          refine C.out.mono ?_
          rintro e u1 ⟨os', rs', ⟨v3, v4, rfl, R3, R4, b3⟩, h6, h7⟩
          exact ⟨_, rfl, ⟨v3, v4, os', rs', rfl, R3, R4, h6.congr HO.out, h7.congr HR.out⟩, HU.out.up b3, b3⟩
        · intro fv u hw hR o ho
          obtain ⟨v3, v4, os', rs', r5, R3, R4, h6, h7⟩ : Ng.SP w.heap.size b (Nf.fro l (Px.by s) (q + 1)) (Nf.frr l (Px.by s) (q + 1)) (fv 5) u := hR 5 (by decide)
          obtain ⟨a3, n3, c3, rfl⟩ := R3.form
          obtain ⟨a4, n4, c4, rfl⟩ := R4.form
          simp at ho
          subst ho
          simp only [Rg.step, Rg.all, Act.put, List.setIfInBounds_toArray, List.set_cons_zero, List.set_cons_succ]
          have HR7 := Lib.hid (hw.put R3 R4)
          have g0 := hw.f.c0; have g1 := hw.f.c1
          have y0 := hw.f.z0; have y1 := hw.f.z1
          have H6 := Lib.hid h6
          have H7 := Lib.hid h7
          clear hw hR R3 R4 h6 h7
          go_simp
          go_wp2_with fail
          go_roundw
          case rel => exact ⟨q + 1, _, _, os', rs', by omega, by go_num, HR7, H6, H7⟩
          case measure => simp [intOf]; omega
      · have hos : os = [] ∧ rs = [] := by simpa using hd
        obtain ⟨rfl, rfl⟩ := hos
        have hno : ∀ p, ¬ Nf.fro l (Px.by s) q p := fun p hp => by have := (H4.out.is p).2 hp; simp at this
        obtain ⟨j, hj⟩ : ∃ j, s.size = q + j + 1 := ⟨s.size - q - 1, by omega⟩
        have h6 := (Ng.fro_none hno (j + 1)).1
        have h7 := (Ng.fro_none hno j).2
        rw [← Nat.add_assoc, ← hj] at h6
        rw [← hj] at h7
        have H6 := Lib.hid (Nf.rise_nil h6)
        have H7 := Lib.hid (Nf.rise_nil h7)
        clear hd hno h6 h7 hj
        have d0 := HW2.out.f.c0; have d1 := HW2.out.f.c1
        have u0 := HW2.out.res.c0; have u1 := HW2.out.res.c1
        have t0 := HW2.out.res.z0; have t1 := HW2.out.res.z1
        go_wp2_with fail
        refine bodyPost_ret (v := .agg #[.slice a1 n1 c1, .slice a2 n2 c2]) (by simp [results, Try.results19, go_sem, u0, u1]) rfl ?_
        exact Ng.run_ret HW2.out HBK.out H6.out H7.out
    · obtain rfl : q = s.size := by omega
      have e1 : decide ((s.size : Int) < (s.size : Int)) = false := decide_eq_false (by omega)
      have e2 : decide (s.size < s.size) = false := decide_eq_false (by omega)
      have d0 := HW.out.f.c0; have d1 := HW.out.f.c1
      have u0 := HW.out.res.c0; have u1 := HW.out.res.c1
      have t0 := HW.out.res.z0; have t1 := HW.out.res.z1
      go_wp2_with fail
      refine bodyPost_ret (v := .agg #[.slice a1 n1 c1, .slice a2 n2 c2]) (by simp [results, Try.results19, go_sem, u0, u1]) rfl ?_
      exact Ng.run_ret HW.out HBK.out H4.out H5.out
end Go.Proofs.Ytnbbepgjpfhjdaa
