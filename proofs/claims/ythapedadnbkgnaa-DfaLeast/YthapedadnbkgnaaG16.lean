/- The program's machine of some rules: plain facts: what front tells of it. What the program's has, Ones, Set, Start and After answer, walked. What the program's After and Step answer, walked. What the program's Run answers, walked. What Classes answers, walked. -/
import Derived.Test.YthapedadnbkgnaaG13
import Derived.Test.YthapedadnbkgnaaG15
import Derived.Test.YthapedadnbkgnaaG5
import Derived.Test.YthapedadnbkgnaaG14
import Derived.Deep.Cut
namespace Go.Proofs.Ythapedadnbkgnaa
set_option linter.unusedVariables false
set_option linter.unusedSimpArgs false
open Go.RowKit
theorem Ng.rfst_lt : ∀ (l : List Rx) (r p : Nat), Nf.rfst l r p → r < l.length ∧ p < Nf.onesL l
  | [], r, p, h => by simp [Nf.rfst] at h
  | x :: l, 0, p, h => by
    simp only [Nf.rfst] at h
    have := Nf.fst_lt _ _ h
    simp only [Nf.onesL, List.length_cons]
    omega
  | x :: l, r + 1, p, h => by
    simp only [Nf.rfst] at h
    obtain ⟨q, rfl, h⟩ := h
    have := Ng.rfst_lt l r q h
    simp only [Nf.onesL, List.length_cons]
    omega
theorem Ng.rlst_lt : ∀ (l : List Rx) (r p : Nat), Nf.rlst l r p → r < l.length ∧ p < Nf.onesL l
  | [], r, p, h => by simp [Nf.rlst] at h
  | x :: l, 0, p, h => by
    simp only [Nf.rlst] at h
    have := Nf.lst_lt _ _ h
    simp only [Nf.onesL, List.length_cons]
    omega
  | x :: l, r + 1, p, h => by
    simp only [Nf.rlst] at h
    obtain ⟨q, rfl, h⟩ := h
    have := Ng.rlst_lt l r q h
    simp only [Nf.onesL, List.length_cons]
    omega
theorem Ng.remp_lt : ∀ (l : List Rx) (r : Nat), Nf.remp l r → r < l.length
  | [], r, h => by simp [Nf.remp] at h
  | x :: l, 0, h => by simp
  | x :: l, r + 1, h => by
    simp only [Nf.remp] at h
    have := Ng.remp_lt l r h
    simp only [List.length_cons]
    omega
abbrev Ng.mk (l : List Rx) : Nf.Mach := Nf.build l Ng.M0
abbrev Ng.ss (l : List Rx) : List Nat := (Nf.ends l Ng.M0).map (·.1)
abbrev Ng.es (l : List Rx) : List Nat := (Nf.ends l Ng.M0).map (·.2)
theorem Ng.M0_E (u v : Nat) : ¬ Ng.M0.E u v := by
  rintro ⟨l, h, _⟩
  simp [Ng.M0] at h
structure Ng.Spec (l : List Rx) : Prop where
  num : (Ng.mk l).ones.length = Nf.onesL l
  cnt : (Ng.es l).length = l.length
  cnt' : (Ng.ss l).length = l.length
  so : ∀ p, (∃ h : p < (Ng.mk l).ones.length, ∃ q ∈ Ng.ss l, Nf.Clo (Ng.mk l).E q (Ng.mk l).ones[p].1) ↔ ∃ r, Nf.rfst l r p
  sr : ∀ i, (∃ h : i < (Ng.es l).length, ∃ q ∈ Ng.ss l, Nf.Clo (Ng.mk l).E q (Ng.es l)[i]) ↔ Nf.remp l i
  ao : ∀ k (hk : k < (Ng.mk l).ones.length) p, (∃ h : p < (Ng.mk l).ones.length, Nf.Clo (Ng.mk l).E (Ng.mk l).ones[k].2 (Ng.mk l).ones[p].1) ↔ Nf.folA l k p
  ar : ∀ k (hk : k < (Ng.mk l).ones.length) i, (∃ h : i < (Ng.es l).length, Nf.Clo (Ng.mk l).E (Ng.mk l).ones[k].2 (Ng.es l)[i]) ↔ Nf.rlst l i k
  lt : ∀ r ∈ (Ng.mk l).free, ∀ u ∈ r, u < (Ng.mk l).free.length
  one : ∀ o ∈ (Ng.mk l).ones, o.1 < (Ng.mk l).free.length ∧ o.2 < (Ng.mk l).free.length
  en : ∀ e ∈ Ng.es l, e < (Ng.mk l).free.length
  st : ∀ e ∈ Ng.ss l, e < (Ng.mk l).free.length
theorem Ng.spec (l : List Rx) (hw : Rx.wfL l = true) : Ng.Spec l := by
  obtain ⟨D, os, H⟩ := Nf.build_spec l hw Ng.M0
  have hons : (Ng.mk l).ones = os := by
    have this : (Ng.mk l).ones = Ng.M0.ones ++ os := H.ons
    rw [this]; rfl
  have hE : ∀ u v, (Ng.mk l).E u v ↔ D u v := fun u v => by
    have := H.stp u v
    rw [this]
    exact ⟨fun h => h.elim (fun h => absurd h (Ng.M0_E u v)) id, .inr⟩
  have hC : ∀ u v, Nf.Clo (Ng.mk l).E u v ↔ Nf.Clo D u v := fun u v => ⟨fun h => h.of fun _ _ h => (hE _ _).1 h, fun h => h.of fun _ _ h => (hE _ _).2 h⟩
  have hnum : (Ng.mk l).ones.length = Nf.onesL l := by rw [hons]; exact H.num
  have hcnt : (Ng.es l).length = l.length := by rw [List.length_map]; exact H.cnt
  have hcnt' : (Ng.ss l).length = l.length := by rw [List.length_map]; exact H.cnt
  have hel : ∀ i (h : i < (Ng.es l).length), ∃ h' : i < (Nf.ends l Ng.M0).length, (Ng.es l)[i] = (Nf.ends l Ng.M0)[i].2 := fun i h => ⟨by rwa [List.length_map] at h, by simp [Ng.es]⟩
  refine ⟨hnum, hcnt, hcnt', fun p => ?_, fun i => ?_, fun k hk p => ?_, fun k hk i => ?_, ?_, ?_, ?_, ?_⟩
  · constructor
    · rintro ⟨h, q, hq, hc⟩
      obtain ⟨e, he, rfl⟩ := List.mem_map.1 hq
      obtain ⟨r, hr, rfl⟩ := List.getElem_of_mem he
      rw [hC] at hc
      have h' : p < os.length := by rw [← hons]; exact h
      have e1 : (Ng.mk l).ones[p] = os[p] := by simp only [hons]
      rw [e1] at hc
      exact ⟨r, (H.fsts r p hr h').1 hc⟩
    · rintro ⟨r, h⟩
      obtain ⟨h1, h2⟩ := Ng.rfst_lt _ _ _ h
      have hr : r < (Nf.ends l Ng.M0).length := by rw [H.cnt]; exact h1
      have h' : p < os.length := by rw [H.num]; exact h2
      have hp : p < (Ng.mk l).ones.length := by rw [hons]; exact h'
      refine ⟨hp, _, List.mem_map.2 ⟨_, List.getElem_mem hr, rfl⟩, ?_⟩
      have e1 : (Ng.mk l).ones[p] = os[p] := by simp only [hons]
      rw [e1, hC]
      exact (H.fsts r p hr h').2 h
  · constructor
    · rintro ⟨h, q, hq, hc⟩
      obtain ⟨e, he, rfl⟩ := List.mem_map.1 hq
      obtain ⟨r, hr, rfl⟩ := List.getElem_of_mem he
      obtain ⟨h', e1⟩ := hel i h
      rw [e1, hC] at hc
      obtain ⟨rfl, h3⟩ := (H.emp r i hr h').1 hc
      exact h3
    · intro h
      have h1 := Ng.remp_lt _ _ h
      have hr : i < (Nf.ends l Ng.M0).length := by rw [H.cnt]; exact h1
      have hi : i < (Ng.es l).length := by rw [hcnt]; exact h1
      refine ⟨hi, _, List.mem_map.2 ⟨_, List.getElem_mem hr, rfl⟩, ?_⟩
      obtain ⟨h', e1⟩ := hel i hi
      rw [e1, hC]
      exact (H.emp i i hr h').2 ⟨rfl, h⟩
  · have hk' : k < os.length := by rw [← hons]; exact hk
    have e2 : (Ng.mk l).ones[k] = os[k] := by simp only [hons]
    constructor
    · rintro ⟨h, hc⟩
      have h' : p < os.length := by rw [← hons]; exact h
      have e1 : (Ng.mk l).ones[p] = os[p] := by simp only [hons]
      rw [e1, e2, hC] at hc
      exact (H.fols k p hk' h').1 hc
    · intro h
      have h2 := (Nf.folA_lt _ _ _ h).2
      have h' : p < os.length := by rw [H.num]; exact h2
      have hp : p < (Ng.mk l).ones.length := by rw [hons]; exact h'
      refine ⟨hp, ?_⟩
      have e1 : (Ng.mk l).ones[p] = os[p] := by simp only [hons]
      rw [e1, e2, hC]
      exact (H.fols k p hk' h').2 h
  · have hk' : k < os.length := by rw [← hons]; exact hk
    have e2 : (Ng.mk l).ones[k] = os[k] := by simp only [hons]
    constructor
    · rintro ⟨h, hc⟩
      obtain ⟨h', e1⟩ := hel i h
      rw [e1, e2, hC] at hc
      exact (H.lsts i k h' hk').1 hc
    · intro h
      have h1 := (Ng.rlst_lt _ _ _ h).1
      have hi : i < (Ng.es l).length := by rw [hcnt]; exact h1
      obtain ⟨h', e1⟩ := hel i hi
      refine ⟨hi, ?_⟩
      rw [e1, e2, hC]
      exact (H.lsts i k h' hk').2 h
  · intro r hr u hu
    obtain ⟨i, hi, rfl⟩ := List.getElem_of_mem hr
    have : (Ng.mk l).E i u := ⟨_, List.getElem?_eq_getElem hi, hu⟩
    exact (H.inn _ _ ((hE _ _).1 this)).2.2
  · intro o ho
    rw [hons] at ho
    obtain ⟨i, hi, rfl⟩ := List.getElem_of_mem ho
    exact ⟨(H.ose i hi).1.2, (H.ose i hi).2.2⟩
  · intro e he
    obtain ⟨x, hx, rfl⟩ := List.mem_map.1 he
    obtain ⟨i, hi, rfl⟩ := List.getElem_of_mem hx
    exact (H.ens i hi).2.2
  · intro e he
    obtain ⟨x, hx, rfl⟩ := List.mem_map.1 he
    obtain ⟨i, hi, rfl⟩ := List.getElem_of_mem hx
    exact (H.ens i hi).1.2
theorem Ng.grow_build : ∀ (l : List Rx) (M : Nf.Mach), Ng.Grow M (Nf.build l M) (3 * Rx.sizeL l + l.length) (4 * Rx.sizeL l) (Rx.sizeL l)
  | [], M => by
    simp only [Nf.build]
    exact Ng.grow_refl _ _ _ _
  | x :: r, M => by
    have h1 := (((Ng.grow_place M).trans (Ng.grow_place M.place) (Nat.le_refl _) (Nat.le_refl _) (Nat.le_refl _)).trans (Ng.grow_lay x M.free.length (M.free.length + 1) M.place.place) (Nat.le_refl _) (Nat.le_refl _) (Nat.le_refl _)).trans (Ng.grow_build r _) (Nat.le_refl _) (Nat.le_refl _) (Nat.le_refl _)
    have hs := x.size_pos
    simp only [Nf.build, Rx.sizeL, List.length_cons]
    exact h1.trans (Ng.grow_refl _ 0 0 0) (by omega) (by omega) (by omega)
structure Ng.Fits (l : List Rx) : Prop where
  wf : Rx.wfL l = true
  sz : Rx.sizeL l ≤ 2000
  ln : l.length ≤ 32
theorem Ng.fits_of {l : List Rx} (h : Ng.code l = 0) : Ng.Fits l := by
  unfold Ng.code at h
  split at h
  · omega
  · rename_i h1
    split at h
    · omega
    · rename_i h2
      simp at h1 h2
      exact ⟨Rx.wfL_all.2 fun x hx => (Rx.may_iff.1 (h1.2 x hx)).1, h2.2, h2.1⟩
theorem Ng.fine (l : List Rx) (h : Ng.Fits l) : Ng.Fine (Ng.mk l) (Ng.es l) := by
  have S := Ng.spec l h.wf
  have G : Ng.Grow Ng.M0 (Ng.mk l) _ _ _ := Ng.grow_build l Ng.M0
  have h1 := h.sz
  have h2 := h.ln
  have g2 := G.hi
  have g3 := G.tot
  have g4 := G.one
  have t0 : Ng.tot Ng.M0 = 0 := rfl
  have t1 : Ng.M0.free.length = 0 := rfl
  have t2 : Ng.M0.ones.length = 0 := rfl
  refine ⟨S.lt, S.one, S.en, by omega, fun r hr => ?_, by omega, by rw [S.cnt]; omega⟩
  obtain ⟨i, hi, rfl⟩ := List.getElem_of_mem hr
  have := Ng.le_tot (Ng.mk l) i hi
  omega
structure Ng.Mc (w : World) (base r : Nat) (l : List Rx) : Prop where
  fit : Ng.Fits l
  is : ∃ tr, Ng.At w base r (Ng.mk l) tr (Ng.ss l) (Ng.es l) ∧ tr.map (·.1) = Rx.setsL l
theorem Ng.Mc.up {w w' : World} {base r : Nat} {l : List Rx} (h : Ng.Mc w base r l) (hb : Below w.heap.size w w') : Ng.Mc w' base r l := by
  obtain ⟨f, tr, h1, h2⟩ := h
  exact ⟨f, tr, h1.up hb, h2⟩
def Ng.FP (w : World) (B : Nat → Prop) (P R : Nat → Prop) (e : Ending) (w' : World) : Prop := ∃ os rs, Nf.FPost w B os rs e w' ∧ Nf.Rise os P ∧ Nf.Rise rs R
theorem Ng.FP.congr {w : World} {B : Nat → Prop} {P R P' R' : Nat → Prop} {e : Ending} {w' : World} (h : Ng.FP w B P R e w') (h1 : ∀ p, P p ↔ P' p) (h2 : ∀ p, R p ↔ R' p) : Ng.FP w B P' R' e w' := by
  obtain ⟨os, rs, h3, h4, h5⟩ := h
  exact ⟨os, rs, h3, h4.congr h1, h5.congr h2⟩
open Go.RowKit
def Ng.setAt (l : List Rx) (i : Int) : Nat → Bool := if 0 ≤ i then (Rx.setsL l).getD i.toNat (fun _ => false) else fun _ => false
def Ng.hasAt (l : List Rx) (i : Int) : Bool := decide (0 ≤ i) && decide (i < (Nf.onesL l : Nat))
theorem Ng.hasAt_iff {l : List Rx} {i : Int} : Ng.hasAt l i = true ↔ ∃ k : Nat, i = k ∧ k < Nf.onesL l := by
  simp only [Ng.hasAt, Bool.and_eq_true, decide_eq_true_eq]
  constructor
  · rintro ⟨h1, h2⟩
    exact ⟨i.toNat, by omega, by omega⟩
  · rintro ⟨k, rfl, h⟩
    omega
theorem Ng.onL_set {l : List Rx} {k c : Nat} (hk : k < Nf.onesL l) : Nf.onL l k c ↔ Ng.setAt l k c = true := by
  have hk' : k < (Rx.setsL l).length := by rw [Nf.setsL_len]; exact hk
  unfold Nf.onL Ng.setAt
  rw [if_pos (by omega), Int.toNat_natCast, List.getD_eq_getElem?_getD, List.getElem?_eq_getElem hk']
  simp
theorem Ng.setAt_none {l : List Rx} {i : Int} (h : Ng.hasAt l i = false) : Ng.setAt l i = fun _ => false := by
  unfold Ng.setAt
  split
  · rename_i h0
    rw [List.getD_eq_getElem?_getD, List.getElem?_eq_none]
    · rfl
    · rw [Nf.setsL_len]
      have : ¬ (i < (Nf.onesL l : Nat)) := fun h1 => by simp [Ng.hasAt, h0, h1] at h
      omega
  · rfl
theorem Ng.Mc.tr {w : World} {base r : Nat} {l : List Rx} (h : Ng.Mc w base r l) : ∃ tr col vf vo vs ve rows, Ng.Mem w base r col vf vo vs ve rows (Ng.mk l) tr (Ng.ss l) (Ng.es l) ∧ tr.map (·.1) = Rx.setsL l ∧ tr.length = Nf.onesL l := by
  obtain ⟨tr, ⟨col, vf, vo, vs, ve, rows, h1⟩, h2⟩ := h.is
  refine ⟨tr, col, vf, vo, vs, ve, rows, h1, h2, ?_⟩
  have := congrArg List.length h2
  rw [List.length_map, Nf.setsL_len] at this
  exact this
set_option maxRecDepth 100000 in
set_option maxHeartbeats 400000 in
theorem has_any (w : World) (base r : Nat) (l : List Rx) (H : Ng.Mc w base r l) (i : Int) : Calls Try.prog 66 #[.pointer (some ⟨r, 0, none⟩), .int .i64 i] w fun e w' => e = .returned (.bool (Ng.hasAt l i)) ∧ w = w' := by
  obtain ⟨tr, col, vf, vo, vs, ve, rows, HM, h1, h2⟩ := H.tr
  obtain ⟨ao, co, rfl, _⟩ := HM.ones
  have c1 := HM.c1
  rw [h2] at c1
  have HH := Lib.hid (show Ng.hasAt l i = (decide (0 ≤ i) && decide (i < (Nf.onesL l : Nat))) from rfl)
  generalize Nf.onesL l = n at *
  generalize Ng.hasAt l i = b at *
  clear HM h1 h2 H
  go_enter Try.func66, Try.ntmps66
  by_cases h0 : 0 ≤ i
  · have e0 : decide (0 ≤ i) = true := decide_eq_true h0
    rw [e0, Bool.true_and] at HH
    go_wp2_with fail
    go_ret
    exact ⟨by rw [HH.out]; rfl, rfl⟩
  · have e0 : decide (0 ≤ i) = false := decide_eq_false h0
    rw [e0, Bool.false_and] at HH
    go_wp2_with fail
    go_ret
    exact ⟨by rw [HH.out]; rfl, rfl⟩
set_option maxRecDepth 100000 in
set_option maxHeartbeats 400000 in
theorem ones_any (w : World) (base r : Nat) (l : List Rx) (H : Ng.Mc w base r l) : Calls Try.prog 47 #[.pointer (some ⟨r, 0, none⟩)] w fun e w' => e = .returned (.int .i64 (Nf.onesL l : Nat)) ∧ w = w' := by
  obtain ⟨tr, col, vf, vo, vs, ve, rows, HM, h1, h2⟩ := H.tr
  obtain ⟨ao, co, rfl, _⟩ := HM.ones
  have c1 := HM.c1
  rw [h2] at c1
  generalize Nf.onesL l = n at *
  clear HM h1 h2 H
  go_enter Try.func47, Try.ntmps47
  go_wp2_with fail
  go_ret
  exact ⟨rfl, rfl⟩
set_option maxRecDepth 100000 in
set_option maxHeartbeats 1000000 in
theorem set_any (w : World) (base r : Nat) (l : List Rx) (H : Ng.Mc w base r l) (i : Int) : Calls Try.prog 48 #[.pointer (some ⟨r, 0, none⟩), .int .i64 i] w fun e w' => e = .returned (Bs.val (Ng.setAt l i)) ∧ Below w.heap.size w w' := by
  have B1 := Bs.below1 w (.cells #[.int .u64 0, .int .u64 0, .int .u64 0, .int .u64 0] 25)
  have HH := Lib.hid (has_any _ base r l (H.up B1) i)
  have HB1 := Lib.hid B1
  cases hh : Ng.hasAt l i
  · rw [hh] at HH
    have HS := Lib.hid (Ng.setAt_none hh)
    clear hh H B1
    go_enter Try.func48, Try.ntmps48
    go_wp2_with fail
    refine HH.out.mono ?_
    rintro e w1 ⟨rfl, rfl⟩
    clear HH
    go_wp2_with fail
    refine bodyPost_ret (v := Bs.val (Ng.setAt l i)) (by rw [HS.out, Bs.val_none]; simp [results, Try.results48, go_sem]) rfl ⟨rfl, ?_⟩
    exact Bs.below1 w _
  · rw [hh] at HH
    obtain ⟨k, rfl, hk⟩ := Ng.hasAt_iff.1 hh
    obtain ⟨tr, col, vf, vo, vs, ve, rows, HM, h1, h2⟩ := (H.up B1).tr
    obtain ⟨ao, co, rfl, HON⟩ := HM.ones
    have c1 := HM.c1
    rw [h2] at c1
    have hk' : k < tr.length := by rw [h2]; exact hk
    obtain ⟨x, rfl, OA⟩ := HON k hk'
    have HS := Lib.hid (show Ng.setAt l k = tr[k].1 by
      unfold Ng.setAt
      rw [if_pos (by omega), Int.toNat_natCast, ← h1, List.getD_eq_getElem?_getD, List.getElem?_map, List.getElem?_eq_getElem hk']
      rfl)
    generalize tr[k] = o at *
    obtain ⟨f, a, c⟩ := o
    obtain ⟨x0, x1, x2, x3, _, _⟩ := OA
    simp only at x0 x1 x2 x3 HS
    generalize Nf.onesL l = n at *
    have i1 : (0 : Int) ≤ (k : Int) := by omega
    have i2 : (k : Int) < (n : Int) := by omega
    clear hh H B1 HM HON h1 h2
    go_enter Try.func48, Try.ntmps48
    go_wp2_with fail
    refine HH.out.mono ?_
    rintro e w1 ⟨rfl, rfl⟩
    clear HH
    go_wp2_with fail
    refine bodyPost_ret (v := Bs.val (Ng.setAt l k)) (by rw [HS.out]; unfold Bs.val; simp [results, Try.results48, go_sem]) rfl ⟨rfl, ?_⟩
    exact Bs.below1 w _
theorem Ng.fp_ret {w u : World} {B : Nat → Prop} {P R : Nat → Prop} {v1 v2 : Value} {w' : World} {H : Nat} (hH : w.heap.size ≤ H) (hHu : H < u.heap.size) (hu : Below w.heap.size w u) (h : Ng.FP u (fun k => u.heap.size ≤ k ∧ B k) P R (.returned (.agg #[v1, v2])) w') : Ng.FP w B P R (.returned (.agg #[v1, v2])) ((w'.setCell ⟨H, 0, none⟩ v1).setCell ⟨H, 1, none⟩ v2) := by
  obtain ⟨os, rs, ⟨vo, vr, e, h1, h2, h3⟩, h4, h5⟩ := h
  injection e with e
  injection e with e
  have e1 := congrArg Array.toList e
  simp only [List.cons.injEq, and_true] at e1
  obtain ⟨rfl, rfl⟩ := e1
  have hn : ¬ (u.heap.size ≤ H ∧ B H) := fun e => by omega
  refine ⟨os, rs, ⟨_, _, rfl, ((h1.set hn _).set hn _).mono (fun _ h => h.2), ((h2.set hn _).set hn _).mono (fun _ h => h.2), ?_⟩, h4, h5⟩
  exact ((hu.trans (h3.mono hu.size)).setCell (p := ⟨H, 0, none⟩) hH _).setCell (p := ⟨H, 1, none⟩) hH _
set_option maxRecDepth 100000 in
set_option maxHeartbeats 1000000 in
theorem start_any (w : World) (base r : Nat) (l : List Rx) (H : Ng.Mc w base r l) (B : Nat → Prop) (hB : ∀ k, w.heap.size ≤ k → B k) : Calls Try.prog 51 #[.pointer (some ⟨r, 0, none⟩)] w (Ng.FP w B (fun p => ∃ r, Nf.rfst l r p) (Nf.remp l)) := by
  have B1 := Bs.below1 w (.cells #[.slice none 0 0, .slice none 0 0] 115)
  have X1 := Nf.fb_new w (.slice none 0 0) (.slice none 0 0) 115
  have S := Ng.spec l H.fit.wf
  have hF := Ng.fine l H.fit
  obtain ⟨tr, HA, _⟩ := (H.up B1).is
  obtain ⟨col, vf, vo, vs, ve, rows, HM⟩ := HA
  have hvs := Nf.Own.row (B := fun _ => True) HM.os (fun _ _ => trivial)
  obtain ⟨a7, n7, c7, rfl⟩ := hvs.form
  have c2 := HM.c2
  have C := Lib.hid (front_any _ base r (Ng.mk l) tr (Ng.ss l) (Ng.es l) ⟨_, _, _, _, _, _, HM⟩ hF (Ng.ss l) _ hvs S.st (by rw [S.cnt']; have := H.fit.ln; omega) (fun k => (w.alloc (.cells #[.slice none 0 0, .slice none 0 0] 115)).heap.size ≤ k ∧ B k) (fun k hk => ⟨hk, hB k (Nat.le_trans B1.size hk)⟩))
  have HSO := Lib.hid S.so
  have HSR := Lib.hid S.sr
  have HX1 := Lib.hid X1
  have HB1 := Lib.hid B1
  clear HM hvs S hF X1 H hB B1
  go_enter Try.func51, Try.ntmps51
  go_wp2_with fail
  refine C.out.mono ?_
  rintro e w1 ⟨os, rs, ⟨v1, v2, rfl, R1, R2, b1⟩, h4, h5⟩
  obtain ⟨a1, n1, c1, rfl⟩ := R1.form
  obtain ⟨a2, n2, c3, rfl⟩ := R2.form
  have X2 := HX1.out.up b1
  have y0 := X2.c0; have y1 := X2.c1; have z0 := X2.z0; have z1 := X2.z1
  have HFP : Hid (Ng.FP (w.alloc (.cells #[.slice none 0 0, .slice none 0 0] 115)) (fun k => (w.alloc (.cells #[.slice none 0 0, .slice none 0 0] 115)).heap.size ≤ k ∧ B k) (fun p => ∃ r, Nf.rfst l r p) (Nf.remp l) (.returned (.agg #[.slice a1 n1 c1, .slice a2 n2 c3])) w1) := Lib.hid ⟨os, rs, ⟨_, _, rfl, R1, R2, b1⟩, h4.congr HSO.out, h5.congr HSR.out⟩
  clear C R1 R2 b1 h4 h5 X2
  go_wp2_with fail
  refine bodyPost_ret (v := .agg #[.slice a1 n1 c1, .slice a2 n2 c3]) (by simp [results, Try.results51, go_sem, y0, y1]) rfl ?_
  exact Ng.fp_ret (Nat.le_refl _) (by simp) HB1.out HFP.out
open Go.RowKit
theorem Ng.row_nil (w : World) (B : Nat → Prop) : Nf.Row w B (.slice none 0 0) [] := ⟨none, 0, rfl, Nat.le_refl _, fun _ => rfl, fun i hi => by simp at hi, fun x e => by simp at e⟩
def Ng.beh (l : List Rx) (c : Nat) (fo : List Int) : List Nat := fo.filterMap fun i => if Ng.setAt l i c = true then some ((Ng.mk l).ones.getD i.toNat (0, 0)).2 else none
theorem Ng.beh_take (l : List Rx) (c : Nat) (fo : List Int) (j : Nat) (h : j < fo.length) : Ng.beh l c (fo.take (j + 1)) = Ng.beh l c (fo.take j) ++ (if Ng.setAt l fo[j] c = true then [((Ng.mk l).ones.getD fo[j].toNat (0, 0)).2] else []) := by
  rw [Ng.beh, List.take_succ_eq_append_getElem h, List.filterMap_append]
  congr 1
  by_cases e : Ng.setAt l fo[j] c = true <;> simp [e]
theorem Ng.beh_len (l : List Rx) (c : Nat) (fo : List Int) : (Ng.beh l c fo).length ≤ fo.length := List.length_filterMap_le _ _
theorem Ng.set_has {l : List Rx} {i : Int} {c : Nat} (h : Ng.setAt l i c = true) : ∃ k : Nat, i = k ∧ k < Nf.onesL l := by
  refine Ng.hasAt_iff.1 ?_
  cases hh : Ng.hasAt l i
  · rw [Ng.setAt_none hh] at h; simp at h
  · rfl
theorem Ng.mem_beh (l : List Rx) (hw : Rx.wfL l = true) (c : Nat) (fo : List Int) (q : Nat) : q ∈ Ng.beh l c fo ↔ ∃ k : Nat, (k : Int) ∈ fo ∧ Nf.onL l k c ∧ ∃ h : k < (Ng.mk l).ones.length, q = (Ng.mk l).ones[k].2 := by
  have S := Ng.spec l hw
  unfold Ng.beh
  rw [List.mem_filterMap]
  constructor
  · rintro ⟨i, hi, h⟩
    by_cases e : Ng.setAt l i c = true
    · rw [if_pos e] at h
      obtain ⟨k, rfl, hk⟩ := Ng.set_has e
      have hk' : k < (Ng.mk l).ones.length := by rw [S.num]; exact hk
      injection h with h
      rw [Int.toNat_natCast, List.getD_eq_getElem?_getD, List.getElem?_eq_getElem hk'] at h
      exact ⟨k, hi, (Ng.onL_set hk).2 e, hk', h.symm⟩
    · rw [if_neg e] at h; simp at h
  · rintro ⟨k, hi, ho, hk', rfl⟩
    have hk : k < Nf.onesL l := by rw [← S.num]; exact hk'
    refine ⟨k, hi, ?_⟩
    rw [if_pos ((Ng.onL_set hk).1 ho), Int.toNat_natCast, List.getD_eq_getElem?_getD, List.getElem?_eq_getElem hk']
    rfl
set_option maxRecDepth 100000 in
set_option maxHeartbeats 2000000 in
theorem step_any (w : World) (base r : Nat) (l : List Rx) (H : Ng.Mc w base r l) (fo : List Int) (p1 p2 : Value) (hp1 : Nf.Row w (fun _ => True) p1 fo) (hp2 : ∃ a n c, p2 = .slice a n c) (hfo : fo.length ≤ 1000000) (c : Nat) (hc : c < 256) (B : Nat → Prop) (hB : ∀ k, w.heap.size ≤ k → B k) :
    Calls Try.prog 52 #[.pointer (some ⟨r, 0, none⟩), .agg #[p1, p2], .int .u8 c] w (Ng.FP w B (fun p => ∃ k : Nat, (k : Int) ∈ fo ∧ Nf.onL l k c ∧ Nf.folA l k p) (fun q => ∃ k : Nat, (k : Int) ∈ fo ∧ Nf.onL l k c ∧ Nf.rlst l q k)) := by
  obtain ⟨a1, n1, c1, rfl⟩ := hp1.form
  obtain ⟨a2, n2, c2, rfl⟩ := hp2
  have hn1 := hp1.at.1
  have S := Ng.spec l H.fit.wf
  have HF := Lib.hid (Ng.fine l H.fit)
  have B1 := Bs.below2 w (.cells #[.slice a1 n1 c1, .slice a2 n2 c2] 115) (.cells #[.slice none 0 0, .slice none 0 0] 115)
  have X1 := Nf.fb_new (w.alloc (.cells #[.slice a1 n1 c1, .slice a2 n2 c2] 115)) (.slice none 0 0) (.slice none 0 0) 115
  have es1 : (w.alloc (.cells #[.slice a1 n1 c1, .slice a2 n2 c2] 115)).heap.size = w.heap.size + 1 := by simp
  rw [es1] at X1
  have es2 : ((w.alloc (.cells #[.slice a1 n1 c1, .slice a2 n2 c2] 115)).alloc (.cells #[.slice none 0 0, .slice none 0 0] 115)).heap.size = w.heap.size + 2 := by simp
  have HB1 := Lib.hid B1
  have HX1 := Lib.hid X1
  have HUS := Lib.hid es2
  have HMC := Lib.hid (H.up B1)
  have HP1 := Lib.hid (hp1.up B1)
  have HN1 := Lib.hid hn1
  have HBK := Lib.hid hB
  have HS := Lib.hid S
  have HWF := Lib.hid H.fit.wf
  have hn6 : n1 ≤ 1000000 := by omega
  clear H hp1 S B1 X1 es1 es2 hB hn1 hfo
  go_enter Try.func52, Try.ntmps52
  go_wp2_with fail
  generalize (w.alloc (.cells #[.slice a1 n1 c1, .slice a2 n2 c2] 115)).alloc (.cells #[.slice none 0 0, .slice none 0 0] 115) = U at *
  go_loopw [7, 13] (fun v i wr => ∃ j : Nat, j ≤ n1 ∧ i = .int .i64 j ∧ Hid (Nf.Own U.heap.size v (Ng.nums (Ng.beh l c (fo.take j))) wr) ∧ Hid (Below U.heap.size U wr)) (fun _ i _ => n1 - (intOf i).toNat)
  case atStart => exact ⟨0, by omega, rfl, Lib.hid (by simpa [Ng.beh] using Nf.own_nil _ _), Lib.hid (Below.refl _ _)⟩
  case round =>
    obtain ⟨j, hj, rfl, HO, HB⟩ := hrel
    by_cases hlt : j < n1
    · have hlt' : j < fo.length := by rw [← HN1.out]; exact hlt
      obtain ⟨x, rfl, hx⟩ := (HP1.out.up HB.out).at.2 j hlt'
      have HT := Lib.hid (Ng.beh_take l c fo j hlt')
      generalize fo[j] = y at *
      have C := Lib.hid (set_any wr base r l (HMC.out.up HB.out) y)
      have i1 : (0 : Int) ≤ (j : Int) := by omega
      have i2 : (j : Int) < (n1 : Int) := by omega
      have e1 : decide ((j : Int) < (n1 : Int)) = true := decide_eq_true (by omega)
      have e2 : decide (j < n1) = true := decide_eq_true hlt
      have hu7 := (Nf.Own.row HO.out (fun _ h => h)).form
      obtain ⟨a7, n7, c7, rfl⟩ := hu7
      go_wp2_with fail
      refine C.out.mono ?_
      rintro e w1 ⟨rfl, b1⟩
      have C2 := Lib.hid (hasB_any (Ng.setAt l y) c hc w1)
      have HB2 := Lib.hid (Bs.below_up HB.out b1)
      have HO2 := Lib.hid (HO.out.up b1)
      obtain ⟨sv, hsv⟩ : ∃ sv, Bs.val (Ng.setAt l y) = sv := ⟨_, rfl⟩
      have HSV := Lib.hid hsv
      have hsv2 : ∃ q0 q1 q2 q3, sv = .agg #[q0, q1, q2, q3] := ⟨_, _, _, _, by rw [← hsv]; rfl⟩
      obtain ⟨q0, q1, q2, q3, rfl⟩ := hsv2
      rw [hsv] at C2 ⊢
      clear C b1 hsv hx HSV
      go_wp2_with fail
      refine C2.out.mono ?_
      rintro e w2 ⟨rfl, b2⟩
      have HB3 := Lib.hid (Bs.below_up HB2.out b2)
      have HO3 := Lib.hid (HO2.out.up b2)
      clear C2 b2 HB2 HO2
      cases hs : Ng.setAt l y c
      · rw [hs] at HT
        simp only [Bool.false_eq_true, if_false, List.append_nil] at HT
        clear hs
        go_wp2_with fail
        go_roundw
        case rel => exact ⟨j + 1, by omega, by go_num, by rw [HT.out]; exact HO3, HB3⟩
        case measure => simp [intOf]; omega
      · rw [hs] at HT
        simp only [if_true] at HT
        obtain ⟨k, rfl, hk⟩ := Ng.set_has hs
        obtain ⟨tr, col, vf, vo, vs, ve, rows, HM, h1, h2⟩ := (HMC.out.up HB3.out).tr
        obtain ⟨ao, co, rfl, HON⟩ := HM.ones
        have d1 := HM.c1
        rw [h2] at d1
        have hk' : k < tr.length := by rw [h2]; exact hk
        obtain ⟨x2, rfl, OA⟩ := HON k hk'
        have hgd := (Ng.getD_ones HM.ons k hk').1
        rw [Int.toNat_natCast, hgd] at HT
        have x5 := OA.c5
        generalize tr[k].2.2 = z at *
        generalize Nf.onesL l = n at *
        have i3 : (0 : Int) ≤ (k : Int) := by omega
        have i4 : (k : Int) < (n : Int) := by omega
        have B4 := Bs.below1 w2 (.cells #[.int .i64 (z : Nat)] 3)
        have HO4 := Lib.hid (HO3.out.up B4)
        have HB4 := Lib.hid (Bs.below_up HB3.out B4)
        have hbs : U.heap.size ≤ (w2.alloc (.cells #[.int .i64 (z : Nat)] 3)).heap.size := HB4.out.size
        have HNB := Lib.hid (Ng.new_at w2 _ rfl (.cells #[.int .i64 (z : Nat)] 3))
        obtain ⟨mk, hmk⟩ : ∃ m, (Ng.nums (Ng.beh l c (fo.take j))).length = m := ⟨_, rfl⟩
        have HMK := Lib.hid hmk
        have hml : (Ng.nums (Ng.beh l c (fo.take j))).length ≤ 10000000 := by
          rw [List.length_map]
          have h3 := Ng.beh_len l c (fo.take j)
          rw [List.length_take] at h3
          omega
        clear hs HM HON h1 h2 OA hgd B4 hmk
        go_wp2_with (first | (at_builtin; refine Nf.appendL rfl _ _ rfl U.heap.size _ (Ng.nums (Ng.beh l c (fo.take j))) rfl HO4.out w2.heap.size 1 _ rfl HNB.out hml hbs ?_; intro g9 cp9 w9 O9 gr9 l9; rw [HMK.out]; rw [HMK.out] at O9))
        have HB5 := Lib.hid (HB4.out.grown gr9 hbs (fun i hi => (World.ownsRow.lt HO4.out i hi).1))
        have HO5 : Hid (Nf.Own U.heap.size (.slice (some ⟨g9, 0, none⟩) (mk + 1) cp9) (Ng.nums (Ng.beh l c (fo.take (j + 1)))) w9) := Lib.hid (by rw [HT.out, Ng.nums_snoc]; exact O9)
        clear O9 gr9 l9
        go_roundw
        case rel => exact ⟨j + 1, by omega, by go_num, HO5, HB5⟩
        case measure => simp [intOf]; omega
    · have ht : fo.take j = fo := List.take_of_length_le (by rw [← HN1.out]; omega)
      rw [ht] at HO
      have hv := Nf.Own.row (B := fun _ => True) HO.out (fun _ _ => trivial)
      obtain ⟨a7, n7, c7, rfl⟩ := hv.form
      obtain ⟨tr, HA, _⟩ := (HMC.out.up HB.out).is
      have S := HS.out
      have hus := HUS.out
      have hbsz := HB.out.size
      have C := Lib.hid (front_any wr base r (Ng.mk l) tr (Ng.ss l) (Ng.es l) HA HF.out (Ng.beh l c fo) _ hv (fun q hq => by
        obtain ⟨k, _, _, h, rfl⟩ := (Ng.mem_beh l HWF.out c fo q).1 hq
        exact (S.one _ (List.getElem_mem h)).2) (by have h3 := Ng.beh_len l c fo; rw [← HN1.out] at h3; omega) (fun j => U.heap.size ≤ j ∧ B j) (fun j hj => ⟨by omega, HBK.out j (by omega)⟩))
      have HSO := Lib.hid (show ∀ p, (∃ h : p < (Ng.mk l).ones.length, ∃ q ∈ Ng.beh l c fo, Nf.Clo (Ng.mk l).E q (Ng.mk l).ones[p].1) ↔ ∃ k : Nat, (k : Int) ∈ fo ∧ Nf.onL l k c ∧ Nf.folA l k p from fun p => by
        constructor
        · rintro ⟨h, q, hq, hcl⟩
          obtain ⟨k, hk1, hk2, hk3, rfl⟩ := (Ng.mem_beh l HWF.out c fo q).1 hq
          exact ⟨k, hk1, hk2, (S.ao k hk3 p).1 ⟨h, hcl⟩⟩
        · rintro ⟨k, hk1, hk2, hk3⟩
          have hk : k < (Ng.mk l).ones.length := by rw [S.num]; exact (Nf.folA_lt _ _ _ hk3).1
          obtain ⟨h, hcl⟩ := (S.ao k hk p).2 hk3
          exact ⟨h, _, (Ng.mem_beh l HWF.out c fo _).2 ⟨k, hk1, hk2, hk, rfl⟩, hcl⟩)
      have HSR := Lib.hid (show ∀ p, (∃ h : p < (Ng.es l).length, ∃ q ∈ Ng.beh l c fo, Nf.Clo (Ng.mk l).E q (Ng.es l)[p]) ↔ ∃ k : Nat, (k : Int) ∈ fo ∧ Nf.onL l k c ∧ Nf.rlst l p k from fun p => by
        constructor
        · rintro ⟨h, q, hq, hcl⟩
          obtain ⟨k, hk1, hk2, hk3, rfl⟩ := (Ng.mem_beh l HWF.out c fo q).1 hq
          exact ⟨k, hk1, hk2, (S.ar k hk3 p).1 ⟨h, hcl⟩⟩
        · rintro ⟨k, hk1, hk2, hk3⟩
          have hk : k < (Ng.mk l).ones.length := by rw [S.num]; exact (Ng.rlst_lt _ _ _ hk3).2
          obtain ⟨h, hcl⟩ := (S.ar k hk p).2 hk3
          exact ⟨h, _, (Ng.mem_beh l HWF.out c fo _).2 ⟨k, hk1, hk2, hk, rfl⟩, hcl⟩)
      have e1 : decide ((j : Int) < (n1 : Int)) = false := decide_eq_false (by omega)
      have e2 : decide (j < n1) = false := decide_eq_false hlt
      clear ht hv S hus hbsz
      go_wp2_with fail
      refine C.out.mono ?_
      rintro e w3 ⟨os, rs, ⟨v1, v2, rfl, R1, R2, b1⟩, h4, h5⟩
      obtain ⟨a3, n3, c3, rfl⟩ := R1.form
      obtain ⟨a4, n4, c4, rfl⟩ := R2.form
      have b2 := Bs.below_up HB.out b1
      have X2 := HX1.out.up b2
      have y0 := X2.c0; have y1 := X2.c1; have z0 := X2.z0; have z1 := X2.z1
      have HFP : Hid (Ng.FP U (fun k => U.heap.size ≤ k ∧ B k) (fun p => ∃ k : Nat, (k : Int) ∈ fo ∧ Nf.onL l k c ∧ Nf.folA l k p) (fun q => ∃ k : Nat, (k : Int) ∈ fo ∧ Nf.onL l k c ∧ Nf.rlst l q k) (.returned (.agg #[.slice a3 n3 c3, .slice a4 n4 c4])) w3) := Lib.hid ⟨os, rs, ⟨_, _, rfl, R1, R2, b2⟩, h4.congr HSO.out, h5.congr HSR.out⟩
      clear C R1 R2 b1 h4 h5 X2 b2
      go_wp2_with fail
      refine bodyPost_ret (v := .agg #[.slice a3 n3 c3, .slice a4 n4 c4]) (by simp [results, Try.results52, go_sem, y0, y1]) rfl ?_
      exact Ng.fp_ret (by omega) (by rw [HUS.out]; omega) HB1.out HFP.out
open Go.RowKit
def Ng.own3 (H b k : Nat) : Prop := H < k ∧ k ≠ b
structure Ng.RW (w : World) (H b : Nat) (v1 v2 : Value) (os rs : List Int) (u : World) : Prop where
  bel : Below w.heap.size w u
  res : Nf.FB u H (.slice none 0 0) (.slice none 0 0)
  f : Nf.FB u b v1 v2
  r1 : Nf.Row u (fun k => Ng.own3 H b k) v1 os
  r2 : Nf.Row u (fun k => Ng.own3 H b k) v2 rs
  hH : w.heap.size ≤ H
  hb : H < b
theorem Ng.RW.up {w : World} {H b : Nat} {v1 v2 : Value} {os rs : List Int} {u u' : World} (h : Ng.RW w H b v1 v2 os rs u) (hb : Below u.heap.size u u') : Ng.RW w H b v1 v2 os rs u' :=
  ⟨Bs.below_up h.bel hb, h.res.up hb, h.f.up hb, h.r1.up hb, h.r2.up hb, h.hH, h.hb⟩
theorem Ng.RW.put {w : World} {H b : Nat} {v1 v2 : Value} {os rs : List Int} {u : World} (h : Ng.RW w H b v1 v2 os rs u) {v3 v4 : Value} {os' rs' : List Int} (h3 : Nf.Row u (fun k => Ng.own3 H b k) v3 os') (h4 : Nf.Row u (fun k => Ng.own3 H b k) v4 rs') : Ng.RW w H b v3 v4 os' rs' ((u.setCell ⟨b, 0, none⟩ v3).setCell ⟨b, 1, none⟩ v4) :=
  have hn : ¬ Ng.own3 H b b := fun e => e.2 rfl
  have hw : w.heap.size ≤ b := by have := h.hH; have := h.hb; omega
  ⟨(h.bel.setCell (p := ⟨b, 0, none⟩) hw _).setCell (p := ⟨b, 1, none⟩) hw _, (h.res.far (by have := h.hb; omega) _).far (by have := h.hb; omega) _, (h.f.set0 v3).set1 v4, (h3.set hn _).set hn _, (h4.set hn _).set hn _, h.hH, h.hb⟩
end Go.Proofs.Ythapedadnbkgnaa
namespace Go.Proofs.Ythapedadnbkgnaa
set_option linter.unusedVariables false
set_option linter.unusedSimpArgs false
open Go.RowKit
open Go.Maps (Keyed)
theorem Bs.arr_one (g : Nat → Nat) : (Bs.arr g).all (·.oneCell') = true := by
  unfold Bs.arr
  rw [Array.all_eq_true_iff_forall_mem]
  intro v hv
  obtain ⟨i, _, rfl⟩ := Array.mem_ofFn.1 hv
  rfl
theorem Bs.below_row {w wr : World} (h : Below w.heap.size w wr) (cs : Array Value) : Below w.heap.size w (wr.setRow w.heap.size cs) :=
  ⟨by rw [setRow_os]; exact h.os, by rw [setRow_tape]; exact h.tape, by rw [setRow_output]; exact h.output, by rw [setRow_size]; exact h.size, fun k hk => by rw [setRow_other _ _ _ _ (Nat.ne_of_lt hk)]; exact h.block k hk⟩
theorem Bs.zeroByte (w : World) : (zeroValue 5).run Try.prog w = .ok (.int .u8 0) w := by kernel_rfl
theorem Bs.own_up {w w1 : World} {b n : Nat} {D : DataW Unit} {R : Value → Option (DataW Unit × List MemPlace)} (h : w.ownsMap Try.prog 25 R b n D) (hb : Below w.heap.size w w1) : w1.ownsMap Try.prog 25 R b n D := by
  have hl := h.lt
  obtain ⟨es, clock, e, r⟩ := h
  exact ⟨es, clock, by rw [hb.block b hl]; exact e, r⟩
theorem Bs.Arr.grown {w w1 : World} {b d : Nat} {g : Nat → Nat} (h : Bs.Arr w b g) (hg : w.grownBy w1 (some d)) (hn : b ≠ d) : Bs.Arr w1 b g := by
  unfold Bs.Arr; rw [hg.block b h.lt (by simpa using hn)]; exact h
def Bs.part (fs : List (Nat → Bool)) (c : Nat) : Nat → Nat := fun d => if d < c then Bs.kls fs d else 0
theorem Bs.part_succ (fs : List (Nat → Bool)) (c : Nat) : Bs.part fs (c + 1) = fun d => if d = c then Bs.kls fs c else Bs.part fs c d := by
  funext d
  unfold Bs.part
  by_cases h : d = c
  · subst h; simp
  · have : (d < c + 1) = (d < c) := propext (by omega)
    simp [this, h]
structure Bs.CInv (w : World) (fs : List (Nat → Bool)) (c : Nat) (wr : World) : Prop where
  map : ∃ D : DataW Unit, wr.ownsMap Try.prog 25 (plainElem Try.prog 5) (w.heap.size + 2) c D ∧ Bs.MInv fs c D
  arr : Bs.Arr wr (w.heap.size + 1) (Bs.part fs c)
  res : Bs.Arr wr w.heap.size (fun _ => 0)
  bel : Below w.heap.size w wr
theorem Bs.CInv.up {w wr wx : World} {fs : List (Nat → Bool)} {c : Nat} (h : Bs.CInv w fs c wr) (hb : Below wr.heap.size wr wx) : Bs.CInv w fs c wx := by
  obtain ⟨⟨D, h1, h2⟩, h3, h4, h5⟩ := h
  exact ⟨⟨D, Bs.own_up h1 hb, h2⟩, h3.up hb, h4.up hb, Bs.below_up h5 hb⟩
theorem Bs.cinv_zero (w : World) (fs : List (Nat → Bool)) : Bs.CInv w fs 0 (((w.alloc (.cells Bs.zeros 36)).alloc (.cells Bs.zeros 36)).alloc (.map #[] 0)) := by
  have e1 : (w.alloc (.cells Bs.zeros 36)).heap.size = w.heap.size + 1 := by simp [go_sem]
  have e2 : ((w.alloc (.cells Bs.zeros 36)).alloc (.cells Bs.zeros 36)).heap.size = w.heap.size + 2 := by simp [go_sem]
  refine ⟨⟨.map [], ?_, Bs.minv_zero fs⟩, ?_, ?_, Bs.below3 _ _ _ _⟩
  · rw [← e2]; exact World.ownsMap_made _ _ _ _
  · have h : Bs.Arr ((w.alloc (.cells Bs.zeros 36)).alloc (.cells Bs.zeros 36)) (w.heap.size + 1) (Bs.part fs 0) := by
      rw [← e1]; exact heap_alloc_last _ _
    exact h.up (Bs.below1 _ _)
  · have h : Bs.Arr (w.alloc (.cells Bs.zeros 36)) w.heap.size (fun _ => 0) := heap_alloc_last _ _
    exact (h.up (Bs.below1 _ _)).up (Bs.below1 _ _)
theorem Bs.wf_u8 {n : Nat} (h : n < 256) : (Lit.int .u8 (n : Int)).wf = true := by
  simp [Lit.wf, IntKind.min, IntKind.max, IntKind.signed, IntKind.bits]; omega
set_option maxRecDepth 100000 in
set_option maxHeartbeats 2000000 in
theorem classes_any (a : Option Addr) (fs : List (Nat → Bool)) (cap : Nat) (w : World) (hR : Bs.Row w a fs) (hn : fs.length ≤ 1000000) :
    Calls Try.prog 49 #[.slice a fs.length cap] w fun e w' => e = .returned (.tuple #[.agg (Bs.arr (Bs.kls fs)), .int .i64 (Bs.ncl fs 256)]) ∧ Below w.heap.size w w' := by
  have HR := Lib.hid hR; clear hR
  have zz := Bs.zero256.1
  have hmm := @run_makeMap Try.prog
  have C0 := Bs.cinv_zero w fs
  go_enter Try.func49, Try.ntmps49
  go_wp2_with fail
  clear zz hmm
  have m1 : w.heap.size ≠ w.heap.size + 1 := by omega
  generalize ((w.alloc (.cells Bs.zeros 36)).alloc (.cells Bs.zeros 36)).alloc (.map #[] 0) = W at *
  go_loopw [11] (fun i wr => ∃ c : Nat, c ≤ 256 ∧ i = .int .i64 c ∧ Bs.CInv w fs c wr) (fun i _ => 256 - (intOf i).toNat)
  case atStart => exact ⟨0, by omega, rfl, C0⟩
  case round =>
    clear C0
    obtain ⟨c, hc, rfl, C⟩ := hrel
    by_cases hlt : c < 256
    · have hd : decide ((c : Int) < 256) = true := decide_eq_true (by omega)
      go_wp2_with fail
      refine (like_any a fs cap c _ hlt (HR.out.up C.bel) hn).mono ?_
      rintro e v ⟨rfl, hb⟩
      unfold Bs.val
      obtain ⟨V, hV⟩ : ∃ V, V = v.alloc (.cells #[.int .u64 ↑(Bs.word (fun d => Bs.alike fs c d) 0), .int .u64 ↑(Bs.word (fun d => Bs.alike fs c d) 1), .int .u64 ↑(Bs.word (fun d => Bs.alike fs c d) 2), .int .u64 ↑(Bs.word (fun d => Bs.alike fs c d) 3)] 25) := ⟨_, rfl⟩
      have Y := Bs.box_new v (fun d => Bs.alike fs c d) 25
      replace C := (C.up hb).up (Bs.below1 v (.cells #[.int .u64 ↑(Bs.word (fun d => Bs.alike fs c d) 0), .int .u64 ↑(Bs.word (fun d => Bs.alike fs c d) 1), .int .u64 ↑(Bs.word (fun d => Bs.alike fs c d) 2), .int .u64 ↑(Bs.word (fun d => Bs.alike fs c d) 3)] 25))
      rw [← hV] at Y C
      have HV := Lib.hid hV; clear hV hb
      obtain ⟨⟨D, hown, hM⟩, hA, hZ, hB⟩ := C
      go_upto_region 7 with (fail)
      rw [← HV.out]
      have y0 := Y.cell 0 (by decide); have y1 := Y.cell 1 (by decide); have y2 := Y.cell 2 (by decide); have y3 := Y.cell 3 (by decide)
      have c0 := hA.cell c hlt
      have f0 := hA.frz c
      rcases Bool.eq_false_or_eq_true (Maps.has D (Bs.kk fs c)) with hh | hh
      · obtain ⟨hM', hat'⟩ := hM.old hlt hh
        have HAT := Lib.hid hat'; clear hat'
        go_wp2_with (at_lookup; refine wpList_lookup_own_ok_int _ rfl _ _ 135 rfl 25 5 .u8 Bs.keyed Try.underlying135 Try.underlying5 (Bs.zeroByte _) (w.heap.size + 2) c D rfl hown _ (Bs.kk fs c) rfl (Bs.keyOf_val _) ?_; intro x hat hwx; have HX := Lib.hid hat; clear hat hwx)
        go_roundw
        case rel =>
          have hx : x = (Bs.kls fs c : Int) := by
            have h1 := HX.out
            rw [HAT.out] at h1
            simpa using h1.symm
          rw [hx]
          refine ⟨c + 1, by omega, by go_num, ⟨D, (hown.setCell (by simp) _).mono (by omega), hM'⟩, ?_, hZ.far (Ne.symm m1) _, hB.setCell (by simp) _⟩
          rw [Bs.part_succ]
          exact hA.put c _ hlt
        case measure => simp [intOf]; omega
      · obtain ⟨hM', hk⟩ := hM.new (hown.tidy Bs.keyed) hlt hh
        have HK := Lib.hid hk; clear hk
        have hsz := hM.size
        have hle := Bs.ncl_le fs c
        have hval := plainElem_int (H := Unit) Try.underlying5 (Bs.wf_u8 (n := Bs.ncl fs c) (by omega))
        have HVAL := Lib.hid hval; clear hval
        have hcm : c < maxLen := by unfold maxLen; omega
        go_wp2_with (first
          | (at_lookup; refine wpList_lookup_own_ok_int _ rfl _ _ 135 rfl 25 5 .u8 Bs.keyed Try.underlying135 Try.underlying5 (Bs.zeroByte _) (w.heap.size + 2) c D rfl hown _ (Bs.kk fs c) rfl (Bs.keyOf_val _) ?_; intro x hat hwx; clear hat hwx)
          | (at_len; refine wpList_len_own _ rfl _ 135 rfl 25 5 Try.underlying135 _ (w.heap.size + 2) c D rfl hown ?_)
          | (at_mapUpdate; refine wpList_mapUpdate_own _ rfl _ _ _ 135 rfl 25 5 Bs.keyed Try.underlying135 _ (w.heap.size + 2) c D rfl hown hcm _ _ (Bs.kk fs c) rfl rfl (Bs.keyOf_val _) (.lit (.int .u8 (Bs.ncl fs c : Nat))) [] HVAL.out ?_; intro w1 hown1 hgrow1; have hA1 := hA.grown hgrow1 (by omega); have hZ1 := hZ.grown hgrow1 (by omega); have c1 := hA1.cell c hlt; have f1 := hA1.frz c))
        go_roundw
        case rel =>
          refine ⟨c + 1, by omega, by go_num, ⟨_, hown1.setCell (by simp) _, hM'⟩, ?_, hZ1.far (Ne.symm m1) _, (hB.grown hgrow1 hB.size (by simp)).setCell (by simp) _⟩
          rw [Bs.part_succ, HK.out]
          exact hA1.put c _ hlt
        case measure => simp [intOf]; omega
    · obtain rfl : c = 256 := by omega
      clear hc hlt
      obtain ⟨⟨D, hown, hM⟩, hA, hZ, hB⟩ := C
      have e1 : Bs.arr (Bs.part fs 256) = Bs.arr (Bs.kls fs) := Bs.arr_congr fun d hd => by simp [Bs.part, hd]
      unfold Bs.Arr at hA
      rw [e1] at hA
      clear e1
      have hsz := hM.size
      go_wp2_with (first
        | (at_len; refine wpList_len_own _ rfl _ 135 rfl 25 5 Try.underlying135 _ (w.heap.size + 2) 256 D rfl hown ?_)
        | (refine wpList_load_row rfl 36 _ rfl (w.heap.size + 1) rfl 36 (Bs.arr (Bs.kls fs)) (0, 0) _ hA Try.underlying36 rfl (by rw [Bs.arr_size]; exact Bs.zero256.2) ?_)
        | (refine wpList_store_row rfl 36 _ _ rfl w.heap.size (Bs.arr (Bs.kls fs)) rfl rfl 36 (Bs.arr fun _ => 0) hZ (by rw [Bs.arr_size]; exact Bs.zero256.2) (by rw [Bs.arr_size, Bs.arr_size]) (Bs.arr_one _) ?_))
      have hld := run_loadVar_row (P := Try.prog) (wr.setRow w.heap.size (Bs.arr (Bs.kls fs))) w.heap.size 36 36 _ (0, 0) _ (setRow_heap _ _ _ _ _ _ hZ) Try.underlying36 rfl (by rw [Bs.arr_size]; exact Bs.zero256.2)
      refine bodyPost_ret (v := .tuple #[.agg (Bs.arr (Bs.kls fs)), .int .i64 (Bs.ncl fs 256)]) ?_ rfl ⟨rfl, Bs.below_row hB _⟩
      rw [results_cell_tmp (p := 2) (u := 3) (ty := 36) rfl]
      simp [asAddr, Result.andThen, hld]
end Go.Proofs.Ythapedadnbkgnaa
