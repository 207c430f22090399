/- Regular expressions: plain facts: the document's tables of ways say what the expression matches. -/
import Derived.Test.YtndenipjiclkaaaRxM
namespace Go.Proofs.Ytndenipjiclkaaa
set_option linter.unusedVariables false
set_option linter.unusedSimpArgs false
/-- no step -/
def Rx.idm (i k : Nat) : Bool := i == k
/-- none -/
def Rx.non (_ _ : Nat) : Bool := false
/-- a way by one table, then by another -/
def Rx.catS (m y : Nat → Nat → Bool) (i k : Nat) : Bool := decide (i ≤ k) && (List.range (k + 1)).any fun j => decide (i ≤ j) && (m i j && y j k)
/-- a way by one table or another -/
def Rx.altS (m y : Nat → Nat → Bool) (i k : Nat) : Bool := decide (i ≤ k) && (m i k || y i k)
mutual
/-- the document's table of an expression's ways -/
def Rx.sp (s : Nat → Nat) (n : Nat) : Rx → Nat → Nat → Bool
  | .node 0 _ l => Rx.spA s n l Rx.idm
  | .node 1 f _ => fun i k => decide (i < n) && (k == i + 1 && f (s i))
  | .node 2 _ l => Rx.spC s n l Rx.idm
  | .node 3 _ l => Rx.spA s n l Rx.non
  | .node (_ + 4) _ l => Rx.war (Rx.spA s n l Rx.idm) (n + 1)
def Rx.spC (s : Nat → Nat) (n : Nat) : List Rx → (Nat → Nat → Bool) → Nat → Nat → Bool
  | [], m => m
  | x :: r, m => Rx.spC s n r (Rx.catS m (Rx.sp s n x))
def Rx.spA (s : Nat → Nat) (n : Nat) : List Rx → (Nat → Nat → Bool) → Nat → Nat → Bool
  | [], m => m
  | x :: r, m => Rx.spA s n r (Rx.altS m (Rx.sp s n x))
end
/-- a table's ways go up, and stay inside of n -/
def Rx.Upw (n : Nat) (m : Nat → Nat → Bool) : Prop := ∀ i k, i ≤ n → m i k = true → i ≤ k ∧ k ≤ n
theorem Rx.catS_iff {n : Nat} {m y : Nat → Nat → Bool} (hm : Rx.Upw n m) (hy : Rx.Upw n y) {i k : Nat} (hi : i ≤ n) : Rx.catS m y i k = true ↔ ∃ j, m i j = true ∧ y j k = true := by
  simp only [Rx.catS, Bool.and_eq_true, decide_eq_true_eq, List.any_eq_true, List.mem_range]
  constructor
  · rintro ⟨_, j, _, _, h1, h2⟩; exact ⟨j, h1, h2⟩
  · rintro ⟨j, h1, h2⟩
    have h3 := hm _ _ hi h1
    have h4 := hy _ _ h3.2 h2
    exact ⟨by omega, j, by omega, by omega, h1, h2⟩
theorem Rx.altS_iff {n : Nat} {m y : Nat → Nat → Bool} (hm : Rx.Upw n m) (hy : Rx.Upw n y) {i k : Nat} (hi : i ≤ n) : Rx.altS m y i k = true ↔ m i k = true ∨ y i k = true := by
  simp only [Rx.altS, Bool.and_eq_true, decide_eq_true_eq, Bool.or_eq_true]
  constructor
  · exact fun h => h.2
  · intro h
    refine ⟨?_, h⟩
    rcases h with h | h
    · exact (hm _ _ hi h).1
    · exact (hy _ _ hi h).1
theorem Rx.upw_cat {n : Nat} {m y : Nat → Nat → Bool} (hm : Rx.Upw n m) (hy : Rx.Upw n y) : Rx.Upw n (Rx.catS m y) := by
  intro i k hi h
  obtain ⟨j, h1, h2⟩ := (Rx.catS_iff hm hy hi).1 h
  have h3 := hm _ _ hi h1
  have h4 := hy _ _ h3.2 h2
  exact ⟨by omega, h4.2⟩
theorem Rx.upw_alt {n : Nat} {m y : Nat → Nat → Bool} (hm : Rx.Upw n m) (hy : Rx.Upw n y) : Rx.Upw n (Rx.altS m y) := by
  intro i k hi h
  rcases (Rx.altS_iff hm hy hi).1 h with h | h
  · exact hm _ _ hi h
  · exact hy _ _ hi h
theorem Rx.upw_idm (n : Nat) : Rx.Upw n Rx.idm := by
  intro i k hi h; simp only [Rx.idm, beq_iff_eq] at h; omega
theorem Rx.upw_non (n : Nat) : Rx.Upw n Rx.non := by
  intro i k hi h; simp [Rx.non] at h
theorem Rx.clo_in {n : Nat} {R S : Nat → Nat → Prop} (h : ∀ i k, i ≤ n → R i k → k ≤ n ∧ Rx.Clo S i k) {i k : Nat} (hc : Rx.Clo R i k) : i ≤ n → Rx.Clo S i k := by
  induction hc with
  | refl => exact fun _ => .refl _
  | step r _ ih => intro hi; have := h _ _ hi r; exact this.2.trans (ih this.1)
mutual
/-- the table's ways are the expression's -/
theorem Rx.sp_iff (s : Nat → Nat) (n : Nat) : ∀ (x : Rx), x.wf = true → ∀ (i k : Nat), i ≤ n → (Rx.sp s n x i k = true ↔ Rx.Go s n x i k)
  | .node 0 f l, hw, i, k, hi => by
    have hl : l = [] := by
      simp only [Rx.wf, Bool.and_eq_true, Bool.not_eq_true', Bool.and_eq_false_imp, decide_eq_true_eq, decide_eq_false_iff_not, Nat.not_lt] at hw
      exact List.length_eq_zero_iff.1 (by have := hw.1.1.2 (by omega); omega)
    subst hl
    simp [Rx.sp, Rx.spA, Rx.Go, Rx.idm]
  | .node 1 f _, _, i, k, hi => by simp [Rx.sp, Rx.Go]
  | .node 2 f l, hw, i, k, hi => by
    have hl : Rx.wfL l = true := by simp only [Rx.wf, Bool.and_eq_true] at hw; exact hw.2
    simp only [Rx.sp, Rx.Go]
    rw [Rx.spC_iff s n l hl Rx.idm (Rx.upw_idm n) i k hi]
    constructor
    · rintro ⟨j, h1, h2⟩; simp only [Rx.idm, beq_iff_eq] at h1; rw [h1]; exact h2
    · exact fun h => ⟨i, by simp [Rx.idm], h⟩
  | .node 3 f l, hw, i, k, hi => by
    have hl : Rx.wfL l = true := by simp only [Rx.wf, Bool.and_eq_true] at hw; exact hw.2
    simp only [Rx.sp, Rx.Go]
    rw [Rx.spA_iff s n l hl Rx.non (Rx.upw_non n) i k hi]
    simp [Rx.non]
  | .node (q + 4) f l, hw, i, k, hi => by
    have hl : Rx.wfL l = true := by simp only [Rx.wf, Bool.and_eq_true] at hw; exact hw.2
    have ha := Rx.spA_iff s n l hl Rx.idm (Rx.upw_idm n)
    simp only [Rx.sp, Rx.Go]
    rw [Rx.war_iff (Rx.spA s n l Rx.idm) (n + 1) (fun i hi => (ha i i (by omega)).2 (.inl (by simp [Rx.idm]))) ?_ i k (by omega)]
    · constructor
      · intro h
        refine Rx.clo_in (n := n) ?_ h hi
        intro i k hi h
        rcases (ha i k hi).1 h with h | h
        · simp only [Rx.idm, beq_iff_eq] at h; subst h; exact ⟨hi, .refl _⟩
        · exact ⟨(Rx.goA_up s n l i k h).2 hi, .one h⟩
      · intro h
        refine Rx.clo_in (n := n) ?_ h hi
        intro i k hi h
        exact ⟨(Rx.goA_up s n l i k h).2 hi, .one ((ha i k hi).2 (.inr h))⟩
    · intro i k hi h
      rcases (ha i k (by omega)).1 h with h | h
      · simp only [Rx.idm, beq_iff_eq] at h; omega
      · have := (Rx.goA_up s n l i k h).2 (by omega); omega
theorem Rx.spC_iff (s : Nat → Nat) (n : Nat) : ∀ (l : List Rx), Rx.wfL l = true → ∀ (m : Nat → Nat → Bool), Rx.Upw n m → ∀ (i k : Nat), i ≤ n → (Rx.spC s n l m i k = true ↔ ∃ j, m i j = true ∧ Rx.GoC s n l j k)
  | [], _, m, hm, i, k, hi => by simp [Rx.spC, Rx.GoC]
  | x :: r, hw, m, hm, i, k, hi => by
    simp only [Rx.wfL, Bool.and_eq_true] at hw
    have hx := Rx.sp_iff s n x hw.1
    have hy : Rx.Upw n (Rx.sp s n x) := fun i k hi h => by
      have := Rx.go_up s n x i k ((hx i k hi).1 h); exact ⟨this.1, this.2 hi⟩
    simp only [Rx.spC, Rx.GoC]
    rw [Rx.spC_iff s n r hw.2 _ (Rx.upw_cat hm hy) i k hi]
    constructor
    · rintro ⟨j, h1, h2⟩
      obtain ⟨a, h3, h4⟩ := (Rx.catS_iff hm hy hi).1 h1
      exact ⟨a, h3, j, (hx a j (hm _ _ hi h3).2).1 h4, h2⟩
    · rintro ⟨a, h3, j, h4, h2⟩
      exact ⟨j, (Rx.catS_iff hm hy hi).2 ⟨a, h3, (hx a j (hm _ _ hi h3).2).2 h4⟩, h2⟩
theorem Rx.spA_iff (s : Nat → Nat) (n : Nat) : ∀ (l : List Rx), Rx.wfL l = true → ∀ (m : Nat → Nat → Bool), Rx.Upw n m → ∀ (i k : Nat), i ≤ n → (Rx.spA s n l m i k = true ↔ m i k = true ∨ Rx.GoA s n l i k)
  | [], _, m, hm, i, k, hi => by simp [Rx.spA, Rx.GoA]
  | x :: r, hw, m, hm, i, k, hi => by
    simp only [Rx.wfL, Bool.and_eq_true] at hw
    have hx := Rx.sp_iff s n x hw.1
    have hy : Rx.Upw n (Rx.sp s n x) := fun i k hi h => by
      have := Rx.go_up s n x i k ((hx i k hi).1 h); exact ⟨this.1, this.2 hi⟩
    simp only [Rx.spA, Rx.GoA]
    rw [Rx.spA_iff s n r hw.2 _ (Rx.upw_alt hm hy) i k hi, Rx.altS_iff hm hy hi, hx i k hi, or_assoc]
end
end Go.Proofs.Ytndenipjiclkaaa
