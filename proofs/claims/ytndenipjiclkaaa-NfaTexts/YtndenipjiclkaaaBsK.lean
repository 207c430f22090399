/- The classes of some sets: plain facts. -/
import Derived.Test.YtndenipjiclkaaaBsB
namespace Go.Proofs.Ytndenipjiclkaaa
set_option linter.unusedVariables false
set_option linter.unusedSimpArgs false
/-- each set has both bytes or neither -/
def Bs.alike (fs : List (Nat → Bool)) (c d : Nat) : Bool := fs.all fun f => f c == f d
theorem Bs.alike_iff {fs : List (Nat → Bool)} {c d : Nat} : Bs.alike fs c d = true ↔ ∀ f ∈ fs, f c = f d := by simp [Bs.alike]
theorem Bs.alike_refl (fs : List (Nat → Bool)) (c : Nat) : Bs.alike fs c c = true := Bs.alike_iff.2 fun _ _ => rfl
theorem Bs.alike_symm {fs : List (Nat → Bool)} {c d : Nat} (h : Bs.alike fs c d = true) : Bs.alike fs d c = true := Bs.alike_iff.2 fun f hf => (Bs.alike_iff.1 h f hf).symm
theorem Bs.alike_trans {fs : List (Nat → Bool)} {c d e : Nat} (h : Bs.alike fs c d = true) (h' : Bs.alike fs d e = true) : Bs.alike fs c e = true := Bs.alike_iff.2 fun f hf => (Bs.alike_iff.1 h f hf).trans (Bs.alike_iff.1 h' f hf)
/-- no byte below is alike -/
def Bs.first (fs : List (Nat → Bool)) (c : Nat) : Bool := (List.range c).all fun d => !Bs.alike fs c d
theorem Bs.first_iff {fs : List (Nat → Bool)} {c : Nat} : Bs.first fs c = true ↔ ∀ d, d < c → Bs.alike fs c d = false := by simp [Bs.first]
/-- how many classes the bytes below n have -/
def Bs.ncl (fs : List (Nat → Bool)) (n : Nat) : Nat := Bs.cnt (Bs.first fs) n
/-- the least byte that is alike -/
def Bs.low (fs : List (Nat → Bool)) (c : Nat) : Nat := ((List.range c).find? fun d => Bs.alike fs c d).getD c
theorem Bs.find_range (p : Nat → Bool) : ∀ n, (∃ k, (List.range n).find? p = some k ∧ k < n ∧ p k = true ∧ ∀ j, j < k → p j = false) ∨ ((List.range n).find? p = none ∧ ∀ j, j < n → p j = false)
  | 0 => .inr ⟨rfl, fun j hj => by omega⟩
  | n + 1 => by
    rw [List.range_succ, List.find?_append]
    rcases Bs.find_range p n with ⟨k, e, h1, h2, h3⟩ | ⟨e, h⟩
    · exact .inl ⟨k, by simp [e], by omega, h2, h3⟩
    · rw [e]
      cases hp : p n
      · refine .inr ⟨by simp [hp], fun j hj => ?_⟩
        by_cases hj' : j = n
        · rw [hj']; exact hp
        · exact h j (by omega)
      · exact .inl ⟨n, by simp [hp], by omega, hp, h⟩
theorem Bs.low_spec (fs : List (Nat → Bool)) (c : Nat) : Bs.low fs c ≤ c ∧ Bs.alike fs c (Bs.low fs c) = true ∧ ∀ d, d < Bs.low fs c → Bs.alike fs c d = false := by
  unfold Bs.low
  rcases Bs.find_range (fun d => Bs.alike fs c d) c with ⟨k, e, h1, h2, h3⟩ | ⟨e, h⟩
  · rw [e]; exact ⟨by simp; omega, h2, h3⟩
  · rw [e]; exact ⟨Nat.le_refl _, Bs.alike_refl _ _, h⟩
theorem Bs.low_first (fs : List (Nat → Bool)) (c : Nat) : Bs.first fs (Bs.low fs c) = true := by
  obtain ⟨_, h1, h2⟩ := Bs.low_spec fs c
  refine Bs.first_iff.2 fun d hd => ?_
  cases ha : Bs.alike fs (Bs.low fs c) d
  · rfl
  · rw [← h2 d hd]; exact (Bs.alike_trans h1 ha).symm ▸ rfl
theorem Bs.low_eq {fs : List (Nat → Bool)} {c d : Nat} (h : Bs.alike fs c d = true) : Bs.low fs c = Bs.low fs d := by
  obtain ⟨_, a1, a2⟩ := Bs.low_spec fs c
  obtain ⟨_, b1, b2⟩ := Bs.low_spec fs d
  rcases Nat.lt_trichotomy (Bs.low fs c) (Bs.low fs d) with hl | hl | hl
  · have := b2 _ hl; rw [Bs.alike_trans (Bs.alike_symm h) a1] at this; cases this
  · exact hl
  · have := a2 _ hl; rw [Bs.alike_trans h b1] at this; cases this
theorem Bs.ncl_mono (fs : List (Nat → Bool)) {a b : Nat} (h : a ≤ b) : Bs.ncl fs a ≤ Bs.ncl fs b := by
  obtain ⟨n, rfl⟩ := Nat.exists_eq_add_of_le h
  unfold Bs.ncl
  rw [Bs.cnt_add]; omega
theorem Bs.ncl_step {fs : List (Nat → Bool)} {a b : Nat} (h : a < b) (ha : Bs.first fs a = true) : Bs.ncl fs a < Bs.ncl fs b := by
  have h1 := Bs.ncl_mono fs (show a + 1 ≤ b from h)
  have h2 : Bs.ncl fs (a + 1) = Bs.ncl fs a + 1 := by unfold Bs.ncl; rw [Bs.cnt_succ, if_pos ha]
  omega
theorem Bs.ncl_le (fs : List (Nat → Bool)) (n : Nat) : Bs.ncl fs n ≤ n := Bs.cnt_le _ _
/-- a byte's class's number -/
def Bs.kls (fs : List (Nat → Bool)) (c : Nat) : Nat := Bs.ncl fs (Bs.low fs c)
theorem Bs.kls_lt (fs : List (Nat → Bool)) {c n : Nat} (h : c < n) : Bs.kls fs c < Bs.ncl fs n :=
  Bs.ncl_step (Nat.lt_of_le_of_lt (Bs.low_spec fs c).1 h) (Bs.low_first fs c)
theorem Bs.kls_le (fs : List (Nat → Bool)) (c : Nat) : Bs.kls fs c ≤ c := Nat.le_trans (Bs.ncl_le _ _) (Bs.low_spec fs c).1
theorem Bs.kls_iff (fs : List (Nat → Bool)) (c d : Nat) : Bs.kls fs c = Bs.kls fs d ↔ Bs.alike fs c d = true := by
  constructor
  · intro h
    have hl : Bs.low fs c = Bs.low fs d := by
      rcases Nat.lt_trichotomy (Bs.low fs c) (Bs.low fs d) with hl | hl | hl
      · have := Bs.ncl_step hl (Bs.low_first fs c); unfold Bs.kls at h; omega
      · exact hl
      · have := Bs.ncl_step hl (Bs.low_first fs d); unfold Bs.kls at h; omega
    have h1 := (Bs.low_spec fs c).2.1
    have h2 := (Bs.low_spec fs d).2.1
    rw [hl] at h1
    exact Bs.alike_trans h1 (Bs.alike_symm h2)
  · intro h; unfold Bs.kls; rw [Bs.low_eq h]
/-- the first of its class -/
theorem Bs.kls_new {fs : List (Nat → Bool)} {c : Nat} (h : ∀ d, d < c → Bs.alike fs c d = false) : Bs.kls fs c = Bs.ncl fs c ∧ Bs.ncl fs (c + 1) = Bs.ncl fs c + 1 := by
  obtain ⟨h1, h2, _⟩ := Bs.low_spec fs c
  have e : Bs.low fs c = c := by
    rcases Nat.lt_or_ge (Bs.low fs c) c with hl | hl
    · rw [h _ hl] at h2; cases h2
    · omega
  refine ⟨by unfold Bs.kls; rw [e], ?_⟩
  unfold Bs.ncl; rw [Bs.cnt_succ, if_pos (Bs.first_iff.2 h)]
/-- one that is alike to one below -/
theorem Bs.kls_old {fs : List (Nat → Bool)} {c d : Nat} (hd : d < c) (h : Bs.alike fs c d = true) : Bs.kls fs c = Bs.kls fs d ∧ Bs.ncl fs (c + 1) = Bs.ncl fs c := by
  refine ⟨(Bs.kls_iff fs c d).2 h, ?_⟩
  unfold Bs.ncl
  rw [Bs.cnt_succ, if_neg ?_]; · rfl
  intro hf
  have := Bs.first_iff.1 hf d hd
  rw [h] at this; cases this
/-- a class, as a set -/
def Bs.cls (fs : List (Nat → Bool)) (k : Int) : Nat → Bool := fun c => (Bs.kls fs c : Int) == k
end Go.Proofs.Ytndenipjiclkaaa
