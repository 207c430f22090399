/- Lowest bits, and the bytes of a set in order: plain facts. -/
import Derived.Test.YtigdelfoipcilaaBsP
import Derived.Lib.TrailingZeros
namespace Go.Proofs.Ytigdelfoipcilaa
set_option linter.unusedVariables false
set_option linter.unusedSimpArgs false
theorem Bs.mul_bit (k a b j : Nat) (hb : b < 2 ^ k) : (2 ^ k * a + b).testBit j = if j < k then b.testBit j else a.testBit (j - k) := Nat.testBit_two_pow_mul_add a hb j
/-- the lowest bit of a number -/
theorem Bs.low_bit (x : Nat) (h0 : x ≠ 0) (hx : x < 18446744073709551616) : Lib.ctz 64 x < 64 ∧ x.testBit (Lib.ctz 64 x) = true ∧ (∀ j, j < Lib.ctz 64 x → x.testBit j = false) ∧ ∀ j, (x &&& (x - 1)).testBit j = (x.testBit j && decide (j ≠ Lib.ctz 64 x)) := by
  have e : Lib.ctz 64 x = Lib.ctzFrom 64 x := by unfold Lib.ctz; rw [if_neg h0]
  rw [e]
  obtain ⟨m, hm, hk⟩ := Lib.ctzFrom_spec 64 x (by omega) hx
  generalize Lib.ctzFrom 64 x = k at *
  have hp : 0 < 2 ^ k := Nat.two_pow_pos k
  have f1 : x = 2 ^ k * (2 * m + 1) + 0 := hm
  have f2 : x - 1 = 2 ^ k * (2 * m) + (2 ^ k - 1) := by
    have : 2 ^ k * (2 * m + 1) = 2 ^ k * (2 * m) + 2 ^ k := by rw [Nat.mul_add, Nat.mul_one]
    omega
  have b1 : ∀ j, x.testBit j = if j < k then false else (2 * m + 1).testBit (j - k) := fun j => by rw [f1, Bs.mul_bit _ _ _ _ hp]; simp
  have b2 : ∀ j, (x - 1).testBit j = if j < k then true else (2 * m).testBit (j - k) := fun j => by
    rw [f2, Bs.mul_bit _ _ _ _ (by omega)]
    by_cases hj : j < k
    · rw [if_pos hj, if_pos hj, Nat.testBit_two_pow_sub_one]; simp [hj]
    · rw [if_neg hj, if_neg hj]
  refine ⟨hk, ?_, fun j hj => ?_, fun j => ?_⟩
  · rw [b1, if_neg (by omega), Nat.sub_self, Nat.testBit_zero]; simp
  · rw [b1, if_pos hj]
  · rw [Nat.testBit_and, b1, b2]
    by_cases hj : j < k
    · simp [hj]
    · rw [if_neg hj, if_neg hj]
      by_cases hjk : j = k
      · subst hjk; simp
      · obtain ⟨i, hi⟩ : ∃ i, j - k = i + 1 := ⟨j - k - 1, by omega⟩
        rw [hi, Nat.testBit_succ, Nat.testBit_succ, show (2 * m + 1) / 2 = m by omega, show 2 * m / 2 = m by omega]
        simp [hjk]
/-- the bytes of a set below n, rising -/
def Bs.lst (f : Nat → Bool) (n : Nat) : List Nat := (List.range n).filter f
theorem Bs.lst_yes {f : Nat → Bool} {n : Nat} (h : f n = true) : Bs.lst f (n + 1) = Bs.lst f n ++ [n] := by simp [Bs.lst, List.range_succ, List.filter_append, h]
theorem Bs.lst_no {f : Nat → Bool} {n : Nat} (h : f n = false) : Bs.lst f (n + 1) = Bs.lst f n := by simp [Bs.lst, List.range_succ, List.filter_append, h]
theorem Bs.lst_same {f : Nat → Bool} {a : Nat} : ∀ n, (∀ c, a ≤ c → c < a + n → f c = false) → Bs.lst f (a + n) = Bs.lst f a
  | 0, _ => rfl
  | n + 1, h => by rw [← Nat.add_assoc, Bs.lst_no (h (a + n) (by omega) (by omega)), Bs.lst_same n fun c h1 h2 => h c h1 (by omega)]
theorem Bs.lst_len (f : Nat → Bool) (n : Nat) : (Bs.lst f n).length = Bs.cnt f n := Bs.cnt_filter f n
theorem Bs.lst_le (f : Nat → Bool) (n : Nat) : (Bs.lst f n).length ≤ n := by rw [Bs.lst_len]; exact Bs.cnt_le f n
theorem Bs.lst_lt {f : Nat → Bool} {n c : Nat} (h : c ∈ Bs.lst f n) : c < n := by unfold Bs.lst at h; exact List.mem_range.1 (List.mem_filter.1 h).1
theorem Bs.lst_congr {f g : Nat → Bool} (n : Nat) (h : ∀ c, c < n → f c = g c) : Bs.lst f n = Bs.lst g n := List.filter_congr fun c hc => h c (List.mem_range.1 hc)
/-- the first one -/
theorem Bs.lst_first {f : Nat → Bool} {n m : Nat} (h0 : ∀ c, c < n → f c = false) (h1 : f n = true) (hm : n < m) : ∃ r, Bs.lst f m = n :: r := by
  have e : Bs.lst f (n + 1) = [n] := by
    rw [Bs.lst_yes h1]
    have : Bs.lst f n = [] := by
      have := Bs.lst_same (f := f) (a := 0) n fun c _ hc => h0 c (by omega)
      rw [Nat.zero_add] at this
      rw [this]; rfl
    rw [this]; rfl
  obtain ⟨d, rfl⟩ := Nat.exists_eq_add_of_le (show n + 1 ≤ m from hm)
  clear hm
  induction d with
  | zero => exact ⟨[], e⟩
  | succ d ih =>
    obtain ⟨r, ih⟩ := ih
    rw [← Nat.add_assoc]
    cases hf : f (n + 1 + d)
    · rw [Bs.lst_no hf]; exact ⟨r, ih⟩
    · rw [Bs.lst_yes hf, ih]; exact ⟨r ++ [n + 1 + d], rfl⟩
theorem Bs.lst_none {f : Nat → Bool} {m : Nat} (h0 : ∀ c, c < m → f c = false) : Bs.lst f m = [] := by
  have := Bs.lst_same (f := f) (a := 0) m fun c _ hc => h0 c (by omega)
  rw [Nat.zero_add] at this
  rw [this]; rfl
/-- of a word the bits from p on -/
def Bs.rest (f : Nat → Bool) (i p : Nat) : Nat := Bs.num (fun k => f (64 * i + k) && decide (p ≤ k)) 64
theorem Bs.rest_lt (f : Nat → Bool) (i p : Nat) : Bs.rest f i p < 18446744073709551616 := Bs.num_lt _ 64
theorem Bs.rest_bit (f : Nat → Bool) (i p k : Nat) : (Bs.rest f i p).testBit k = (decide (k < 64) && (f (64 * i + k) && decide (p ≤ k))) := Bs.num_bit _ k 64
theorem Bs.rest_zero (f : Nat → Bool) (i : Nat) : Bs.rest f i 0 = Bs.word f i := by unfold Bs.rest Bs.word; simp
/-- nothing is left -/
theorem Bs.rest_none {f : Nat → Bool} {i p : Nat} (h : Bs.rest f i p = 0) (hp : p ≤ 64) : Bs.lst f (64 * (i + 1)) = Bs.lst f (64 * i + p) := by
  rw [show 64 * (i + 1) = (64 * i + p) + (64 - p) by omega]
  refine Bs.lst_same _ fun c h1 h2 => ?_
  have := Bs.rest_bit f i p (c - 64 * i)
  rw [h, Nat.zero_testBit, show 64 * i + (c - 64 * i) = c by omega] at this
  have a1 : c - 64 * i < 64 := by omega
  have a2 : p ≤ c - 64 * i := by omega
  simp only [a1, a2, decide_true, Bool.true_and, Bool.and_true] at this
  exact this.symm
/-- the lowest one that is left is taken out -/
theorem Bs.rest_step {f : Nat → Bool} {i p : Nat} (h : Bs.rest f i p ≠ 0) : ∃ k, Lib.ctz 64 (Bs.rest f i p) = k ∧ p ≤ k ∧ k < 64 ∧ f (64 * i + k) = true ∧ Bs.rest f i p &&& (Bs.rest f i p - 1) = Bs.rest f i (k + 1) ∧ Bs.lst f (64 * i + (k + 1)) = Bs.lst f (64 * i + p) ++ [64 * i + k] := by
  obtain ⟨h1, h2, h3, h4⟩ := Bs.low_bit _ h (Bs.rest_lt f i p)
  generalize hk : Lib.ctz 64 (Bs.rest f i p) = k at *
  rw [Bs.rest_bit] at h2
  simp at h2
  obtain ⟨_, hf, hpk⟩ := h2
  have h3' : ∀ j, p ≤ j → j < k → f (64 * i + j) = false := fun j hj hjk => by
    have := h3 j hjk
    rw [Bs.rest_bit] at this
    have a1 : j < 64 := by omega
    simpa [a1, hj] using this
  refine ⟨k, rfl, hpk, h1, hf, ?_, ?_⟩
  · apply Nat.eq_of_testBit_eq
    intro j
    rw [h4, Bs.rest_bit, Bs.rest_bit]
    by_cases hj : j < 64
    · by_cases hp : p ≤ j
      · by_cases hjk : j < k
        · rw [h3' j hp hjk]; simp
        · by_cases hje : j = k
          · subst hje; simp
          · have : k + 1 ≤ j := by omega
            simp [hj, hp, hje, this]
      · have : ¬ k + 1 ≤ j := by omega
        simp [hp, this]
    · simp [hj]
  · rw [← Nat.add_assoc, Bs.lst_yes hf]
    congr 1
    rw [show 64 * i + k = (64 * i + p) + (k - p) by omega]
    refine Bs.lst_same _ fun c c1 c2 => ?_
    have := h3' (c - 64 * i) (by omega) (by omega)
    rwa [show 64 * i + (c - 64 * i) = c by omega] at this
/-- a word that is 0, and one that isn't -/
theorem Bs.word_zero {f : Nat → Bool} {i : Nat} (h : Bs.word f i = 0) (c : Nat) (h1 : 64 * i ≤ c) (h2 : c < 64 * i + 64) : f c = false := by
  have := Bs.word_bit f i (c - 64 * i)
  rw [h, Nat.zero_testBit, show 64 * i + (c - 64 * i) = c by omega] at this
  have a1 : c - 64 * i < 64 := by omega
  simpa [a1] using this.symm
theorem Bs.word_some {f : Nat → Bool} {i : Nat} (h : Bs.word f i ≠ 0) : ∃ k, Lib.ctz 64 (Bs.word f i) = k ∧ k < 64 ∧ f (64 * i + k) = true ∧ ∀ c, 64 * i ≤ c → c < 64 * i + k → f c = false := by
  obtain ⟨h1, h2, h3, _⟩ := Bs.low_bit _ h (Bs.word_lt f i)
  generalize Lib.ctz 64 (Bs.word f i) = k at *
  rw [Bs.word_bit] at h2
  simp at h2
  refine ⟨k, rfl, h1, h2.2, fun c c1 c2 => ?_⟩
  have := h3 (c - 64 * i) (by omega)
  rw [Bs.word_bit, show 64 * i + (c - 64 * i) = c by omega] at this
  have a1 : c - 64 * i < 64 := by omega
  simpa [a1] using this
/-- a bit that isn't there, added -/
theorem Bs.add_bit {x k : Nat} (h : x.testBit k = false) : x + 2 ^ k = x ||| 2 ^ k := by
  have hp : 0 < 2 ^ k := Nat.two_pow_pos k
  have e1 : x = 2 ^ k * (x / 2 ^ k) + x % 2 ^ k := (Nat.div_add_mod x (2 ^ k)).symm
  have hr : x % 2 ^ k < 2 ^ k := Nat.mod_lt _ hp
  have hq : x / 2 ^ k % 2 = 0 := by
    rw [Nat.testBit_eq_decide_div_mod_eq] at h
    have : ¬ x / 2 ^ k % 2 = 1 := of_decide_eq_false h
    omega
  obtain ⟨m, hm⟩ : ∃ m, x / 2 ^ k = 2 * m := ⟨x / 2 ^ k / 2, by omega⟩
  have e2 : x + 2 ^ k = 2 ^ k * (2 * m + 1) + x % 2 ^ k := by
    rw [hm] at e1
    have : 2 ^ k * (2 * m + 1) = 2 ^ k * (2 * m) + 2 ^ k := by rw [Nat.mul_add, Nat.mul_one]
    omega
  apply Nat.eq_of_testBit_eq
  intro j
  have b1 : x.testBit j = if j < k then (x % 2 ^ k).testBit j else (2 * m).testBit (j - k) := by
    rw [hm] at e1
    rw [← Bs.mul_bit k (2 * m) (x % 2 ^ k) j hr, ← e1]
  rw [Nat.testBit_or, e2, Bs.mul_bit _ _ _ _ hr, b1, Nat.testBit_two_pow]
  by_cases hj : j < k
  · have : ¬ k = j := by omega
    simp [hj, this]
  · rw [if_neg hj, if_neg hj]
    by_cases hjk : j = k
    · subst hjk; simp [Nat.testBit_zero]
    · have hne : ¬ k = j := fun e => hjk e.symm
      obtain ⟨i, hi⟩ : ∃ i, j - k = i + 1 := ⟨j - k - 1, by omega⟩
      rw [hi, Nat.testBit_succ, Nat.testBit_succ, show (2 * m + 1) / 2 = m by omega, show 2 * m / 2 = m by omega]
      simp [hne]
end Go.Proofs.Ytigdelfoipcilaa
