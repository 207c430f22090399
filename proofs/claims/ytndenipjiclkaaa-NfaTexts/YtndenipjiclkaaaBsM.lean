/- Sets of bytes as predicates, and their four words: plain facts. -/
import Derived.Test.YtndenipjiclkaaaRows
import Derived.Lib.Hide
import Derived.Laws.BitsAllLaws
namespace Go.Proofs.Ytndenipjiclkaaa
set_option linter.unusedVariables false
set_option linter.unusedSimpArgs false
/-- of the truths of f the first n, as the bits of a number -/
def Bs.num (f : Nat → Bool) : Nat → Nat
  | 0 => 0
  | n + 1 => Bs.num f n + if f n then 2 ^ n else 0
theorem Bs.num_lt (f : Nat → Bool) : ∀ n, Bs.num f n < 2 ^ n
  | 0 => by simp [Bs.num]
  | n + 1 => by
    have h := Bs.num_lt f n
    unfold Bs.num
    rw [Nat.pow_succ]
    split <;> omega
theorem Bs.num_bit (f : Nat → Bool) (k : Nat) : ∀ n, (Bs.num f n).testBit k = (decide (k < n) && f k)
  | 0 => by simp [Bs.num]
  | n + 1 => by
    have ih := Bs.num_bit f k n
    have hlt := Bs.num_lt f n
    unfold Bs.num
    by_cases hf : f n = true
    · rw [if_pos hf, Nat.add_comm]
      by_cases hk : k = n
      · subst hk
        rw [Nat.testBit_two_pow_add_eq, ih]; simp [hf]
      · by_cases hkn : k < n
        · rw [Nat.testBit_two_pow_add_gt hkn, ih]
          have : k < n + 1 := by omega
          simp [hkn, this]
        · have h1 : 2 ^ n + Bs.num f n < 2 ^ k := by
            have : 2 ^ (n + 1) ≤ 2 ^ k := Nat.pow_le_pow_right (by decide) (by omega)
            rw [Nat.pow_succ] at this; omega
          rw [Nat.testBit_lt_two_pow h1]
          have : ¬ k < n + 1 := by omega
          simp [this]
    · rw [if_neg hf, Nat.add_zero, ih]
      by_cases hk : k = n
      · subst hk; simp [hf]
      · have : (k < n) = (k < n + 1) := propext (by omega)
        simp [this]
/-- word i of the set of the bytes of which f holds -/
def Bs.word (f : Nat → Bool) (i : Nat) : Nat := Bs.num (fun k => f (64 * i + k)) 64
theorem Bs.word_lt (f : Nat → Bool) (i : Nat) : Bs.word f i < 18446744073709551616 := Bs.num_lt _ 64
theorem Bs.word_bit (f : Nat → Bool) (i k : Nat) : (Bs.word f i).testBit k = (decide (k < 64) && f (64 * i + k)) := Bs.num_bit _ k 64
theorem Bs.bit_lt {x k : Nat} (hx : x < 18446744073709551616) (hk : 64 ≤ k) : x.testBit k = false :=
  Nat.testBit_lt_two_pow (Nat.lt_of_lt_of_le hx (show 2 ^ 64 ≤ 2 ^ k from Nat.pow_le_pow_right (by decide) hk))
/-- a number below 2^64 is word i of f, if its bits are f's -/
theorem Bs.is_word {x : Nat} (hx : x < 18446744073709551616) {f : Nat → Bool} {i : Nat} (h : ∀ k, k < 64 → x.testBit k = f (64 * i + k)) : x = Bs.word f i := by
  apply Nat.eq_of_testBit_eq
  intro k
  rw [Bs.word_bit]
  by_cases hk : k < 64
  · simp [hk, h k hk]
  · rw [Bs.bit_lt hx (by omega)]; simp [hk]
theorem Bs.word_congr {f g : Nat → Bool} {i : Nat} (h : ∀ k, k < 64 → f (64 * i + k) = g (64 * i + k)) : Bs.word f i = Bs.word g i :=
  Bs.is_word (Bs.word_lt f i) fun k hk => by rw [Bs.word_bit]; simp [hk, h k hk]
theorem Bs.word_inj {f g : Nat → Bool} {i : Nat} (h : Bs.word f i = Bs.word g i) (k : Nat) (hk : k < 64) : f (64 * i + k) = g (64 * i + k) := by
  have e := congrArg (fun x => x.testBit k) h
  simp only [Bs.word_bit] at e
  simpa [hk] using e
theorem Bs.and_lt {a b : Nat} (ha : a < 18446744073709551616) : a &&& b < 18446744073709551616 := Nat.lt_of_le_of_lt Nat.and_le_left ha
theorem Bs.or_lt {a b : Nat} (ha : a < 18446744073709551616) (hb : b < 18446744073709551616) : a ||| b < 18446744073709551616 := Nat.or_lt_two_pow (n := 64) ha hb
theorem Bs.word_and (f g : Nat → Bool) (i : Nat) : Bs.word f i &&& Bs.word g i = Bs.word (fun c => f c && g c) i :=
  Bs.is_word (Bs.and_lt (Bs.word_lt f i)) fun k hk => by rw [Nat.testBit_and, Bs.word_bit, Bs.word_bit]; simp [hk]
theorem Bs.word_or (f g : Nat → Bool) (i : Nat) : Bs.word f i ||| Bs.word g i = Bs.word (fun c => f c || g c) i :=
  Bs.is_word (Bs.or_lt (Bs.word_lt f i) (Bs.word_lt g i)) fun k hk => by rw [Nat.testBit_or, Bs.word_bit, Bs.word_bit]; simp [hk]
theorem Bs.not_bit {x k : Nat} (hx : x < 18446744073709551616) : (18446744073709551615 - x).testBit k = (decide (k < 64) && !x.testBit k) := by
  have e : 18446744073709551615 - x = 2 ^ 64 - (x + 1) := by omega
  rw [e, Nat.testBit_two_pow_sub_succ (n := 64) hx]
theorem Bs.word_not (f : Nat → Bool) (i : Nat) : 18446744073709551615 - Bs.word f i = Bs.word (fun c => !f c) i :=
  Bs.is_word (by omega) fun k hk => by rw [Bs.not_bit (Bs.word_lt f i), Bs.word_bit]; simp [hk]
theorem Bs.word_less (f g : Nat → Bool) (i : Nat) : Bs.word f i &&& (18446744073709551615 - Bs.word g i) = Bs.word (fun c => f c && !g c) i := by
  rw [Bs.word_not, Bs.word_and]
theorem Bs.pow_lt {k : Nat} (hk : k < 64) : 2 ^ k < 18446744073709551616 := show 2 ^ k < 2 ^ 64 from Nat.pow_lt_pow_right (by decide) hk
/-- a byte put in, at its word -/
theorem Bs.word_put (f : Nat → Bool) (i k : Nat) (hk : k < 64) : Bs.word f i ||| 2 ^ k = Bs.word (fun c => f c || c == 64 * i + k) i :=
  Bs.is_word (Bs.or_lt (Bs.word_lt f i) (Bs.pow_lt hk)) fun j hj => by
    rw [Nat.testBit_or, Bs.word_bit, Nat.testBit_two_pow]
    have : (decide (k = j)) = (64 * i + j == 64 * i + k) := by rw [Bool.eq_iff_iff]; simp; omega
    simp [hj, this]
/-- a byte put in, at another word -/
theorem Bs.word_far (f : Nat → Bool) (i j k : Nat) (hk : k < 64) (hij : i ≠ j) : Bs.word (fun c => f c || c == 64 * i + k) j = Bs.word f j :=
  Bs.word_congr fun m hm => by
    have : (64 * j + m == 64 * i + k) = false := by simp; omega
    simp [this]
theorem Bs.word_none (i : Nat) : Bs.word (fun _ => false) i = 0 := (Bs.is_word (by decide) fun k _ => by simp).symm
/-- the value of the set of the bytes of which f holds -/
def Bs.val (f : Nat → Bool) : Value := .agg #[.int .u64 (Bs.word f 0), .int .u64 (Bs.word f 1), .int .u64 (Bs.word f 2), .int .u64 (Bs.word f 3)]
theorem Bs.val_congr {f g : Nat → Bool} (h : ∀ c, c < 256 → f c = g c) : Bs.val f = Bs.val g := by
  unfold Bs.val
  rw [Bs.word_congr (f := f) (g := g) (i := 0) fun k hk => h _ (by omega), Bs.word_congr (f := f) (g := g) (i := 1) fun k hk => h _ (by omega), Bs.word_congr (f := f) (g := g) (i := 2) fun k hk => h _ (by omega), Bs.word_congr (f := f) (g := g) (i := 3) fun k hk => h _ (by omega)]
theorem Bs.val_inj {f g : Nat → Bool} (h : Bs.val f = Bs.val g) (c : Nat) (hc : c < 256) : f c = g c := by
  unfold Bs.val at h
  simp at h
  obtain ⟨h0, h1, h2, h3⟩ := h
  have e : c = 64 * (c / 64) + c % 64 := by omega
  have hk : c % 64 < 64 := by omega
  rw [e]
  have hi : c / 64 = 0 ∨ c / 64 = 1 ∨ c / 64 = 2 ∨ c / 64 = 3 := by omega
  rcases hi with hi | hi | hi | hi <;> rw [hi]
  · exact Bs.word_inj (by exact_mod_cast h0) _ hk
  · exact Bs.word_inj (by exact_mod_cast h1) _ hk
  · exact Bs.word_inj (by exact_mod_cast h2) _ hk
  · exact Bs.word_inj (by exact_mod_cast h3) _ hk
/-- whatever four numbers are a set's words -/
theorem Bs.of_words (a b c d : Nat) (ha : a < 18446744073709551616) (hb : b < 18446744073709551616) (hc : c < 18446744073709551616) (hd : d < 18446744073709551616) :
    ∃ f : Nat → Bool, a = Bs.word f 0 ∧ b = Bs.word f 1 ∧ c = Bs.word f 2 ∧ d = Bs.word f 3 := by
  refine ⟨fun x => (if x / 64 = 0 then a else if x / 64 = 1 then b else if x / 64 = 2 then c else d).testBit (x % 64), ?_, ?_, ?_, ?_⟩
  · refine Bs.is_word ha fun k hk => ?_
    have e1 : (64 * 0 + k) / 64 = 0 := by omega
    have e2 : (64 * 0 + k) % 64 = k := by omega
    simp only [e1, e2, if_true]
  · refine Bs.is_word hb fun k hk => ?_
    have e1 : (64 * 1 + k) / 64 = 1 := by omega
    have e2 : (64 * 1 + k) % 64 = k := by omega
    simp [e1, e2]
  · refine Bs.is_word hc fun k hk => ?_
    have e1 : (64 * 2 + k) / 64 = 2 := by omega
    have e2 : (64 * 2 + k) % 64 = k := by omega
    simp [e1, e2]
  · refine Bs.is_word hd fun k hk => ?_
    have e1 : (64 * 3 + k) / 64 = 3 := by omega
    have e2 : (64 * 3 + k) % 64 = k := by omega
    simp [e1, e2]
/-- what f says of a byte, off its word -/
theorem Bs.has_word (f : Nat → Bool) (c : Nat) : Bs.word f (c / 64) / 2 ^ (c % 64) % 2 = if f c then 1 else 0 := by
  have h := Bs.word_bit f (c / 64) (c % 64)
  have hk : c % 64 < 64 := by omega
  rw [Nat.testBit_eq_decide_div_mod_eq] at h
  have e : 64 * (c / 64) + c % 64 = c := by omega
  rw [e] at h
  simp only [hk, decide_true, Bool.true_and] at h
  rcases Bool.eq_false_or_eq_true (f c) with hf | hf <;> rw [hf] at h ⊢
  · simpa using h
  · have : ¬ Bs.word f (c / 64) / 2 ^ (c % 64) % 2 = 1 := of_decide_eq_false h
    simp; omega
end Go.Proofs.Ytndenipjiclkaaa
