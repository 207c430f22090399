/- Sets of bytes as predicates, and their four words: plain facts. Regular expressions: plain facts: how many nodes one has and how deep it is, what it matches, and the closure of a table. Plain facts for the least table: texts that are made of numbers, numbers given to texts, parts that are split till nothing turns. -/
import Derived.Test.YthapedadnbkgnaaRows
import Derived.Lib.Hide
import Derived.Laws.BitsAllLaws
namespace Go.Proofs.Ythapedadnbkgnaa
set_option linter.unusedVariables false
set_option linter.unusedSimpArgs false
def Bs.num (f : Nat → Bool) : Nat → Nat
  | 0 => 0
  | n + 1 => Bs.num f n + if f n then 2 ^ n else 0
theorem Bs.num_lt (f : Nat → Bool) : ∀ n, Bs.num f n < 2 ^ n
  | 0 => by simp [Bs.num]
  | n + 1 => by
    have h := Bs.num_lt f n
    unfold Bs.num
    rw [Nat.pow_succ]
    split <;> omega
theorem Bs.num_bit (f : Nat → Bool) (k : Nat) : ∀ n, (Bs.num f n).testBit k = (decide (k < n) && f k)
  | 0 => by simp [Bs.num]
  | n + 1 => by
    have ih := Bs.num_bit f k n
    have hlt := Bs.num_lt f n
    unfold Bs.num
    by_cases hf : f n = true
    · rw [if_pos hf, Nat.add_comm]
      by_cases hk : k = n
      · subst hk
        rw [Nat.testBit_two_pow_add_eq, ih]; simp [hf]
      · by_cases hkn : k < n
        · rw [Nat.testBit_two_pow_add_gt hkn, ih]
          have : k < n + 1 := by omega
          simp [hkn, this]
        · have h1 : 2 ^ n + Bs.num f n < 2 ^ k := by
            have : 2 ^ (n + 1) ≤ 2 ^ k := Nat.pow_le_pow_right (by decide) (by omega)
            rw [Nat.pow_succ] at this; omega
          rw [Nat.testBit_lt_two_pow h1]
          have : ¬ k < n + 1 := by omega
          simp [this]
    · rw [if_neg hf, Nat.add_zero, ih]
      by_cases hk : k = n
      · subst hk; simp [hf]
      · have : (k < n) = (k < n + 1) := propext (by omega)
        simp [this]
def Bs.word (f : Nat → Bool) (i : Nat) : Nat := Bs.num (fun k => f (64 * i + k)) 64
theorem Bs.word_lt (f : Nat → Bool) (i : Nat) : Bs.word f i < 18446744073709551616 := Bs.num_lt _ 64
theorem Bs.word_bit (f : Nat → Bool) (i k : Nat) : (Bs.word f i).testBit k = (decide (k < 64) && f (64 * i + k)) := Bs.num_bit _ k 64
theorem Bs.bit_lt {x k : Nat} (hx : x < 18446744073709551616) (hk : 64 ≤ k) : x.testBit k = false :=
  Nat.testBit_lt_two_pow (Nat.lt_of_lt_of_le hx (show 2 ^ 64 ≤ 2 ^ k from Nat.pow_le_pow_right (by decide) hk))
theorem Bs.is_word {x : Nat} (hx : x < 18446744073709551616) {f : Nat → Bool} {i : Nat} (h : ∀ k, k < 64 → x.testBit k = f (64 * i + k)) : x = Bs.word f i := by
  apply Nat.eq_of_testBit_eq
  intro k
  rw [Bs.word_bit]
  by_cases hk : k < 64
  · simp [hk, h k hk]
  · rw [Bs.bit_lt hx (by omega)]; simp [hk]
theorem Bs.word_congr {f g : Nat → Bool} {i : Nat} (h : ∀ k, k < 64 → f (64 * i + k) = g (64 * i + k)) : Bs.word f i = Bs.word g i :=
  Bs.is_word (Bs.word_lt f i) fun k hk => by rw [Bs.word_bit]; simp [hk, h k hk]
theorem Bs.word_inj {f g : Nat → Bool} {i : Nat} (h : Bs.word f i = Bs.word g i) (k : Nat) (hk : k < 64) : f (64 * i + k) = g (64 * i + k) := by
  have e := congrArg (fun x => x.testBit k) h
  simp only [Bs.word_bit] at e
  simpa [hk] using e
theorem Bs.and_lt {a b : Nat} (ha : a < 18446744073709551616) : a &&& b < 18446744073709551616 := Nat.lt_of_le_of_lt Nat.and_le_left ha
theorem Bs.or_lt {a b : Nat} (ha : a < 18446744073709551616) (hb : b < 18446744073709551616) : a ||| b < 18446744073709551616 := Nat.or_lt_two_pow (n := 64) ha hb
theorem Bs.word_and (f g : Nat → Bool) (i : Nat) : Bs.word f i &&& Bs.word g i = Bs.word (fun c => f c && g c) i :=
  Bs.is_word (Bs.and_lt (Bs.word_lt f i)) fun k hk => by rw [Nat.testBit_and, Bs.word_bit, Bs.word_bit]; simp [hk]
theorem Bs.word_or (f g : Nat → Bool) (i : Nat) : Bs.word f i ||| Bs.word g i = Bs.word (fun c => f c || g c) i :=
  Bs.is_word (Bs.or_lt (Bs.word_lt f i) (Bs.word_lt g i)) fun k hk => by rw [Nat.testBit_or, Bs.word_bit, Bs.word_bit]; simp [hk]
theorem Bs.not_bit {x k : Nat} (hx : x < 18446744073709551616) : (18446744073709551615 - x).testBit k = (decide (k < 64) && !x.testBit k) := by
  have e : 18446744073709551615 - x = 2 ^ 64 - (x + 1) := by omega
  rw [e, Nat.testBit_two_pow_sub_succ (n := 64) hx]
theorem Bs.word_not (f : Nat → Bool) (i : Nat) : 18446744073709551615 - Bs.word f i = Bs.word (fun c => !f c) i :=
  Bs.is_word (by omega) fun k hk => by rw [Bs.not_bit (Bs.word_lt f i), Bs.word_bit]; simp [hk]
theorem Bs.word_less (f g : Nat → Bool) (i : Nat) : Bs.word f i &&& (18446744073709551615 - Bs.word g i) = Bs.word (fun c => f c && !g c) i := by
  rw [Bs.word_not, Bs.word_and]
theorem Bs.pow_lt {k : Nat} (hk : k < 64) : 2 ^ k < 18446744073709551616 := show 2 ^ k < 2 ^ 64 from Nat.pow_lt_pow_right (by decide) hk
theorem Bs.word_put (f : Nat → Bool) (i k : Nat) (hk : k < 64) : Bs.word f i ||| 2 ^ k = Bs.word (fun c => f c || c == 64 * i + k) i :=
  Bs.is_word (Bs.or_lt (Bs.word_lt f i) (Bs.pow_lt hk)) fun j hj => by
    rw [Nat.testBit_or, Bs.word_bit, Nat.testBit_two_pow]
    have : (decide (k = j)) = (64 * i + j == 64 * i + k) := by rw [Bool.eq_iff_iff]; simp; omega
    simp [hj, this]
theorem Bs.word_far (f : Nat → Bool) (i j k : Nat) (hk : k < 64) (hij : i ≠ j) : Bs.word (fun c => f c || c == 64 * i + k) j = Bs.word f j :=
  Bs.word_congr fun m hm => by
    have : (64 * j + m == 64 * i + k) = false := by simp; omega
    simp [this]
theorem Bs.word_none (i : Nat) : Bs.word (fun _ => false) i = 0 := (Bs.is_word (by decide) fun k _ => by simp).symm
def Bs.val (f : Nat → Bool) : Value := .agg #[.int .u64 (Bs.word f 0), .int .u64 (Bs.word f 1), .int .u64 (Bs.word f 2), .int .u64 (Bs.word f 3)]
theorem Bs.val_congr {f g : Nat → Bool} (h : ∀ c, c < 256 → f c = g c) : Bs.val f = Bs.val g := by
  unfold Bs.val
  rw [Bs.word_congr (f := f) (g := g) (i := 0) fun k hk => h _ (by omega), Bs.word_congr (f := f) (g := g) (i := 1) fun k hk => h _ (by omega), Bs.word_congr (f := f) (g := g) (i := 2) fun k hk => h _ (by omega), Bs.word_congr (f := f) (g := g) (i := 3) fun k hk => h _ (by omega)]
theorem Bs.val_inj {f g : Nat → Bool} (h : Bs.val f = Bs.val g) (c : Nat) (hc : c < 256) : f c = g c := by
  unfold Bs.val at h
  simp at h
  obtain ⟨h0, h1, h2, h3⟩ := h
  have e : c = 64 * (c / 64) + c % 64 := by omega
  have hk : c % 64 < 64 := by omega
  rw [e]
  have hi : c / 64 = 0 ∨ c / 64 = 1 ∨ c / 64 = 2 ∨ c / 64 = 3 := by omega
  rcases hi with hi | hi | hi | hi <;> rw [hi]
  · exact Bs.word_inj (by exact_mod_cast h0) _ hk
  · exact Bs.word_inj (by exact_mod_cast h1) _ hk
  · exact Bs.word_inj (by exact_mod_cast h2) _ hk
  · exact Bs.word_inj (by exact_mod_cast h3) _ hk
theorem Bs.has_word (f : Nat → Bool) (c : Nat) : Bs.word f (c / 64) / 2 ^ (c % 64) % 2 = if f c then 1 else 0 := by
  have h := Bs.word_bit f (c / 64) (c % 64)
  have hk : c % 64 < 64 := by omega
  rw [Nat.testBit_eq_decide_div_mod_eq] at h
  have e : 64 * (c / 64) + c % 64 = c := by omega
  rw [e] at h
  simp only [hk, decide_true, Bool.true_and] at h
  rcases Bool.eq_false_or_eq_true (f c) with hf | hf <;> rw [hf] at h ⊢
  · simpa using h
  · have : ¬ Bs.word f (c / 64) / 2 ^ (c % 64) % 2 = 1 := of_decide_eq_false h
    simp; omega
end Go.Proofs.Ythapedadnbkgnaa
namespace Go.Proofs.Ythapedadnbkgnaa
set_option linter.unusedVariables false
set_option linter.unusedSimpArgs false
inductive Rx where
  | node (kind : Nat) (set : Nat → Bool) (kids : List Rx) : Rx
mutual
def Rx.size : Rx → Nat
  | .node _ _ l => 1 + Rx.sizeL l
def Rx.sizeL : List Rx → Nat
  | [] => 0
  | x :: r => Rx.size x + Rx.sizeL r
end
mutual
def Rx.depth : Rx → Nat
  | .node _ _ l => 1 + Rx.depthL l
def Rx.depthL : List Rx → Nat
  | [] => 0
  | x :: r => max (Rx.depth x) (Rx.depthL r)
end
mutual
def Rx.wf : Rx → Bool
  | .node k _ l => decide (k ≤ 4) && !(decide (k < 2) && decide (0 < l.length)) && !(k == 4 && l.length != 1) && Rx.wfL l
def Rx.wfL : List Rx → Bool
  | [] => true
  | x :: r => Rx.wf x && Rx.wfL r
end
mutual
def Rx.cnt : Rx → Nat → Option Nat
  | .node k _ l, d =>
    if (decide (60 < d) || decide (4 < k) || decide (400 < l.length)) = true then none
    else if (decide (k < 2) && decide (0 < l.length) || k == 4 && l.length != 1) = true then none
    else Rx.cntL l (d + 1) 1
def Rx.cntL : List Rx → Nat → Nat → Option Nat
  | [], _, n => some n
  | x :: r, d, n =>
    match Rx.cnt x d with
    | none => none
    | some k => if 400 < n + k then none else Rx.cntL r d (n + k)
end
theorem Rx.size_pos : ∀ x : Rx, 1 ≤ x.size
  | .node _ _ _ => by simp [Rx.size]
theorem Rx.length_le : ∀ l : List Rx, l.length ≤ Rx.sizeL l
  | [] => by simp [Rx.sizeL]
  | x :: r => by
    have := Rx.size_pos x; have := Rx.length_le r
    simp [Rx.sizeL]; omega
def Rx.may (x : Rx) (d : Nat) : Bool := x.wf && decide (x.depth + d ≤ 61) && decide (x.size ≤ 400)
theorem Rx.may_iff {x : Rx} {d : Nat} : x.may d = true ↔ x.wf = true ∧ x.depth + d ≤ 61 ∧ x.size ≤ 400 := by simp [Rx.may, and_assoc]
def Rx.mayL (l : List Rx) (d n : Nat) : Bool := Rx.wfL l && decide (Rx.depthL l + d ≤ 61) && decide (n + Rx.sizeL l ≤ 400)
theorem Rx.mayL_iff {l : List Rx} {d n : Nat} : Rx.mayL l d n = true ↔ Rx.wfL l = true ∧ Rx.depthL l + d ≤ 61 ∧ n + Rx.sizeL l ≤ 400 := by simp [Rx.mayL, and_assoc]
mutual
theorem Rx.cnt_eq : ∀ (x : Rx) (d : Nat), 1 ≤ d → x.cnt d = if x.may d then some x.size else none
  | .node k f l, d, hd => by
    have hl := Rx.length_le l
    rw [Rx.cnt]
    split
    · rename_i h
      simp only [Bool.or_eq_true, decide_eq_true_eq] at h
      rw [if_neg]
      rw [Rx.may_iff]
      simp only [Rx.wf, Rx.depth, Rx.size, Bool.and_eq_true, decide_eq_true_eq]
      rintro ⟨⟨⟨⟨h1, _⟩, _⟩, _⟩, h2, h3⟩
      omega
    · rename_i h
      simp only [Bool.or_eq_true, decide_eq_true_eq, not_or, Nat.not_lt] at h
      obtain ⟨⟨h1, h2⟩, h3⟩ := h
      split
      · rename_i h'
        rw [if_neg]
        rw [Rx.may_iff]
        simp only [Rx.wf, Bool.and_eq_true, decide_eq_true_eq, Bool.not_eq_true']
        rintro ⟨⟨⟨⟨_, h4⟩, h5⟩, _⟩, _, _⟩
        rw [h4, h5] at h'
        simp at h'
      · rename_i h'
        simp only [Bool.or_eq_true, not_or, Bool.not_eq_true] at h'
        rw [Rx.cntL_eq l (d + 1) 1 (by omega) (by omega) (by omega)]
        have e : (Rx.node k f l).may d = Rx.mayL l (d + 1) 1 := by
          rw [Bool.eq_iff_iff, Rx.may_iff, Rx.mayL_iff]
          simp only [Rx.wf, Rx.depth, Rx.size, h'.1, h'.2, Bool.not_false, Bool.and_true, Bool.and_eq_true, decide_eq_true_eq]
          constructor
          · rintro ⟨⟨_, h4⟩, h5, h6⟩; exact ⟨h4, by omega, h6⟩
          · rintro ⟨h4, h5, h6⟩; exact ⟨⟨h2, h4⟩, by omega, h6⟩
        rw [e]; simp [Rx.size]
theorem Rx.cntL_eq : ∀ (l : List Rx) (d n : Nat), 1 ≤ d → d ≤ 61 → n ≤ 400 → Rx.cntL l d n = if Rx.mayL l d n then some (n + Rx.sizeL l) else none
  | [], d, n, _, h2, h => by simp [Rx.cntL, Rx.mayL, Rx.wfL, Rx.depthL, Rx.sizeL, h2, h]
  | x :: r, d, n, h1, h2, h => by
    rw [Rx.cntL, Rx.cnt_eq x d h1]
    cases hx : x.may d
    · simp only [Bool.false_eq_true, if_false]
      rw [if_neg]
      rw [Rx.mayL_iff]
      simp only [Rx.wfL, Rx.depthL, Rx.sizeL, Bool.and_eq_true]
      rintro ⟨⟨h3, _⟩, h4, h5⟩
      have h6 : x.may d = true := Rx.may_iff.2 ⟨h3, by omega, by omega⟩
      rw [hx] at h6; simp at h6
    · simp only [if_true]
      obtain ⟨hx1, hx2, hx3⟩ := Rx.may_iff.1 hx
      split
      · rw [if_neg]
        rw [Rx.mayL_iff]
        simp only [Rx.sizeL]
        rintro ⟨_, _, h5⟩
        omega
      · rw [Rx.cntL_eq r d (n + x.size) h1 h2 (by omega)]
        have e2 : n + x.size + Rx.sizeL r = n + Rx.sizeL (x :: r) := by simp only [Rx.sizeL]; omega
        have e : Rx.mayL r d (n + x.size) = Rx.mayL (x :: r) d n := by
          rw [Bool.eq_iff_iff, Rx.mayL_iff, Rx.mayL_iff, e2]
          simp only [Rx.wfL, Rx.depthL, hx1, Bool.true_and]
          constructor
          · rintro ⟨h4, h5, h6⟩; exact ⟨h4, by omega, h6⟩
          · rintro ⟨h4, h5, h6⟩; exact ⟨h4, by omega, h6⟩
        rw [e, e2]
end
inductive Rx.Clo (R : Nat → Nat → Prop) : Nat → Nat → Prop
  | refl (i : Nat) : Rx.Clo R i i
  | step {i j k : Nat} : R i j → Rx.Clo R j k → Rx.Clo R i k
theorem Rx.Clo.trans {R : Nat → Nat → Prop} {i j k : Nat} (h : Rx.Clo R i j) (h' : Rx.Clo R j k) : Rx.Clo R i k := by
  induction h with
  | refl => exact h'
  | step r _ ih => exact .step r (ih h')
theorem Rx.Clo.one {R : Nat → Nat → Prop} {i k : Nat} (h : R i k) : Rx.Clo R i k := .step h (.refl _)
theorem Rx.Clo.of {R S : Nat → Nat → Prop} (hs : ∀ i k, R i k → S i k) {i k : Nat} (h : Rx.Clo R i k) : Rx.Clo S i k := by
  induction h with
  | refl => exact .refl _
  | step r _ ih => exact .step (hs _ _ r) ih
mutual
def Rx.Go (s : Nat → Nat) (n : Nat) : Rx → Nat → Nat → Prop
  | .node 0 _ _, i, k => i = k
  | .node 1 f _, i, k => i < n ∧ k = i + 1 ∧ f (s i) = true
  | .node 2 _ l, i, k => Rx.GoC s n l i k
  | .node 3 _ l, i, k => Rx.GoA s n l i k
  | .node (_ + 4) _ l, i, k => Rx.Clo (Rx.GoA s n l) i k
def Rx.GoC (s : Nat → Nat) (n : Nat) : List Rx → Nat → Nat → Prop
  | [], i, k => i = k
  | x :: r, i, k => ∃ j, Rx.Go s n x i j ∧ Rx.GoC s n r j k
def Rx.GoA (s : Nat → Nat) (n : Nat) : List Rx → Nat → Nat → Prop
  | [], _, _ => False
  | x :: r, i, k => Rx.Go s n x i k ∨ Rx.GoA s n r i k
end
theorem Rx.Clo.up {R : Nat → Nat → Prop} {n : Nat} (h : ∀ i k, R i k → i ≤ k ∧ (i ≤ n → k ≤ n)) {i k : Nat} (hc : Rx.Clo R i k) : i ≤ k ∧ (i ≤ n → k ≤ n) := by
  induction hc with
  | refl => exact ⟨Nat.le_refl _, id⟩
  | step r _ ih => have := h _ _ r; exact ⟨by omega, fun hi => ih.2 (this.2 hi)⟩
mutual
theorem Rx.go_up (s : Nat → Nat) (n : Nat) : ∀ (x : Rx) (i k : Nat), Rx.Go s n x i k → i ≤ k ∧ (i ≤ n → k ≤ n)
  | .node 0 _ _, i, k, h => by simp only [Rx.Go] at h; omega
  | .node 1 f _, i, k, h => by simp only [Rx.Go] at h; omega
  | .node 2 _ l, i, k, h => by simp only [Rx.Go] at h; exact Rx.goC_up s n l i k h
  | .node 3 _ l, i, k, h => by simp only [Rx.Go] at h; exact Rx.goA_up s n l i k h
  | .node (_ + 4) _ l, i, k, h => by simp only [Rx.Go] at h; exact Rx.Clo.up (Rx.goA_up s n l) h
theorem Rx.goC_up (s : Nat → Nat) (n : Nat) : ∀ (l : List Rx) (i k : Nat), Rx.GoC s n l i k → i ≤ k ∧ (i ≤ n → k ≤ n)
  | [], i, k, h => by simp only [Rx.GoC] at h; omega
  | x :: r, i, k, h => by
    simp only [Rx.GoC] at h
    obtain ⟨j, h1, h2⟩ := h
    have := Rx.go_up s n x i j h1; have := Rx.goC_up s n r j k h2
    omega
theorem Rx.goA_up (s : Nat → Nat) (n : Nat) : ∀ (l : List Rx) (i k : Nat), Rx.GoA s n l i k → i ≤ k ∧ (i ≤ n → k ≤ n)
  | [], i, k, h => by simp only [Rx.GoA] at h
  | x :: r, i, k, h => by
    simp only [Rx.GoA] at h
    rcases h with h | h
    · exact Rx.go_up s n x i k h
    · exact Rx.goA_up s n r i k h
end
end Go.Proofs.Ythapedadnbkgnaa
namespace Go.Proofs.Ythapedadnbkgnaa
set_option linter.unusedVariables false
set_option linter.unusedSimpArgs false
namespace Df
def two (k : Int) : List Nat := [((k / 256) % 256).toNat, (k % 256).toNat]
def text (l : List Int) : List Nat := l.flatMap two
def Ok (l : List Int) : Prop := ∀ x ∈ l, -1 ≤ x ∧ x < 65535
theorem two_inj {a b : Int} (ha : -1 ≤ a ∧ a < 65535) (hb : -1 ≤ b ∧ b < 65535) (h : two a = two b) : a = b := by
  simp only [two, List.cons.injEq, and_true] at h
  omega
theorem text_cons (x : Int) (l : List Int) : text (x :: l) = two x ++ text l := rfl
theorem text_inj : ∀ {a b : List Int}, Ok a → Ok b → text a = text b → a = b
  | [], [], _, _, _ => rfl
  | [], b :: s, _, _, h => by simp [text, two] at h
  | a :: r, [], _, _, h => by simp [text, two] at h
  | a :: r, b :: s, ha, hb, h => by
    rw [text_cons, text_cons] at h
    have h1 := List.append_inj h rfl
    rw [two_inj (ha a (by simp)) (hb b (by simp)) h1.1, text_inj (fun x hx => ha x (by simp [hx])) (fun x hx => hb x (by simp [hx])) h1.2]
def key (os rs : List Int) : List Int := os ++ [-1] ++ rs
theorem key_inj : ∀ {a b c d : List Int}, (∀ x ∈ a, 0 ≤ x) → (∀ x ∈ c, 0 ≤ x) → key a b = key c d → a = c ∧ b = d
  | [], b, [], d, _, _, h => by simpa [key] using h
  | [], b, x :: c, d, _, hc, h => by
    have := hc x (by simp)
    simp only [key, List.nil_append, List.cons_append, List.cons.injEq] at h
    omega
  | x :: a, b, [], d, ha, _, h => by
    have := ha x (by simp)
    simp only [key, List.nil_append, List.cons_append, List.cons.injEq] at h
    omega
  | x :: a, b, y :: c, d, ha, hc, h => by
    simp only [key, List.cons_append, List.cons.injEq] at h
    have := key_inj (a := a) (b := b) (c := c) (d := d) (fun z hz => ha z (by simp [hz])) (fun z hz => hc z (by simp [hz])) (by simpa [key] using h.2)
    rw [h.1, this.1, this.2]
    exact ⟨rfl, rfl⟩
section
variable {α : Type} [DecidableEq α]
def meet (ks : List α) (t : α) : List α := if t ∈ ks then ks else ks ++ [t]
def names (ts : List α) : List α := ts.foldl meet []
theorem names_snoc (ts : List α) (t : α) : names (ts ++ [t]) = meet (names ts) t := by simp [names]
theorem mem_meet {ks : List α} {t x : α} : x ∈ meet ks t ↔ x ∈ ks ∨ x = t := by
  unfold meet
  split
  · constructor
    · exact fun h => .inl h
    · rintro (h | h)
      · exact h
      · rw [h]; assumption
  · simp
theorem mem_names : ∀ {n : Nat} {ts : List α}, ts.length = n → ∀ x, x ∈ names ts ↔ x ∈ ts
  | 0, ts, h, x => by rw [List.length_eq_zero_iff.1 h]; simp [names]
  | n + 1, ts, h, x => by
    have hne : ts ≠ [] := by intro e; rw [e] at h; simp at h
    rw [← List.dropLast_concat_getLast hne, names_snoc, mem_meet, mem_names (n := n) (by simp [h]), List.mem_append, List.mem_singleton]
theorem meet_nodup {ks : List α} (h : ks.Nodup) (t : α) : (meet ks t).Nodup := by
  unfold meet
  split
  · exact h
  · rw [List.nodup_append]
    refine ⟨h, by simp, fun a ha b hb => ?_⟩
    rw [List.mem_singleton] at hb
    rintro rfl
    rw [hb] at ha
    contradiction
theorem meet_len (ks : List α) (t : α) : (meet ks t).length ≤ ks.length + 1 := by
  unfold meet; split <;> simp
theorem meet_idx {ks : List α} {t x : α} (h : x ∈ ks) : (meet ks t).idxOf x = ks.idxOf x := by
  unfold meet
  split
  · rfl
  · rw [List.idxOf_append]; simp [h]
theorem meet_new (ks : List α) (t : α) : (meet ks t).idxOf t = ks.idxOf t := by
  unfold meet
  split
  · rfl
  · rename_i h
    rw [List.idxOf_append]; simp [h, List.idxOf_eq_length]
theorem names_idx : ∀ (us ts : List α) (x : α), x ∈ ts → (names (ts ++ us)).idxOf x = (names ts).idxOf x
  | [], ts, x, _ => by simp
  | u :: us, ts, x, h => by
    have e : ts ++ u :: us = (ts ++ [u]) ++ us := by simp
    rw [e, names_idx us (ts ++ [u]) x (by simp [h]), names_snoc, meet_idx ((mem_names rfl x).2 h)]
def idx (ks : List α) (a : α) : Nat := ks.idxOf a
theorem idx_lt {ks : List α} {a : α} (h : a ∈ ks) : idx ks a < ks.length := List.idxOf_lt_length_of_mem h
theorem idx_inj {ks : List α} {a b : α} (ha : a ∈ ks) (hb : b ∈ ks) : idx ks a = idx ks b ↔ a = b := by
  unfold idx
  refine ⟨fun h => ?_, fun h => by rw [h]⟩
  have h1 := List.getElem_idxOf (List.idxOf_lt_length_of_mem ha)
  have h2 := List.getElem_idxOf (List.idxOf_lt_length_of_mem hb)
  rw [← h1, ← h2]
  congr 1
theorem idx_snoc {ks : List α} {t x : α} (h : x ∈ ks) : idx (ks ++ [t]) x = idx ks x := by
  unfold idx
  rw [List.idxOf_append, if_pos h]
theorem idx_new {ks : List α} {t : α} (h : t ∉ ks) : idx (ks ++ [t]) t = ks.length := by
  unfold idx
  rw [List.idxOf_append, if_neg h]
  simp
theorem idx_none {ks : List α} {t : α} (h : t ∉ ks) : idx ks t = ks.length := List.idxOf_eq_length h
theorem idx_meet {ks : List α} {t x : α} (h : x ∈ ks) : idx (meet ks t) x = idx ks x := meet_idx h
theorem idx_met (ks : List α) (t : α) : idx (meet ks t) t = idx ks t := meet_new ks t
def firsts (f : Nat → α) (N : Nat) : Nat := (List.range N).countP fun i => (List.range i).all fun j => !decide (f j = f i)
theorem firsts_zero (f : Nat → α) : firsts f 0 = 0 := by simp [firsts]
theorem firsts_succ (f : Nat → α) (N : Nat) : firsts f (N + 1) = firsts f N + (if (List.range N).all (fun j => !decide (f j = f N)) = true then 1 else 0) := by
  unfold firsts
  rw [List.range_succ, List.countP_append]
  simp [List.countP_cons]
theorem names_len (f : Nat → α) : ∀ N, (names ((List.range N).map f)).length = firsts f N
  | 0 => by simp [names, firsts]
  | N + 1 => by
    rw [List.range_succ, List.map_append, List.map_singleton, names_snoc, firsts_succ, ← names_len f N]
    unfold meet
    have e : f N ∈ names ((List.range N).map f) ↔ ¬ (List.range N).all (fun j => !decide (f j = f N)) = true := by
      rw [mem_names rfl]
      simp
    by_cases h : (List.range N).all (fun j => !decide (f j = f N)) = true
    · rw [if_pos h, if_neg (fun h' => e.1 h' h)]; simp
    · rw [if_neg h, if_pos (e.2 h)]; simp
end
section
variable {α β : Type} [DecidableEq α] [DecidableEq β]
theorem all_refine {f : Nat → α} {g : Nat → β} {N i : Nat} (h : ∀ i j, i < N → j < N → g i = g j → f i = f j) (hi : i < N) (hf : (List.range i).all (fun j => !decide (f j = f i)) = true) : (List.range i).all (fun j => !decide (g j = g i)) = true := by
  rw [List.all_eq_true] at hf ⊢
  intro j hj
  have h1 := hf j hj
  have hj' : j < i := by simpa using hj
  simp only [Bool.not_eq_true', decide_eq_false_iff_not] at h1 ⊢
  exact fun e => h1 (h j i (by omega) hi e)
theorem firsts_le {f : Nat → α} {g : Nat → β} : ∀ (n N : Nat), n ≤ N → (∀ i j, i < N → j < N → g i = g j → f i = f j) → firsts f n ≤ firsts g n
  | 0, _, _, _ => by rw [firsts_zero, firsts_zero]; omega
  | n + 1, N, hn, h => by
    have ih := firsts_le n N (by omega) h
    rw [firsts_succ, firsts_succ]
    by_cases e : (List.range n).all (fun j => !decide (f j = f n)) = true
    · rw [if_pos e, if_pos (all_refine h (by omega) e)]; omega
    · rw [if_neg e]; omega
theorem firsts_eq {f : Nat → α} {g : Nat → β} : ∀ (n N : Nat), n ≤ N → (∀ i j, i < N → j < N → g i = g j → f i = f j) → firsts f n = firsts g n → ∀ i, i < n → (List.range i).all (fun j => !decide (g j = g i)) = true → (List.range i).all (fun j => !decide (f j = f i)) = true
  | 0, _, _, _, _, i, hi, _ => by omega
  | n + 1, N, hn, h, he, i, hi, hg => by
    have l := firsts_le n N (by omega) h
    rw [firsts_succ, firsts_succ] at he
    have he' : firsts f n = firsts g n ∧ ((List.range n).all (fun j => !decide (g j = g n)) = true → (List.range n).all (fun j => !decide (f j = f n)) = true) := by
      by_cases e : (List.range n).all (fun j => !decide (f j = f n)) = true
      · rw [if_pos e, if_pos (all_refine h (by omega) e)] at he
        exact ⟨by omega, fun _ => e⟩
      · rw [if_neg e] at he
        by_cases e2 : (List.range n).all (fun j => !decide (g j = g n)) = true
        · rw [if_pos e2] at he; omega
        · exact ⟨by rw [if_neg e2] at he; omega, fun e3 => absurd e3 e2⟩
    by_cases hin : i = n
    · subst hin; exact he'.2 hg
    · exact firsts_eq n N (by omega) h he'.1 i (by omega) hg
theorem first_of (f : Nat → α) : ∀ (m i : Nat), i < m → ∃ j, j ≤ i ∧ f j = f i ∧ (List.range j).all (fun k => !decide (f k = f j)) = true
  | 0, i, h => by omega
  | m + 1, i, h => by
    by_cases e : (List.range i).all (fun k => !decide (f k = f i)) = true
    · exact ⟨i, by omega, rfl, e⟩
    · rw [List.all_eq_true] at e
      have ⟨k, hk⟩ := Classical.not_forall.1 e
      have ⟨hk1, hk2⟩ := Classical.not_imp.1 hk
      have hk' : k < i := by simpa using hk1
      have hk3 : f k = f i := by simpa using hk2
      obtain ⟨j, h1, h2, h3⟩ := first_of f m k (by omega)
      exact ⟨j, by omega, by rw [h2, hk3], h3⟩
theorem stable {f : Nat → α} {g : Nat → β} {N : Nat} (h : ∀ i j, i < N → j < N → g i = g j → f i = f j) (he : firsts f N = firsts g N) {i j : Nat} (hi : i < N) (hj : j < N) (hf : f i = f j) : g i = g j := by
  obtain ⟨i0, a1, a2, a3⟩ := first_of g (i + 1) i (by omega)
  obtain ⟨j0, b1, b2, b3⟩ := first_of g (j + 1) j (by omega)
  have a4 := firsts_eq N N (by omega) h he i0 (by omega) a3
  have b4 := firsts_eq N N (by omega) h he j0 (by omega) b3
  have e : f i0 = f j0 := by rw [h i0 i (by omega) hi a2, h j0 j (by omega) hj b2, hf]
  have : i0 = j0 := by
    rw [List.all_eq_true] at a4 b4
    rcases Nat.lt_trichotomy i0 j0 with h1 | h1 | h1
    · have := b4 i0 (by simpa using h1); simp [e] at this
    · exact h1
    · have := a4 j0 (by simpa using h1); simp [e] at this
  rw [← a2, ← b2, this]
end
def seen (nx : List (List Nat)) (p : List Int) (i : Nat) : List Int := p.getD i 0 :: (nx.getD i []).map fun k => p.getD k 0
def texts (nx : List (List Nat)) (p : List Int) : List (List Nat) := (List.range nx.length).map fun i => text (seen nx p i)
def split (nx : List (List Nat)) (p : List Int) : List Int := (texts nx p).map fun t => (idx (names (texts nx p)) t : Int)
def cnt (nx : List (List Nat)) (p : List Int) : Nat := (names (texts nx p)).length
structure PartOk (nx : List (List Nat)) (p : List Int) : Prop where
  len : p.length = nx.length
  ok : Ok p
  n : nx.length ≤ 60000
  nx : ∀ r ∈ nx, ∀ k ∈ r, k < nx.length
theorem PartOk.get {nx : List (List Nat)} {p : List Int} (h : PartOk nx p) (i : Nat) : -1 ≤ p.getD i 0 ∧ p.getD i 0 < 65535 := by
  rw [List.getD_eq_getElem?_getD]
  cases e : p[i]? with
  | none => simp
  | some x => exact h.ok x (List.mem_of_getElem? e)
theorem PartOk.seen {nx : List (List Nat)} {p : List Int} (h : PartOk nx p) (i : Nat) : Ok (seen nx p i) := by
  intro x hx
  simp only [Df.seen, List.mem_cons, List.mem_map] at hx
  rcases hx with rfl | ⟨k, _, rfl⟩
  · exact h.get i
  · exact h.get k
theorem split_len (nx : List (List Nat)) (p : List Int) : (split nx p).length = nx.length := by simp [split, texts]
theorem split_get (nx : List (List Nat)) (p : List Int) {i : Nat} (hi : i < nx.length) : (split nx p).getD i 0 = (idx (names (texts nx p)) (text (seen nx p i)) : Int) := by
  rw [List.getD_eq_getElem?_getD, List.getElem?_eq_getElem (by rw [split_len]; exact hi)]
  simp [split, texts]
theorem split_eq {nx : List (List Nat)} {p : List Int} (h : PartOk nx p) {i j : Nat} (hi : i < nx.length) (hj : j < nx.length) : (split nx p).getD i 0 = (split nx p).getD j 0 ↔ seen nx p i = seen nx p j := by
  rw [split_get nx p hi, split_get nx p hj]
  have m : ∀ k, k < nx.length → text (seen nx p k) ∈ names (texts nx p) := fun k hk => (mem_names rfl _).2 (List.mem_map.2 ⟨k, by simpa using hk, rfl⟩)
  constructor
  · intro e
    exact text_inj (h.seen i) (h.seen j) ((idx_inj (m i hi) (m j hj)).1 (by omega))
  · intro e; rw [e]
theorem split_ok {nx : List (List Nat)} {p : List Int} (h : PartOk nx p) : PartOk nx (split nx p) := by
  refine ⟨split_len nx p, ?_, h.n, h.nx⟩
  intro x hx
  simp only [split, List.mem_map] at hx
  obtain ⟨t, ht, rfl⟩ := hx
  have h1 := idx_lt ((mem_names rfl t).2 ht)
  have h2 : (names (texts nx p)).length ≤ nx.length := by
    unfold texts
    rw [names_len]
    have := List.countP_le_length (p := fun i => (List.range i).all fun j => !decide (text (Df.seen nx p j) = text (Df.seen nx p i))) (l := List.range nx.length)
    simpa [firsts] using this
  have := h.n
  omega
theorem cnt_firsts {nx : List (List Nat)} {p : List Int} (h : PartOk nx p) : cnt nx p = firsts (fun i => (split nx p).getD i 0) nx.length := by
  unfold cnt texts
  rw [names_len]
  unfold firsts
  refine List.countP_congr fun i hi => ?_
  have hi' : i < nx.length := by simpa using hi
  simp only [List.all_eq_true, List.mem_range, Bool.not_eq_true', decide_eq_false_iff_not]
  constructor
  · intro H j hj e
    exact H j hj (by rw [(split_eq h (by omega) hi').1 e])
  · intro H j hj e
    exact H j hj ((split_eq h (by omega) hi').2 (text_inj (h.seen j) (h.seen i) e))
theorem cnt_le {nx : List (List Nat)} {p : List Int} (h : PartOk nx p) : cnt nx p ≤ nx.length := by
  rw [cnt_firsts h]
  have := List.countP_le_length (p := fun i => (List.range i).all fun j => !decide ((split nx p).getD j 0 = (split nx p).getD i 0)) (l := List.range nx.length)
  simpa [firsts] using this
theorem split_refine {nx : List (List Nat)} {p : List Int} (h : PartOk nx p) {i j : Nat} (hi : i < nx.length) (hj : j < nx.length) (e : (split nx p).getD i 0 = (split nx p).getD j 0) : p.getD i 0 = p.getD j 0 := by
  have := (split_eq h hi hj).1 e
  simp only [seen, List.cons.injEq] at this
  exact this.1
theorem cnt_mono {nx : List (List Nat)} {p : List Int} (h : PartOk nx p) : cnt nx p ≤ cnt nx (split nx p) := by
  rw [cnt_firsts h, cnt_firsts (split_ok h)]
  exact firsts_le _ nx.length (Nat.le_refl _) (fun i j hi hj e => split_refine (split_ok h) hi hj e)
theorem split_stable {nx : List (List Nat)} {p : List Int} (h : PartOk nx p) (e : cnt nx p = cnt nx (split nx p)) {i j : Nat} (hi : i < nx.length) (hj : j < nx.length) : (split nx p).getD i 0 = (split nx p).getD j 0 ↔ (split nx (split nx p)).getD i 0 = (split nx (split nx p)).getD j 0 := by
  refine ⟨fun h1 => ?_, fun h1 => split_refine (split_ok h) hi hj h1⟩
  rw [cnt_firsts h, cnt_firsts (split_ok h)] at e
  exact stable (f := fun i => (split nx p).getD i 0) (g := fun i => (split nx (split nx p)).getD i 0) (fun i j hi hj e => split_refine (split_ok h) hi hj e) e hi hj h1
def run (nx : List (List Nat)) (i : Nat) (u : List Nat) : Nat := u.foldl (fun i k => (nx.getD i []).getD k 0) i
theorem run_nil (nx : List (List Nat)) (i : Nat) : run nx i [] = i := rfl
theorem run_cons (nx : List (List Nat)) (i k : Nat) (u : List Nat) : run nx i (k :: u) = run nx ((nx.getD i []).getD k 0) u := rfl
theorem get_getD (l : List Nat) {k : Nat} (h : k < l.length) : l[k] = l.getD k 0 := by rw [List.getD_eq_getElem?_getD, List.getElem?_eq_getElem h]; rfl
structure Fine (nx : List (List Nat)) (r p : List Int) : Prop where
  rule : ∀ i j, i < nx.length → j < nx.length → p.getD i 0 = p.getD j 0 → r.getD i 0 = r.getD j 0
  step : ∀ i j, i < nx.length → j < nx.length → p.getD i 0 = p.getD j 0 → (nx.getD i []).map (fun k => p.getD k 0) = (nx.getD j []).map (fun k => p.getD k 0)
  back : ∀ i j, i < nx.length → j < nx.length → (∀ u, (∀ k ∈ u, k < (nx.getD i []).length) → r.getD (run nx i u) 0 = r.getD (run nx j u) 0) → p.getD i 0 = p.getD j 0
structure Way (nx : List (List Nat)) (r p : List Int) : Prop where
  ok : PartOk nx p
  rule : ∀ i j, i < nx.length → j < nx.length → p.getD i 0 = p.getD j 0 → r.getD i 0 = r.getD j 0
  back : ∀ i j, i < nx.length → j < nx.length → (∀ u, (∀ k ∈ u, k < (nx.getD i []).length) → r.getD (run nx i u) 0 = r.getD (run nx j u) 0) → p.getD i 0 = p.getD j 0
theorem way_zero {nx : List (List Nat)} {r : List Int} (h : PartOk nx r) : Way nx r r := ⟨h, fun i j _ _ e => e, fun i j hi hj H => H [] (by simp)⟩
theorem getD_lt {nx : List (List Nat)} (hn : ∀ r ∈ nx, ∀ k ∈ r, k < nx.length) {i k : Nat} (hk : k < (nx.getD i []).length) : (nx.getD i []).getD k 0 < nx.length := by
  rw [List.getD_eq_getElem?_getD (l := nx)] at hk ⊢
  cases e : nx[i]? with
  | none => rw [e] at hk; simp at hk
  | some r =>
    rw [e] at hk
    simp only [Option.getD_some] at hk ⊢
    rw [List.getD_eq_getElem?_getD, List.getElem?_eq_getElem hk, Option.getD_some]
    exact hn r (List.mem_of_getElem? e) _ (List.getElem_mem hk)
theorem Way.split {nx : List (List Nat)} {r p : List Int} (h : Way nx r p) (w : Nat) (hw : ∀ i, i < nx.length → (nx.getD i []).length = w) : Way nx r (split nx p) := by
  refine ⟨split_ok h.ok, fun i j hi hj e => h.rule i j hi hj (split_refine h.ok hi hj e), fun i j hi hj H => (split_eq h.ok hi hj).2 ?_⟩
  unfold seen
  rw [h.back i j hi hj H]
  congr 1
  refine List.ext_getElem (by rw [List.length_map, List.length_map, hw i hi, hw j hj]) fun k h1 h2 => ?_
  rw [List.length_map] at h1 h2
  simp only [List.getElem_map]
  have e1 : (nx.getD i [])[k] = (nx.getD i []).getD k 0 := get_getD _ h1
  have e2 : (nx.getD j [])[k] = (nx.getD j []).getD k 0 := get_getD _ h2
  rw [e1, e2]
  have l1 := getD_lt h.ok.nx h1
  have l2 := getD_lt h.ok.nx h2
  refine h.back _ _ l1 l2 fun u hu => ?_
  have := H (k :: u) (fun x hx => by
    simp only [List.mem_cons] at hx
    rcases hx with rfl | hx
    · exact h1
    · have := hu x hx
      rw [hw _ l1] at this
      rw [hw _ hi]; exact this)
  rw [run_cons, run_cons] at this
  exact this
theorem Way.fine {nx : List (List Nat)} {r p : List Int} (h : Way nx r p) (w : Nat) (hw : ∀ i, i < nx.length → (nx.getD i []).length = w) (e : cnt nx p = cnt nx (Df.split nx p)) : Fine nx r (Df.split nx p) := by
  have h' := h.split w hw
  refine ⟨h'.rule, fun i j hi hj e1 => ?_, h'.back⟩
  have := (split_eq h'.ok hi hj).1 ((split_stable h.ok e hi hj).1 e1)
  simp only [seen, List.cons.injEq] at this
  exact this.2
theorem Fine.run {nx : List (List Nat)} {r p : List Int} (h : Fine nx r p) (hn : ∀ r ∈ nx, ∀ k ∈ r, k < nx.length) (w : Nat) (hw : ∀ i, i < nx.length → (nx.getD i []).length = w) : ∀ (u : List Nat) (i j : Nat), i < nx.length → j < nx.length → (∀ k ∈ u, k < w) → p.getD i 0 = p.getD j 0 → p.getD (Df.run nx i u) 0 = p.getD (Df.run nx j u) 0
  | [], i, j, _, _, _, e => e
  | k :: u, i, j, hi, hj, hu, e => by
    rw [run_cons, run_cons]
    have hk := hu k (by simp)
    have hs := congrArg (fun l => l.getD k 0) (h.step i j hi hj e)
    have k1 : k < (nx.getD i []).length := by rw [hw i hi]; exact hk
    have k2 : k < (nx.getD j []).length := by rw [hw j hj]; exact hk
    have m : ∀ (l : List Nat), k < l.length → (l.map fun k => p.getD k 0).getD k 0 = p.getD (l.getD k 0) 0 := fun l hl => by
      rw [List.getD_eq_getElem?_getD, List.getElem?_map, List.getElem?_eq_getElem hl, List.getD_eq_getElem?_getD (l := l), List.getElem?_eq_getElem hl]
      rfl
    simp only [m _ k1, m _ k2] at hs
    exact h.run hn w hw u _ _ (getD_lt hn k1) (getD_lt hn k2) (fun x hx => hu x (by simp [hx])) hs
end Df
end Go.Proofs.Ythapedadnbkgnaa
