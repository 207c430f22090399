/- Sets of bytes as predicates, and their four words: plain facts. Regular expressions: plain facts: how many nodes one has and how deep it is, what it matches, and the closure of a table. Plain facts on signs of texts (no program is named here): what the functions of layer 1 answer, as functions on lists of bytes. Plain facts on the sign with which a text begins (no program is named here). Plain facts: the document's way to find the sign with which a text begins finds the same one (no program is named here). Plain facts: signs one behind the other, and their edges (no program is named here). -/
import Derived.Test.YthapedadnbkgnaaRows
import Derived.Lib.Hide
import Derived.Laws.BitsAllLaws
import Derived.Laws.BytesArg
import Derived.Lib.Strings
namespace Go.Proofs.Ythapedadnbkgnaa
set_option linter.unusedVariables false
set_option linter.unusedSimpArgs false
def Bs.num (f : Nat → Bool) : Nat → Nat
  | 0 => 0
  | n + 1 => Bs.num f n + if f n then 2 ^ n else 0
theorem Bs.num_lt (f : Nat → Bool) : ∀ n, Bs.num f n < 2 ^ n
  | 0 => by simp [Bs.num]
  | n + 1 => by
    have h := Bs.num_lt f n
    unfold Bs.num
    rw [Nat.pow_succ]
    split <;> omega
theorem Bs.num_bit (f : Nat → Bool) (k : Nat) : ∀ n, (Bs.num f n).testBit k = (decide (k < n) && f k)
  | 0 => by simp [Bs.num]
  | n + 1 => by
    have ih := Bs.num_bit f k n
    have hlt := Bs.num_lt f n
    unfold Bs.num
    by_cases hf : f n = true
    · rw [if_pos hf, Nat.add_comm]
      by_cases hk : k = n
      · subst hk
        rw [Nat.testBit_two_pow_add_eq, ih]; simp [hf]
      · by_cases hkn : k < n
        · rw [Nat.testBit_two_pow_add_gt hkn, ih]
          have : k < n + 1 := by omega
          simp [hkn, this]
        · have h1 : 2 ^ n + Bs.num f n < 2 ^ k := by
            have : 2 ^ (n + 1) ≤ 2 ^ k := Nat.pow_le_pow_right (by decide) (by omega)
            rw [Nat.pow_succ] at this; omega
          rw [Nat.testBit_lt_two_pow h1]
          have : ¬ k < n + 1 := by omega
          simp [this]
    · rw [if_neg hf, Nat.add_zero, ih]
      by_cases hk : k = n
      · subst hk; simp [hf]
      · have : (k < n) = (k < n + 1) := propext (by omega)
        simp [this]
def Bs.word (f : Nat → Bool) (i : Nat) : Nat := Bs.num (fun k => f (64 * i + k)) 64
theorem Bs.word_lt (f : Nat → Bool) (i : Nat) : Bs.word f i < 18446744073709551616 := Bs.num_lt _ 64
theorem Bs.word_bit (f : Nat → Bool) (i k : Nat) : (Bs.word f i).testBit k = (decide (k < 64) && f (64 * i + k)) := Bs.num_bit _ k 64
theorem Bs.bit_lt {x k : Nat} (hx : x < 18446744073709551616) (hk : 64 ≤ k) : x.testBit k = false :=
  Nat.testBit_lt_two_pow (Nat.lt_of_lt_of_le hx (show 2 ^ 64 ≤ 2 ^ k from Nat.pow_le_pow_right (by decide) hk))
theorem Bs.is_word {x : Nat} (hx : x < 18446744073709551616) {f : Nat → Bool} {i : Nat} (h : ∀ k, k < 64 → x.testBit k = f (64 * i + k)) : x = Bs.word f i := by
  apply Nat.eq_of_testBit_eq
  intro k
  rw [Bs.word_bit]
  by_cases hk : k < 64
  · simp [hk, h k hk]
  · rw [Bs.bit_lt hx (by omega)]; simp [hk]
theorem Bs.word_congr {f g : Nat → Bool} {i : Nat} (h : ∀ k, k < 64 → f (64 * i + k) = g (64 * i + k)) : Bs.word f i = Bs.word g i :=
  Bs.is_word (Bs.word_lt f i) fun k hk => by rw [Bs.word_bit]; simp [hk, h k hk]
theorem Bs.word_inj {f g : Nat → Bool} {i : Nat} (h : Bs.word f i = Bs.word g i) (k : Nat) (hk : k < 64) : f (64 * i + k) = g (64 * i + k) := by
  have e := congrArg (fun x => x.testBit k) h
  simp only [Bs.word_bit] at e
  simpa [hk] using e
theorem Bs.and_lt {a b : Nat} (ha : a < 18446744073709551616) : a &&& b < 18446744073709551616 := Nat.lt_of_le_of_lt Nat.and_le_left ha
theorem Bs.or_lt {a b : Nat} (ha : a < 18446744073709551616) (hb : b < 18446744073709551616) : a ||| b < 18446744073709551616 := Nat.or_lt_two_pow (n := 64) ha hb
theorem Bs.word_and (f g : Nat → Bool) (i : Nat) : Bs.word f i &&& Bs.word g i = Bs.word (fun c => f c && g c) i :=
  Bs.is_word (Bs.and_lt (Bs.word_lt f i)) fun k hk => by rw [Nat.testBit_and, Bs.word_bit, Bs.word_bit]; simp [hk]
theorem Bs.word_or (f g : Nat → Bool) (i : Nat) : Bs.word f i ||| Bs.word g i = Bs.word (fun c => f c || g c) i :=
  Bs.is_word (Bs.or_lt (Bs.word_lt f i) (Bs.word_lt g i)) fun k hk => by rw [Nat.testBit_or, Bs.word_bit, Bs.word_bit]; simp [hk]
theorem Bs.not_bit {x k : Nat} (hx : x < 18446744073709551616) : (18446744073709551615 - x).testBit k = (decide (k < 64) && !x.testBit k) := by
  have e : 18446744073709551615 - x = 2 ^ 64 - (x + 1) := by omega
  rw [e, Nat.testBit_two_pow_sub_succ (n := 64) hx]
theorem Bs.word_not (f : Nat → Bool) (i : Nat) : 18446744073709551615 - Bs.word f i = Bs.word (fun c => !f c) i :=
  Bs.is_word (by omega) fun k hk => by rw [Bs.not_bit (Bs.word_lt f i), Bs.word_bit]; simp [hk]
theorem Bs.word_less (f g : Nat → Bool) (i : Nat) : Bs.word f i &&& (18446744073709551615 - Bs.word g i) = Bs.word (fun c => f c && !g c) i := by
  rw [Bs.word_not, Bs.word_and]
theorem Bs.pow_lt {k : Nat} (hk : k < 64) : 2 ^ k < 18446744073709551616 := show 2 ^ k < 2 ^ 64 from Nat.pow_lt_pow_right (by decide) hk
theorem Bs.word_put (f : Nat → Bool) (i k : Nat) (hk : k < 64) : Bs.word f i ||| 2 ^ k = Bs.word (fun c => f c || c == 64 * i + k) i :=
  Bs.is_word (Bs.or_lt (Bs.word_lt f i) (Bs.pow_lt hk)) fun j hj => by
    rw [Nat.testBit_or, Bs.word_bit, Nat.testBit_two_pow]
    have : (decide (k = j)) = (64 * i + j == 64 * i + k) := by rw [Bool.eq_iff_iff]; simp; omega
    simp [hj, this]
theorem Bs.word_far (f : Nat → Bool) (i j k : Nat) (hk : k < 64) (hij : i ≠ j) : Bs.word (fun c => f c || c == 64 * i + k) j = Bs.word f j :=
  Bs.word_congr fun m hm => by
    have : (64 * j + m == 64 * i + k) = false := by simp; omega
    simp [this]
theorem Bs.word_none (i : Nat) : Bs.word (fun _ => false) i = 0 := (Bs.is_word (by decide) fun k _ => by simp).symm
def Bs.val (f : Nat → Bool) : Value := .agg #[.int .u64 (Bs.word f 0), .int .u64 (Bs.word f 1), .int .u64 (Bs.word f 2), .int .u64 (Bs.word f 3)]
theorem Bs.val_congr {f g : Nat → Bool} (h : ∀ c, c < 256 → f c = g c) : Bs.val f = Bs.val g := by
  unfold Bs.val
  rw [Bs.word_congr (f := f) (g := g) (i := 0) fun k hk => h _ (by omega), Bs.word_congr (f := f) (g := g) (i := 1) fun k hk => h _ (by omega), Bs.word_congr (f := f) (g := g) (i := 2) fun k hk => h _ (by omega), Bs.word_congr (f := f) (g := g) (i := 3) fun k hk => h _ (by omega)]
theorem Bs.val_inj {f g : Nat → Bool} (h : Bs.val f = Bs.val g) (c : Nat) (hc : c < 256) : f c = g c := by
  unfold Bs.val at h
  simp at h
  obtain ⟨h0, h1, h2, h3⟩ := h
  have e : c = 64 * (c / 64) + c % 64 := by omega
  have hk : c % 64 < 64 := by omega
  rw [e]
  have hi : c / 64 = 0 ∨ c / 64 = 1 ∨ c / 64 = 2 ∨ c / 64 = 3 := by omega
  rcases hi with hi | hi | hi | hi <;> rw [hi]
  · exact Bs.word_inj (by exact_mod_cast h0) _ hk
  · exact Bs.word_inj (by exact_mod_cast h1) _ hk
  · exact Bs.word_inj (by exact_mod_cast h2) _ hk
  · exact Bs.word_inj (by exact_mod_cast h3) _ hk
theorem Bs.has_word (f : Nat → Bool) (c : Nat) : Bs.word f (c / 64) / 2 ^ (c % 64) % 2 = if f c then 1 else 0 := by
  have h := Bs.word_bit f (c / 64) (c % 64)
  have hk : c % 64 < 64 := by omega
  rw [Nat.testBit_eq_decide_div_mod_eq] at h
  have e : 64 * (c / 64) + c % 64 = c := by omega
  rw [e] at h
  simp only [hk, decide_true, Bool.true_and] at h
  rcases Bool.eq_false_or_eq_true (f c) with hf | hf <;> rw [hf] at h ⊢
  · simpa using h
  · have : ¬ Bs.word f (c / 64) / 2 ^ (c % 64) % 2 = 1 := of_decide_eq_false h
    simp; omega
end Go.Proofs.Ythapedadnbkgnaa
namespace Go.Proofs.Ythapedadnbkgnaa
set_option linter.unusedVariables false
set_option linter.unusedSimpArgs false
inductive Rx where
  | node (kind : Nat) (set : Nat → Bool) (kids : List Rx) : Rx
mutual
def Rx.size : Rx → Nat
  | .node _ _ l => 1 + Rx.sizeL l
def Rx.sizeL : List Rx → Nat
  | [] => 0
  | x :: r => Rx.size x + Rx.sizeL r
end
mutual
def Rx.depth : Rx → Nat
  | .node _ _ l => 1 + Rx.depthL l
def Rx.depthL : List Rx → Nat
  | [] => 0
  | x :: r => max (Rx.depth x) (Rx.depthL r)
end
mutual
def Rx.wf : Rx → Bool
  | .node k _ l => decide (k ≤ 4) && !(decide (k < 2) && decide (0 < l.length)) && !(k == 4 && l.length != 1) && Rx.wfL l
def Rx.wfL : List Rx → Bool
  | [] => true
  | x :: r => Rx.wf x && Rx.wfL r
end
mutual
def Rx.cnt : Rx → Nat → Option Nat
  | .node k _ l, d =>
    if (decide (60 < d) || decide (4 < k) || decide (400 < l.length)) = true then none
    else if (decide (k < 2) && decide (0 < l.length) || k == 4 && l.length != 1) = true then none
    else Rx.cntL l (d + 1) 1
def Rx.cntL : List Rx → Nat → Nat → Option Nat
  | [], _, n => some n
  | x :: r, d, n =>
    match Rx.cnt x d with
    | none => none
    | some k => if 400 < n + k then none else Rx.cntL r d (n + k)
end
theorem Rx.size_pos : ∀ x : Rx, 1 ≤ x.size
  | .node _ _ _ => by simp [Rx.size]
theorem Rx.length_le : ∀ l : List Rx, l.length ≤ Rx.sizeL l
  | [] => by simp [Rx.sizeL]
  | x :: r => by
    have := Rx.size_pos x; have := Rx.length_le r
    simp [Rx.sizeL]; omega
def Rx.may (x : Rx) (d : Nat) : Bool := x.wf && decide (x.depth + d ≤ 61) && decide (x.size ≤ 400)
theorem Rx.may_iff {x : Rx} {d : Nat} : x.may d = true ↔ x.wf = true ∧ x.depth + d ≤ 61 ∧ x.size ≤ 400 := by simp [Rx.may, and_assoc]
inductive Rx.Clo (R : Nat → Nat → Prop) : Nat → Nat → Prop
  | refl (i : Nat) : Rx.Clo R i i
  | step {i j k : Nat} : R i j → Rx.Clo R j k → Rx.Clo R i k
theorem Rx.Clo.trans {R : Nat → Nat → Prop} {i j k : Nat} (h : Rx.Clo R i j) (h' : Rx.Clo R j k) : Rx.Clo R i k := by
  induction h with
  | refl => exact h'
  | step r _ ih => exact .step r (ih h')
theorem Rx.Clo.one {R : Nat → Nat → Prop} {i k : Nat} (h : R i k) : Rx.Clo R i k := .step h (.refl _)
theorem Rx.Clo.of {R S : Nat → Nat → Prop} (hs : ∀ i k, R i k → S i k) {i k : Nat} (h : Rx.Clo R i k) : Rx.Clo S i k := by
  induction h with
  | refl => exact .refl _
  | step r _ ih => exact .step (hs _ _ r) ih
mutual
def Rx.Go (s : Nat → Nat) (n : Nat) : Rx → Nat → Nat → Prop
  | .node 0 _ _, i, k => i = k
  | .node 1 f _, i, k => i < n ∧ k = i + 1 ∧ f (s i) = true
  | .node 2 _ l, i, k => Rx.GoC s n l i k
  | .node 3 _ l, i, k => Rx.GoA s n l i k
  | .node (_ + 4) _ l, i, k => Rx.Clo (Rx.GoA s n l) i k
def Rx.GoC (s : Nat → Nat) (n : Nat) : List Rx → Nat → Nat → Prop
  | [], i, k => i = k
  | x :: r, i, k => ∃ j, Rx.Go s n x i j ∧ Rx.GoC s n r j k
def Rx.GoA (s : Nat → Nat) (n : Nat) : List Rx → Nat → Nat → Prop
  | [], _, _ => False
  | x :: r, i, k => Rx.Go s n x i k ∨ Rx.GoA s n r i k
end
theorem Rx.Clo.up {R : Nat → Nat → Prop} {n : Nat} (h : ∀ i k, R i k → i ≤ k ∧ (i ≤ n → k ≤ n)) {i k : Nat} (hc : Rx.Clo R i k) : i ≤ k ∧ (i ≤ n → k ≤ n) := by
  induction hc with
  | refl => exact ⟨Nat.le_refl _, id⟩
  | step r _ ih => have := h _ _ r; exact ⟨by omega, fun hi => ih.2 (this.2 hi)⟩
mutual
theorem Rx.go_up (s : Nat → Nat) (n : Nat) : ∀ (x : Rx) (i k : Nat), Rx.Go s n x i k → i ≤ k ∧ (i ≤ n → k ≤ n)
  | .node 0 _ _, i, k, h => by simp only [Rx.Go] at h; omega
  | .node 1 f _, i, k, h => by simp only [Rx.Go] at h; omega
  | .node 2 _ l, i, k, h => by simp only [Rx.Go] at h; exact Rx.goC_up s n l i k h
  | .node 3 _ l, i, k, h => by simp only [Rx.Go] at h; exact Rx.goA_up s n l i k h
  | .node (_ + 4) _ l, i, k, h => by simp only [Rx.Go] at h; exact Rx.Clo.up (Rx.goA_up s n l) h
theorem Rx.goC_up (s : Nat → Nat) (n : Nat) : ∀ (l : List Rx) (i k : Nat), Rx.GoC s n l i k → i ≤ k ∧ (i ≤ n → k ≤ n)
  | [], i, k, h => by simp only [Rx.GoC] at h; omega
  | x :: r, i, k, h => by
    simp only [Rx.GoC] at h
    obtain ⟨j, h1, h2⟩ := h
    have := Rx.go_up s n x i j h1; have := Rx.goC_up s n r j k h2
    omega
theorem Rx.goA_up (s : Nat → Nat) (n : Nat) : ∀ (l : List Rx) (i k : Nat), Rx.GoA s n l i k → i ≤ k ∧ (i ≤ n → k ≤ n)
  | [], i, k, h => by simp only [Rx.GoA] at h
  | x :: r, i, k, h => by
    simp only [Rx.GoA] at h
    rcases h with h | h
    · exact Rx.go_up s n x i k h
    · exact Rx.goA_up s n r i k h
end
end Go.Proofs.Ythapedadnbkgnaa
namespace Go.Proofs.Ythapedadnbkgnaa
set_option linter.unusedVariables false
set_option linter.unusedSimpArgs false
namespace Rn
def folI (n : Int) : Bool := decide (128 ≤ n) && decide (n ≤ 191)
def fol (c : UInt8) : Bool := folI c.toNat
def sizeI (n : Int) : Int :=
  if n < 0 ∨ 1114112 ≤ n then 0 else if 55296 ≤ n ∧ n ≤ 57343 then 0 else if n < 128 then 1 else if n < 2048 then 2 else if n < 65536 then 3 else 4
def leadI (k : Int) : Int := if k = 2 then 192 else if k = 3 then 224 else if k = 4 then 240 else 0
def promI (c : Int) : Int := if c < 128 then 1 else if c < 192 then 0 else if c < 224 then 2 else if c < 240 then 3 else if c < 248 then 4 else 0
def signI (n : Int) : Bool := decide (0 ≤ n) && decide (n < 1114112) && !(decide (55296 ≤ n) && decide (n ≤ 57343))
def cnt (l : List UInt8) : Int := (l.countP fun c => !fol c : Nat)
theorem len_data0 (s : ByteArray) : s.data.toList.length = s.size := by simp
def edgeB (s : ByteArray) (i : Int) : Bool := if h : 0 ≤ i ∧ i < s.size then !folI (s[i.toNat]).toNat else decide (i = s.size)
def nxU (s : ByteArray) (i : Int) : Nat → Nat
  | 0 => s.size
  | t + 1 => if (edgeB s ((s.size : Int) - t) && decide (i < (s.size : Int) - t)) = true then s.size - t else nxU s i t
def next (s : ByteArray) (i : Int) : Nat := if i < 0 then 0 else nxU s i (s.size + 1)
def bkU (s : ByteArray) (i : Int) : Nat → Nat
  | 0 => 0
  | t + 1 => if (edgeB s t && decide ((t : Int) < i)) = true then t else bkU s i t
def back (s : ByteArray) (i : Int) : Nat := bkU s i (s.size + 1)
theorem drop_at (s : ByteArray) (k : Nat) (h : k < s.size) : s.data.toList.drop k = s[k] :: s.data.toList.drop (k + 1) := by
  rw [List.drop_eq_getElem_cons (by simpa using h)]; rfl
end Rn
namespace Rn
def dec : Int → List UInt8 → Option Int
  | n, [] => some n
  | n, c :: t => if folI c.toNat = true then dec (n * 64 + c.toNat - 128) t else none
def fin (k : Int) : Option Int → Int × Int
  | none => (-1, 0)
  | some n => if sizeI n = k then (n, k) else (-1, 0)
def firstL : List UInt8 → Int × Int
  | [] => (-1, 0)
  | c :: t => if promI c.toNat = 0 ∨ ((c :: t).length : Int) < promI c.toNat then (-1, 0) else fin (promI c.toNat) (dec (c.toNat - leadI (promI c.toNat)) (((c :: t).take (promI c.toNat).toNat).drop 1))
theorem firstL_cons (c : UInt8) (t : List UInt8) : firstL (c :: t) = if promI c.toNat = 0 ∨ ((c :: t).length : Int) < promI c.toNat then (-1, 0) else fin (promI c.toNat) (dec (c.toNat - leadI (promI c.toNat)) (((c :: t).take (promI c.toNat).toNat).drop 1)) := rfl
theorem prom_bd (c : Int) : 0 ≤ promI c ∧ promI c ≤ 4 := by unfold promI; (repeat' split) <;> omega
theorem lead_bd (c : Int) : 0 ≤ leadI c ∧ leadI c ≤ 240 := by unfold leadI; (repeat' split) <;> omega
def bd : Nat → Int
  | 0 => 256
  | j + 1 => 64 * bd j + 64
theorem bd_le (j : Nat) (h : j ≤ 3) : 256 ≤ bd j ∧ bd j ≤ 134217728 := by
  match j, h with
  | 0, _ => simp [bd]
  | 1, _ => simp [bd]
  | 2, _ => simp [bd]
  | 3, _ => simp [bd]
theorem list0 (s : ByteArray) (h : 0 < s.size) : s.data.toList = s[0] :: s.data.toList.drop 1 := by
  have := drop_at s 0 h; simpa using this
theorem len_data (s : ByteArray) : s.data.toList.length = s.size := by simp
theorem firstL_nil (s : ByteArray) (h : s.size = 0) : firstL s.data.toList = (-1, 0) := by
  have : s.data.toList = [] := List.eq_nil_of_length_eq_zero (by rw [len_data]; exact h)
  rw [this]; rfl
theorem firstL_no (s : ByteArray) (h : 0 < s.size) (hp : promI s[0].toNat = 0 ∨ (s.size : Int) < promI s[0].toNat) : firstL s.data.toList = (-1, 0) := by
  have e := list0 s h
  have hl : ((s[0] :: s.data.toList.drop 1).length : Int) = s.size := by rw [← e, len_data]
  rw [e, firstL_cons, hl, if_pos hp]
theorem firstL_yes (s : ByteArray) (h : 0 < s.size) (hp : ¬ (promI s[0].toNat = 0 ∨ (s.size : Int) < promI s[0].toNat)) :
    firstL s.data.toList = fin (promI s[0].toNat) (dec (s[0].toNat - leadI (promI s[0].toNat)) ((s.data.toList.take (promI s[0].toNat).toNat).drop 1)) := by
  have e := list0 s h
  have hl : ((s[0] :: s.data.toList.drop 1).length : Int) = s.size := by rw [← e, len_data]
  have : firstL (s[0] :: s.data.toList.drop 1) = fin (promI s[0].toNat) (dec (s[0].toNat - leadI (promI s[0].toNat)) (((s[0] :: s.data.toList.drop 1).take (promI s[0].toNat).toNat).drop 1)) := by
    rw [firstL_cons, hl, if_neg hp]
  rw [← e] at this; exact this
theorem take_drop_at (s : ByteArray) (k j : Nat) (h : j < k) (hk : k ≤ s.size) : (s.data.toList.take k).drop j = s[j] :: (s.data.toList.take k).drop (j + 1) := by
  rw [List.drop_eq_getElem_cons (by simp; omega)]; congr 1; simp; rfl
theorem take_drop_end (s : ByteArray) (k : Nat) : (s.data.toList.take k).drop k = [] := List.drop_eq_nil_of_le (by simp; omega)
theorem firstL_bd (l : List UInt8) : 0 ≤ (firstL l).2 ∧ (firstL l).2 ≤ l.length := by
  cases l with
  | nil => simp [firstL]
  | cons c t =>
    rw [firstL_cons]
    have := prom_bd c.toNat
    split
    · simp; omega
    · rename_i h
      cases dec (c.toNat - leadI (promI c.toNat)) (((c :: t).take (promI c.toNat).toNat).drop 1) with
      | none => simp [fin]; omega
      | some n => simp only [fin]; split <;> simp only [] <;> omega
def bytesI (n : Int) : List Int :=
  if signI n = true then
    if n < 128 then [n] else if n < 2048 then [192 + n / 64, 128 + n % 64]
    else if n < 65536 then [224 + n / 4096, 128 + n / 64 % 64, 128 + n % 64]
    else [240 + n / 262144, 128 + n / 4096 % 64, 128 + n / 64 % 64, 128 + n % 64]
  else []
theorem bytesI_1 (n : Int) (h : 0 ≤ n ∧ n < 128) : signI n = true ∧ bytesI n = [n] ∧ sizeI n = 1 := by
  have hs : signI n = true := by simp [signI]; omega
  refine ⟨hs, ?_, ?_⟩
  · unfold bytesI; rw [if_pos hs, if_pos (by omega)]
  · unfold sizeI; rw [if_neg (by omega), if_neg (by omega), if_pos (by omega)]
theorem bytesI_2 (n : Int) (h : 128 ≤ n ∧ n < 2048) : signI n = true ∧ bytesI n = [192 + n / 64, 128 + n % 64] ∧ sizeI n = 2 := by
  have hs : signI n = true := by simp [signI]; omega
  refine ⟨hs, ?_, ?_⟩
  · unfold bytesI; rw [if_pos hs, if_neg (by omega), if_pos (by omega)]
  · unfold sizeI; rw [if_neg (by omega), if_neg (by omega), if_neg (by omega), if_pos (by omega)]
theorem bytesI_3 (n : Int) (h : 2048 ≤ n ∧ n < 65536) (h2 : ¬ (55296 ≤ n ∧ n ≤ 57343)) : signI n = true ∧ bytesI n = [224 + n / 4096, 128 + n / 64 % 64, 128 + n % 64] ∧ sizeI n = 3 := by
  have hs : signI n = true := by simp [signI]; omega
  refine ⟨hs, ?_, ?_⟩
  · unfold bytesI; rw [if_pos hs, if_neg (by omega), if_neg (by omega), if_pos (by omega)]
  · unfold sizeI; rw [if_neg (by omega), if_neg (by omega), if_neg (by omega), if_neg (by omega), if_pos (by omega)]
theorem bytesI_4 (n : Int) (h : 65536 ≤ n ∧ n < 1114112) : signI n = true ∧ bytesI n = [240 + n / 262144, 128 + n / 4096 % 64, 128 + n / 64 % 64, 128 + n % 64] ∧ sizeI n = 4 := by
  have hs : signI n = true := by simp [signI]; omega
  refine ⟨hs, ?_, ?_⟩
  · unfold bytesI; rw [if_pos hs, if_neg (by omega), if_neg (by omega), if_neg (by omega)]
  · unfold sizeI; rw [if_neg (by omega), if_neg (by omega), if_neg (by omega), if_neg (by omega), if_neg (by omega)]
theorem bytesI_0 (n : Int) (h : ¬ (0 ≤ n ∧ n < 1114112 ∧ ¬ (55296 ≤ n ∧ n ≤ 57343))) : signI n = false ∧ bytesI n = [] ∧ sizeI n = 0 := by
  have hs : signI n = false := by rw [← Bool.not_eq_true]; simp [signI]; omega
  refine ⟨hs, ?_, ?_⟩
  · unfold bytesI; rw [hs]; simp
  · unfold sizeI; (repeat' split) <;> omega
def wholeN : Nat → List UInt8 → Bool
  | 0, l => l.isEmpty
  | f + 1, l => if (firstL l).2 ≤ 0 then l.isEmpty else wholeN f (l.drop (firstL l).2.toNat)
def wholeL (l : List UInt8) : Bool := wholeN l.length l
theorem wholeN_is (f : Nat) : ∀ l : List UInt8, l.length ≤ f → wholeN f l = wholeN l.length l := by
  induction f using Nat.strongRecOn with
  | _ f ih =>
    intro l h
    cases f with
    | zero => rw [Nat.le_zero.1 h]
    | succ f =>
      cases hl : l.length with
      | zero =>
        have : l = [] := List.eq_nil_of_length_eq_zero hl
        subst this; rfl
      | succ n =>
        unfold wholeN
        split
        · rfl
        · have hk := firstL_bd l
          have hd : (l.drop (firstL l).2.toNat).length ≤ n := by rw [List.length_drop]; omega
          rw [ih f (by omega) _ (by omega), ih n (by omega) _ hd]
theorem wholeL_eq (l : List UInt8) : wholeL l = if (firstL l).2 ≤ 0 then l.isEmpty else wholeL (l.drop (firstL l).2.toNat) := by
  have h1 : wholeL l = wholeN (l.length + 1) l := (wholeN_is _ l (by omega)).symm
  rw [h1]
  show (if (firstL l).2 ≤ 0 then l.isEmpty else wholeN l.length (l.drop (firstL l).2.toNat)) = _
  split
  · rfl
  · exact wholeN_is _ _ (by rw [List.length_drop]; omega)
end Rn
namespace Rn
def toI (c : UInt8) : Int := c.toNat
def numL : List UInt8 → Nat → Int
  | c0 :: _, 1 => c0.toNat
  | c0 :: c1 :: _, 2 => 64 * (c0.toNat - 192) + c1.toNat % 64
  | c0 :: c1 :: c2 :: _, 3 => 64 * (64 * (c0.toNat - 224) + c1.toNat % 64) + c2.toNat % 64
  | c0 :: c1 :: c2 :: c3 :: _, 4 => 64 * (64 * (64 * (c0.toNat - 240) + c1.toNat % 64) + c2.toNat % 64) + c3.toNat % 64
  | _, _ => 0
theorem size_cases {n k : Int} (h : sizeI n = k) (hk : 1 ≤ k) :
    (k = 1 ∧ 0 ≤ n ∧ n < 128) ∨ (k = 2 ∧ 128 ≤ n ∧ n < 2048) ∨ (k = 3 ∧ 2048 ≤ n ∧ n < 65536 ∧ ¬ (55296 ≤ n ∧ n ≤ 57343)) ∨ (k = 4 ∧ 65536 ≤ n ∧ n < 1114112) := by
  unfold sizeI at h; (repeat' split at h) <;> omega
theorem sign_cases {n : Int} (h : signI n = true) :
    (0 ≤ n ∧ n < 128) ∨ (128 ≤ n ∧ n < 2048) ∨ (2048 ≤ n ∧ n < 65536 ∧ ¬ (55296 ≤ n ∧ n ≤ 57343)) ∨ (65536 ≤ n ∧ n < 1114112) := by
  simp [signI] at h; omega
theorem prom_2 {c : Int} (h : 192 ≤ c ∧ c < 224) : promI c = 2 := by unfold promI; rw [if_neg (by omega), if_neg (by omega), if_pos (by omega)]
theorem prom_3 {c : Int} (h : 224 ≤ c ∧ c < 240) : promI c = 3 := by unfold promI; rw [if_neg (by omega), if_neg (by omega), if_neg (by omega), if_pos (by omega)]
theorem prom_4 {c : Int} (h : 240 ≤ c ∧ c < 248) : promI c = 4 := by unfold promI; rw [if_neg (by omega), if_neg (by omega), if_neg (by omega), if_neg (by omega), if_pos (by omega)]
theorem prom_1 {c : Int} (h : c < 128) : promI c = 1 := by unfold promI; rw [if_pos (by omega)]
theorem prom_cases {c : Int} (h : promI c ≠ 0) : (promI c = 1 ∧ c < 128) ∨ (promI c = 2 ∧ 192 ≤ c ∧ c < 224) ∨ (promI c = 3 ∧ 224 ≤ c ∧ c < 240) ∨ (promI c = 4 ∧ 240 ≤ c ∧ c < 248) := by
  unfold promI at h ⊢; (repeat' split at h) <;> first | omega | (simp_all; done) | (simp_all; omega)
theorem lead_1 : leadI 1 = 0 := by decide
theorem lead_2 : leadI 2 = 192 := by decide
theorem lead_3 : leadI 3 = 224 := by decide
theorem lead_4 : leadI 4 = 240 := by decide
theorem fol_of {c : UInt8} (h : 128 ≤ (c.toNat : Int) ∧ (c.toNat : Int) ≤ 191) : folI c.toNat = true := by simp [folI]; omega
theorem of_fol {c : UInt8} (h : folI c.toNat = true) : 128 ≤ (c.toNat : Int) ∧ (c.toNat : Int) ≤ 191 := by simpa [folI] using h
theorem first_of_1 (c0 : UInt8) (t : List UInt8) (n : Int) (hn : 0 ≤ n ∧ n < 128) (h0 : (c0.toNat : Int) = n) : firstL (c0 :: t) = (n, 1) := by
  have hp : promI c0.toNat = 1 := prom_1 (by omega)
  rw [firstL_cons, hp, if_neg (by simp; omega), lead_1]
  have hs := (bytesI_1 n hn).2.2
  simp [dec, fin, h0, hs]
theorem first_of_2 (c0 c1 : UInt8) (t : List UInt8) (n : Int) (hn : 128 ≤ n ∧ n < 2048) (h0 : (c0.toNat : Int) = 192 + n / 64) (h1 : (c1.toNat : Int) = 128 + n % 64) : firstL (c0 :: c1 :: t) = (n, 2) := by
  have hp : promI c0.toNat = 2 := prom_2 (by omega)
  have f1 := fol_of (c := c1) (by omega)
  rw [firstL_cons, hp, if_neg (by simp; omega), lead_2]
  have hs := (bytesI_2 n hn).2.2
  have e : ((c0.toNat : Int) - 192) * 64 + c1.toNat - 128 = n := by omega
  simp [dec, fin, f1, e, hs]
theorem first_of_3 (c0 c1 c2 : UInt8) (t : List UInt8) (n : Int) (hn : 2048 ≤ n ∧ n < 65536) (hn2 : ¬ (55296 ≤ n ∧ n ≤ 57343)) (h0 : (c0.toNat : Int) = 224 + n / 4096) (h1 : (c1.toNat : Int) = 128 + n / 64 % 64) (h2 : (c2.toNat : Int) = 128 + n % 64) : firstL (c0 :: c1 :: c2 :: t) = (n, 3) := by
  have hp : promI c0.toNat = 3 := prom_3 (by omega)
  have f1 := fol_of (c := c1) (by omega)
  have f2 := fol_of (c := c2) (by omega)
  rw [firstL_cons, hp, if_neg (by simp; omega), lead_3]
  have hs := (bytesI_3 n hn hn2).2.2
  have e : (((c0.toNat : Int) - 224) * 64 + c1.toNat - 128) * 64 + c2.toNat - 128 = n := by omega
  simp [dec, fin, f1, f2, e, hs]
theorem first_of_4 (c0 c1 c2 c3 : UInt8) (t : List UInt8) (n : Int) (hn : 65536 ≤ n ∧ n < 1114112) (h0 : (c0.toNat : Int) = 240 + n / 262144) (h1 : (c1.toNat : Int) = 128 + n / 4096 % 64) (h2 : (c2.toNat : Int) = 128 + n / 64 % 64) (h3 : (c3.toNat : Int) = 128 + n % 64) : firstL (c0 :: c1 :: c2 :: c3 :: t) = (n, 4) := by
  have hp : promI c0.toNat = 4 := prom_4 (by omega)
  have f1 := fol_of (c := c1) (by omega)
  have f2 := fol_of (c := c2) (by omega)
  have f3 := fol_of (c := c3) (by omega)
  rw [firstL_cons, hp, if_neg (by simp; omega), lead_4]
  have hs := (bytesI_4 n hn).2.2
  have e : ((((c0.toNat : Int) - 240) * 64 + c1.toNat - 128) * 64 + c2.toNat - 128) * 64 + c3.toNat - 128 = n := by omega
  simp [dec, fin, f1, f2, f3, e, hs]
theorem shape1 {t : List UInt8} (h : 1 ≤ t.length) : ∃ c1 t', t = c1 :: t' := by
  cases t with
  | nil => simp at h
  | cons c t => exact ⟨c, t, rfl⟩
theorem first_of (n : Int) (hs : signI n = true) (l : List UInt8) (k : Nat) (hk : 1 ≤ k) (hl : k ≤ l.length) (hb : bytesI n = (l.take k).map toI) : firstL l = (n, (k : Int)) := by
  rcases sign_cases hs with h | h | ⟨h, h2, h3⟩ | h
  · rw [(bytesI_1 n h).2.1] at hb
    match l, k, hk, hl with
    | [], _, hk, hl => simp at hl; omega
    | c0 :: t, 1, _, _ => simp [toI] at hb; exact first_of_1 c0 t n h hb.symm
    | c0 :: c1 :: t, k + 2, _, _ => simp at hb
  · rw [(bytesI_2 n h).2.1] at hb
    match l, k, hk, hl with
    | [], _, hk, hl => simp at hl; omega
    | c0 :: t, 1, _, _ => simp at hb
    | c0 :: c1 :: t, 2, _, _ => simp [toI] at hb; exact first_of_2 c0 c1 t n h hb.1.symm hb.2.symm
    | c0 :: c1 :: c2 :: t, k + 3, _, _ => simp at hb
  · rw [(bytesI_3 n ⟨h, h2⟩ h3).2.1] at hb
    match l, k, hk, hl with
    | [], _, hk, hl => simp at hl; omega
    | c0 :: t, 1, _, _ => simp at hb
    | c0 :: c1 :: t, 2, _, _ => simp at hb
    | c0 :: c1 :: c2 :: t, 3, _, _ => simp [toI] at hb; exact first_of_3 c0 c1 c2 t n ⟨h, h2⟩ h3 hb.1.symm hb.2.1.symm hb.2.2.symm
    | c0 :: c1 :: c2 :: c3 :: t, k + 4, _, _ => simp at hb
  · rw [(bytesI_4 n h).2.1] at hb
    match l, k, hk, hl with
    | [], _, hk, hl => simp at hl; omega
    | c0 :: t, 1, _, _ => simp at hb
    | c0 :: c1 :: t, 2, _, _ => simp at hb
    | c0 :: c1 :: c2 :: t, 3, _, _ => simp at hb
    | c0 :: c1 :: c2 :: c3 :: t, 4, _, _ => simp [toI] at hb; exact first_of_4 c0 c1 c2 c3 t n h hb.1.symm hb.2.1.symm hb.2.2.1.symm hb.2.2.2.symm
    | c0 :: c1 :: c2 :: c3 :: c4 :: t, k + 5, _, _ => simp at hb
theorem of_first (l : List UInt8) (n k : Int) (h : firstL l = (n, k)) (hk : 0 < k) :
    signI n = true ∧ ∃ j : Nat, k = j ∧ 1 ≤ j ∧ j ≤ 4 ∧ j ≤ l.length ∧ bytesI n = (l.take j).map toI ∧ numL l j = n ∧ 0 ≤ ((l.getD 0 0).toNat : Int) - leadI j := by
  cases l with
  | nil => simp [firstL] at h; omega
  | cons c0 t =>
    rw [firstL_cons] at h
    by_cases hp : promI c0.toNat = 0 ∨ ((c0 :: t).length : Int) < promI c0.toNat
    · rw [if_pos hp] at h; simp at h; omega
    rw [if_neg hp] at h
    cases hd : dec (c0.toNat - leadI (promI c0.toNat)) (((c0 :: t).take (promI c0.toNat).toNat).drop 1) with
    | none => rw [hd] at h; simp [fin] at h; omega
    | some m =>
      rw [hd] at h; simp only [fin] at h
      by_cases hz : sizeI m = promI c0.toNat
      · rw [if_pos hz] at h
        simp only [Prod.mk.injEq] at h
        obtain ⟨rfl, rfl⟩ := h
        have hlen : promI c0.toNat ≤ ((c0 :: t).length : Int) := by omega
        rcases prom_cases (c := c0.toNat) (by omega) with ⟨e, hc⟩ | ⟨e, hc⟩ | ⟨e, hc⟩ | ⟨e, hc⟩
        · rw [e] at hz hd hlen ⊢
          rw [lead_1] at hd; simp [dec] at hd
          have hr : 0 ≤ m ∧ m < 128 := by rcases size_cases hz (by omega) with h | h | h | h <;> omega
          refine ⟨(bytesI_1 m hr).1, 1, rfl, by omega, by omega, by simp, ?_, ?_, ?_⟩
          · rw [(bytesI_1 m hr).2.1]; simp [toI, hd]
          · simp [numL, hd]
          · simp [lead_1]
        · rw [e] at hz hd hlen ⊢
          have hr : 128 ≤ m ∧ m < 2048 := by rcases size_cases hz (by omega) with h | h | h | h <;> omega
          obtain ⟨c1, t, rfl⟩ := shape1 (t := t) (by simp at hlen; omega)
          · rw [lead_2] at hd; have hdl : ((c0 :: c1 :: t).take ((2 : Int)).toNat).drop 1 = [c1] := rfl
            rw [hdl] at hd; simp only [dec] at hd
            by_cases f1 : folI c1.toNat = true
            · simp only [f1, if_true, Option.some.injEq] at hd
              have g1 := of_fol f1
              refine ⟨(bytesI_2 m hr).1, 2, rfl, by omega, by omega, by simp, ?_, ?_, ?_⟩
              · rw [(bytesI_2 m hr).2.1]; simp [toI]; omega
              · simp only [numL]; omega
              · simp [lead_2]; omega
            · simp [f1] at hd
        · rw [e] at hz hd hlen ⊢
          have hr : (2048 ≤ m ∧ m < 65536) ∧ ¬ (55296 ≤ m ∧ m ≤ 57343) := by rcases size_cases hz (by omega) with h | h | h | h <;> omega
          obtain ⟨c1, t, rfl⟩ := shape1 (t := t) (by simp at hlen; omega)
          obtain ⟨c2, t, rfl⟩ := shape1 (t := t) (by simp at hlen; omega)
          · rw [lead_3] at hd; have hdl : ((c0 :: c1 :: c2 :: t).take ((3 : Int)).toNat).drop 1 = [c1, c2] := rfl
            rw [hdl] at hd; simp only [dec] at hd
            by_cases f1 : folI c1.toNat = true
            · by_cases f2 : folI c2.toNat = true
              · simp only [f1, f2, if_true, Option.some.injEq] at hd
                have g1 := of_fol f1
                have g2 := of_fol f2
                refine ⟨(bytesI_3 m hr.1 hr.2).1, 3, rfl, by omega, by omega, by simp, ?_, ?_, ?_⟩
                · rw [(bytesI_3 m hr.1 hr.2).2.1]; simp [toI]; omega
                · simp only [numL]; omega
                · simp [lead_3]; omega
              · simp [f1, f2] at hd
            · simp [f1] at hd
        · rw [e] at hz hd hlen ⊢
          have hr : 65536 ≤ m ∧ m < 1114112 := by rcases size_cases hz (by omega) with h | h | h | h <;> omega
          obtain ⟨c1, t, rfl⟩ := shape1 (t := t) (by simp at hlen; omega)
          obtain ⟨c2, t, rfl⟩ := shape1 (t := t) (by simp at hlen; omega)
          obtain ⟨c3, t, rfl⟩ := shape1 (t := t) (by simp at hlen; omega)
          · rw [lead_4] at hd; have hdl : ((c0 :: c1 :: c2 :: c3 :: t).take ((4 : Int)).toNat).drop 1 = [c1, c2, c3] := rfl
            rw [hdl] at hd; simp only [dec] at hd
            by_cases f1 : folI c1.toNat = true
            · by_cases f2 : folI c2.toNat = true
              · by_cases f3 : folI c3.toNat = true
                · simp only [f1, f2, f3, if_true, Option.some.injEq] at hd
                  have g1 := of_fol f1
                  have g2 := of_fol f2
                  have g3 := of_fol f3
                  refine ⟨(bytesI_4 m hr).1, 4, rfl, by omega, by omega, by simp, ?_, ?_, ?_⟩
                  · rw [(bytesI_4 m hr).2.1]; simp [toI]; omega
                  · simp only [numL]; omega
                  · simp [lead_4]; omega
                · simp [f1, f2, f3] at hd
              · simp [f1, f2] at hd
            · simp [f1] at hd
      · rw [if_neg hz] at h; simp at h; omega
theorem bytesI_byte (n : Int) : ∀ x ∈ bytesI n, 0 ≤ x ∧ x < 256 := by
  by_cases hs : signI n = true
  · rcases sign_cases hs with h | h | ⟨h, h2, h3⟩ | h
    · rw [(bytesI_1 n h).2.1]; simp; omega
    · rw [(bytesI_2 n h).2.1]; simp; omega
    · rw [(bytesI_3 n ⟨h, h2⟩ h3).2.1]; simp; omega
    · rw [(bytesI_4 n h).2.1]; simp; omega
  · unfold bytesI; rw [if_neg hs]; simp
theorem map_back (xs : List Int) (l : List UInt8) (h : ∀ x ∈ xs, 0 ≤ x ∧ x < 256) : (xs.map fun n => UInt8.ofNat n.toNat) = l ↔ xs = l.map toI := by
  induction xs generalizing l with
  | nil => cases l <;> simp
  | cons x xs ih =>
    cases l with
    | nil => simp
    | cons c t =>
      have hx := h x (by simp)
      have := ih t (fun y hy => h y (by simp [hy]))
      simp only [List.map_cons, List.cons.injEq, this]
      refine and_congr ?_ Iff.rfl
      unfold toI
      constructor
      · intro e; rw [← e, UInt8.toNat_ofNat']; omega
      · intro e; apply UInt8.toNat.inj; rw [UInt8.toNat_ofNat']; omega
end Rn
namespace Rn
def blk (n : Int) : List UInt8 := (bytesI n).map fun n => UInt8.ofNat n.toNat
def cat : List Int → List UInt8
  | [] => []
  | n :: ns => blk n ++ cat ns
theorem blk_form (n : Int) (h : signI n = true) : ∃ c t, blk n = c :: t ∧ folI c.toNat = false ∧ ∀ x ∈ t, folI x.toNat = true := by
  have hb := (map_back (bytesI n) (blk n) (bytesI_byte n)).1 rfl
  rcases sign_cases h with h | h | ⟨h, h2, h3⟩ | h
  · rw [(bytesI_1 n h).2.1] at hb
    cases hl : blk n with
    | nil => rw [hl] at hb; simp at hb
    | cons c t =>
      rw [hl] at hb; simp [toI] at hb
      obtain ⟨h0, rfl⟩ := hb
      exact ⟨c, [], rfl, by simp [folI]; omega, by simp⟩
  · rw [(bytesI_2 n h).2.1] at hb
    match hl : blk n with
    | [] => rw [hl] at hb; simp at hb
    | [c] => rw [hl] at hb; simp at hb
    | c :: c1 :: t =>
      rw [hl] at hb; simp [toI] at hb
      obtain ⟨h0, h1, rfl⟩ := hb
      refine ⟨c, [c1], rfl, by simp [folI]; omega, ?_⟩
      intro x hx; simp at hx; subst hx; exact fol_of (by omega)
  · rw [(bytesI_3 n ⟨h, h2⟩ h3).2.1] at hb
    match hl : blk n with
    | [] => rw [hl] at hb; simp at hb
    | [c] => rw [hl] at hb; simp at hb
    | [c, c1] => rw [hl] at hb; simp at hb
    | c :: c1 :: c2 :: t =>
      rw [hl] at hb; simp [toI] at hb
      obtain ⟨h0, h1, h4, rfl⟩ := hb
      refine ⟨c, [c1, c2], rfl, by simp [folI]; omega, ?_⟩
      intro x hx; simp at hx
      rcases hx with rfl | rfl <;> exact fol_of (by omega)
  · rw [(bytesI_4 n h).2.1] at hb
    match hl : blk n with
    | [] => rw [hl] at hb; simp at hb
    | [c] => rw [hl] at hb; simp at hb
    | [c, c1] => rw [hl] at hb; simp at hb
    | [c, c1, c2] => rw [hl] at hb; simp at hb
    | c :: c1 :: c2 :: c3 :: t =>
      rw [hl] at hb; simp [toI] at hb
      obtain ⟨h0, h1, h4, h5, rfl⟩ := hb
      refine ⟨c, [c1, c2, c3], rfl, by simp [folI]; omega, ?_⟩
      intro x hx; simp at hx
      rcases hx with rfl | rfl | rfl <;> exact fol_of (by omega)
theorem blk_first (n : Int) (h : signI n = true) (r : List UInt8) : firstL (blk n ++ r) = (n, ((blk n).length : Int)) := by
  obtain ⟨c, t, hc, _⟩ := blk_form n h
  have hp : 1 ≤ (blk n).length := by rw [hc]; simp
  refine first_of n h _ _ hp (by simp) ?_
  rw [List.take_left' rfl]
  exact (map_back _ _ (bytesI_byte n)).1 rfl
def Signs (ns : List Int) : Prop := ∀ n ∈ ns, signI n = true
end Rn
end Go.Proofs.Ythapedadnbkgnaa
