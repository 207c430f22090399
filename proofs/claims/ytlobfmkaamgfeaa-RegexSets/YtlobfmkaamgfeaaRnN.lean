/- Plain facts on the sign with which a text begins (no program is named here). -/
import Derived.Test.YtlobfmkaamgfeaaRnM
namespace Go.Proofs.Ytlobfmkaamgfeaa
set_option linter.unusedVariables false
set_option linter.unusedSimpArgs false
namespace Rn
/-- the number that followers make of what the first byte has -/
def dec : Int → List UInt8 → Option Int
  | n, [] => some n
  | n, c :: t => if folI c.toNat = true then dec (n * 64 + c.toNat - 128) t else none
def fin (k : Int) : Option Int → Int × Int
  | none => (-1, 0)
  | some n => if sizeI n = k then (n, k) else (-1, 0)
def firstL : List UInt8 → Int × Int
  | [] => (-1, 0)
  | c :: t => if promI c.toNat = 0 ∨ ((c :: t).length : Int) < promI c.toNat then (-1, 0) else fin (promI c.toNat) (dec (c.toNat - leadI (promI c.toNat)) (((c :: t).take (promI c.toNat).toNat).drop 1))
theorem firstL_cons (c : UInt8) (t : List UInt8) : firstL (c :: t) = if promI c.toNat = 0 ∨ ((c :: t).length : Int) < promI c.toNat then (-1, 0) else fin (promI c.toNat) (dec (c.toNat - leadI (promI c.toNat)) (((c :: t).take (promI c.toNat).toNat).drop 1)) := rfl
theorem prom_bd (c : Int) : 0 ≤ promI c ∧ promI c ≤ 4 := by unfold promI; (repeat' split) <;> omega
theorem lead_bd (c : Int) : 0 ≤ leadI c ∧ leadI c ≤ 240 := by unfold leadI; (repeat' split) <;> omega
def bd : Nat → Int
  | 0 => 256
  | j + 1 => 64 * bd j + 64
theorem bd_le (j : Nat) (h : j ≤ 3) : 256 ≤ bd j ∧ bd j ≤ 134217728 := by
  match j, h with
  | 0, _ => simp [bd]
  | 1, _ => simp [bd]
  | 2, _ => simp [bd]
  | 3, _ => simp [bd]
theorem list0 (s : ByteArray) (h : 0 < s.size) : s.data.toList = s[0] :: s.data.toList.drop 1 := by
  have := drop_at s 0 h; simpa using this
theorem len_data (s : ByteArray) : s.data.toList.length = s.size := by simp
theorem firstL_nil (s : ByteArray) (h : s.size = 0) : firstL s.data.toList = (-1, 0) := by
  have : s.data.toList = [] := List.eq_nil_of_length_eq_zero (by rw [len_data]; exact h)
  rw [this]; rfl
theorem firstL_no (s : ByteArray) (h : 0 < s.size) (hp : promI s[0].toNat = 0 ∨ (s.size : Int) < promI s[0].toNat) : firstL s.data.toList = (-1, 0) := by
  have e := list0 s h
  have hl : ((s[0] :: s.data.toList.drop 1).length : Int) = s.size := by rw [← e, len_data]
  rw [e, firstL_cons, hl, if_pos hp]
theorem firstL_yes (s : ByteArray) (h : 0 < s.size) (hp : ¬ (promI s[0].toNat = 0 ∨ (s.size : Int) < promI s[0].toNat)) :
    firstL s.data.toList = fin (promI s[0].toNat) (dec (s[0].toNat - leadI (promI s[0].toNat)) ((s.data.toList.take (promI s[0].toNat).toNat).drop 1)) := by
  have e := list0 s h
  have hl : ((s[0] :: s.data.toList.drop 1).length : Int) = s.size := by rw [← e, len_data]
  have : firstL (s[0] :: s.data.toList.drop 1) = fin (promI s[0].toNat) (dec (s[0].toNat - leadI (promI s[0].toNat)) (((s[0] :: s.data.toList.drop 1).take (promI s[0].toNat).toNat).drop 1)) := by
    rw [firstL_cons, hl, if_neg hp]
  rw [← e] at this; exact this
theorem take_drop_at (s : ByteArray) (k j : Nat) (h : j < k) (hk : k ≤ s.size) : (s.data.toList.take k).drop j = s[j] :: (s.data.toList.take k).drop (j + 1) := by
  rw [List.drop_eq_getElem_cons (by simp; omega)]; congr 1; simp; rfl
theorem take_drop_end (s : ByteArray) (k : Nat) : (s.data.toList.take k).drop k = [] := List.drop_eq_nil_of_le (by simp; omega)
theorem firstL_bd (l : List UInt8) : 0 ≤ (firstL l).2 ∧ (firstL l).2 ≤ l.length := by
  cases l with
  | nil => simp [firstL]
  | cons c t =>
    rw [firstL_cons]
    have := prom_bd c.toNat
    split
    · simp; omega
    · rename_i h
      cases dec (c.toNat - leadI (promI c.toNat)) (((c :: t).take (promI c.toNat).toNat).drop 1) with
      | none => simp [fin]; omega
      | some n => simp only [fin]; split <;> simp only [] <;> omega
/-- a sign's bytes, as numbers -/
def bytesI (n : Int) : List Int :=
  if signI n = true then
    if n < 128 then [n] else if n < 2048 then [192 + n / 64, 128 + n % 64]
    else if n < 65536 then [224 + n / 4096, 128 + n / 64 % 64, 128 + n % 64]
    else [240 + n / 262144, 128 + n / 4096 % 64, 128 + n / 64 % 64, 128 + n % 64]
  else []
theorem bytesI_1 (n : Int) (h : 0 ≤ n ∧ n < 128) : signI n = true ∧ bytesI n = [n] ∧ sizeI n = 1 := by
  have hs : signI n = true := by simp [signI]; omega
  refine ⟨hs, ?_, ?_⟩
  · unfold bytesI; rw [if_pos hs, if_pos (by omega)]
  · unfold sizeI; rw [if_neg (by omega), if_neg (by omega), if_pos (by omega)]
theorem bytesI_2 (n : Int) (h : 128 ≤ n ∧ n < 2048) : signI n = true ∧ bytesI n = [192 + n / 64, 128 + n % 64] ∧ sizeI n = 2 := by
  have hs : signI n = true := by simp [signI]; omega
  refine ⟨hs, ?_, ?_⟩
  · unfold bytesI; rw [if_pos hs, if_neg (by omega), if_pos (by omega)]
  · unfold sizeI; rw [if_neg (by omega), if_neg (by omega), if_neg (by omega), if_pos (by omega)]
theorem bytesI_3 (n : Int) (h : 2048 ≤ n ∧ n < 65536) (h2 : ¬ (55296 ≤ n ∧ n ≤ 57343)) : signI n = true ∧ bytesI n = [224 + n / 4096, 128 + n / 64 % 64, 128 + n % 64] ∧ sizeI n = 3 := by
  have hs : signI n = true := by simp [signI]; omega
  refine ⟨hs, ?_, ?_⟩
  · unfold bytesI; rw [if_pos hs, if_neg (by omega), if_neg (by omega), if_pos (by omega)]
  · unfold sizeI; rw [if_neg (by omega), if_neg (by omega), if_neg (by omega), if_neg (by omega), if_pos (by omega)]
theorem bytesI_4 (n : Int) (h : 65536 ≤ n ∧ n < 1114112) : signI n = true ∧ bytesI n = [240 + n / 262144, 128 + n / 4096 % 64, 128 + n / 64 % 64, 128 + n % 64] ∧ sizeI n = 4 := by
  have hs : signI n = true := by simp [signI]; omega
  refine ⟨hs, ?_, ?_⟩
  · unfold bytesI; rw [if_pos hs, if_neg (by omega), if_neg (by omega), if_neg (by omega)]
  · unfold sizeI; rw [if_neg (by omega), if_neg (by omega), if_neg (by omega), if_neg (by omega), if_neg (by omega)]
theorem bytesI_0 (n : Int) (h : ¬ (0 ≤ n ∧ n < 1114112 ∧ ¬ (55296 ≤ n ∧ n ≤ 57343))) : signI n = false ∧ bytesI n = [] ∧ sizeI n = 0 := by
  have hs : signI n = false := by rw [← Bool.not_eq_true]; simp [signI]; omega
  refine ⟨hs, ?_, ?_⟩
  · unfold bytesI; rw [hs]; simp
  · unfold sizeI; (repeat' split) <;> omega
/-- is a text signs, one behind the other? -/
def wholeN : Nat → List UInt8 → Bool
  | 0, l => l.isEmpty
  | f + 1, l => if (firstL l).2 ≤ 0 then l.isEmpty else wholeN f (l.drop (firstL l).2.toNat)
def wholeL (l : List UInt8) : Bool := wholeN l.length l
theorem wholeN_is (f : Nat) : ∀ l : List UInt8, l.length ≤ f → wholeN f l = wholeN l.length l := by
  induction f using Nat.strongRecOn with
  | _ f ih =>
    intro l h
    cases f with
    | zero => rw [Nat.le_zero.1 h]
    | succ f =>
      cases hl : l.length with
      | zero =>
        have : l = [] := List.eq_nil_of_length_eq_zero hl
        subst this; rfl
      | succ n =>
        unfold wholeN
        split
        · rfl
        · have hk := firstL_bd l
          have hd : (l.drop (firstL l).2.toNat).length ≤ n := by rw [List.length_drop]; omega
          rw [ih f (by omega) _ (by omega), ih n (by omega) _ hd]
theorem wholeL_eq (l : List UInt8) : wholeL l = if (firstL l).2 ≤ 0 then l.isEmpty else wholeL (l.drop (firstL l).2.toNat) := by
  have h1 : wholeL l = wholeN (l.length + 1) l := (wholeN_is _ l (by omega)).symm
  rw [h1]
  show (if (firstL l).2 ≤ 0 then l.isEmpty else wholeN l.length (l.drop (firstL l).2.toNat)) = _
  split
  · rfl
  · exact wholeN_is _ _ (by rw [List.length_drop]; omega)
end Rn
end Go.Proofs.Ytlobfmkaamgfeaa
