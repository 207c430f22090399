/- Plain facts on signs of texts (no program is named here): what the functions of layer 1 answer, as functions on lists of bytes. Plain facts on the sign with which a text begins (no program is named here). Plain facts: the document's way to find the sign with which a text begins finds the same one (no program is named here). Plain facts: signs one behind the other, and their edges (no program is named here). -/
import Derived.Laws.BytesArg
import Derived.Lib.Strings
namespace Go.Proofs.Ytndenipjiclkaaa
set_option linter.unusedVariables false
set_option linter.unusedSimpArgs false
namespace Rn
def folI (n : Int) : Bool := decide (128 ≤ n) && decide (n ≤ 191)
def fol (c : UInt8) : Bool := folI c.toNat
def sizeI (n : Int) : Int :=
  if n < 0 ∨ 1114112 ≤ n then 0 else if 55296 ≤ n ∧ n ≤ 57343 then 0 else if n < 128 then 1 else if n < 2048 then 2 else if n < 65536 then 3 else 4
def leadI (k : Int) : Int := if k = 2 then 192 else if k = 3 then 224 else if k = 4 then 240 else 0
def promI (c : Int) : Int := if c < 128 then 1 else if c < 192 then 0 else if c < 224 then 2 else if c < 240 then 3 else if c < 248 then 4 else 0
def signI (n : Int) : Bool := decide (0 ≤ n) && decide (n < 1114112) && !(decide (55296 ≤ n) && decide (n ≤ 57343))
/-- how many bytes are no followers -/
def cnt (l : List UInt8) : Int := (l.countP fun c => !fol c : Nat)
theorem len_data0 (s : ByteArray) : s.data.toList.length = s.size := by simp
theorem cnt_bd (l : List UInt8) : 0 ≤ cnt l ∧ cnt l ≤ l.length := by
  unfold cnt; have := List.countP_le_length (p := fun c => !fol c) (l := l); omega
theorem cnt_snoc (l : List UInt8) (c : UInt8) : cnt (l ++ [c]) = cnt l + if folI c.toNat = true then 0 else 1 := by
  unfold cnt; rw [List.countP_append]
  by_cases h : folI c.toNat = true <;> simp [fol, h]
theorem take_snoc (s : ByteArray) (k : Nat) (h : k < s.size) : s.data.toList.take (k + 1) = s.data.toList.take k ++ [s[k]] := by
  rw [List.take_succ_eq_append_getElem (by simpa using h)]; rfl
theorem take_all (s : ByteArray) (k : Nat) (h : ¬ k < s.size) : s.data.toList.take k = s.data.toList :=
  List.take_of_length_le (by simp; omega)
/-- is the place an edge? -/
def edgeB (s : ByteArray) (i : Int) : Bool := if h : 0 ≤ i ∧ i < s.size then !folI (s[i.toNat]).toNat else decide (i = s.size)
theorem edge_end (s : ByteArray) : edgeB s s.size = true := by unfold edgeB; rw [dif_neg (by omega)]; simp
/-- the least edge above i, gone through from the end: behind t rounds -/
def nxU (s : ByteArray) (i : Int) : Nat → Nat
  | 0 => s.size
  | t + 1 => if (edgeB s ((s.size : Int) - t) && decide (i < (s.size : Int) - t)) = true then s.size - t else nxU s i t
def next (s : ByteArray) (i : Int) : Nat := if i < 0 then 0 else nxU s i (s.size + 1)
/-- the greatest edge below i, gone through from the beginning: behind t rounds -/
def bkU (s : ByteArray) (i : Int) : Nat → Nat
  | 0 => 0
  | t + 1 => if (edgeB s t && decide ((t : Int) < i)) = true then t else bkU s i t
def back (s : ByteArray) (i : Int) : Nat := bkU s i (s.size + 1)
theorem nxU_le (s : ByteArray) (i : Int) (t : Nat) : nxU s i t ≤ s.size := by
  induction t with
  | zero => exact Nat.le_refl _
  | succ t ih => unfold nxU; split <;> omega
theorem bkU_le (s : ByteArray) (i : Int) (t : Nat) (h : t ≤ s.size + 1) : bkU s i t ≤ s.size := by
  induction t with
  | zero => exact Nat.zero_le _
  | succ t ih => have := ih (by omega); unfold bkU; split <;> omega
theorem nxU_is (s : ByteArray) (i : Int) (r : Nat) (hr : r ≤ s.size) (hi : i < r) (he : edgeB s r = true) (hn : ∀ j : Nat, i < j → j < r → edgeB s j = false) (t : Nat) :
    s.size + 1 ≤ r + t → t ≤ s.size + 1 → nxU s i t = r := by
  induction t with
  | zero => intro h; omega
  | succ t ih =>
    intro h h2
    have e : (s.size : Int) - t = ((s.size - t : Nat) : Int) := by omega
    unfold nxU
    rw [e]
    by_cases hc : s.size - t = r
    · rw [hc, he]; simp [hi]
    · by_cases hj : i < ((s.size - t : Nat) : Int)
      · rw [hn (s.size - t) hj (by omega)]; simp; exact ih (by omega) (by omega)
      · simp [hj]; exact ih (by omega) (by omega)
theorem next_is (s : ByteArray) (i : Int) (h0 : 0 ≤ i) (r : Nat) (hr : r ≤ s.size) (hi : i < r) (he : edgeB s r = true) (hn : ∀ j : Nat, i < j → j < r → edgeB s j = false) : next s i = r := by
  unfold next; rw [if_neg (by omega)]; exact nxU_is s i r hr hi he hn _ (by omega) (by omega)
theorem next_far (s : ByteArray) (i : Int) (h : s.size ≤ i) : next s i = s.size := by
  unfold next; rw [if_neg (by omega)]
  have : ∀ t, t ≤ s.size + 1 → nxU s i t = s.size := by
    intro t; induction t with
    | zero => intro _; rfl
    | succ t ih => intro h2; unfold nxU; rw [if_neg (by simp; intro _; omega)]; exact ih (by omega)
  exact this _ (Nat.le_refl _)
theorem bkU_is (s : ByteArray) (i : Int) (r : Nat) (hi : r < i) (he : edgeB s r = true) (hn : ∀ j : Nat, r < j → j < i → edgeB s j = false) (t : Nat) : r < t → bkU s i t = r := by
  induction t with
  | zero => intro h; omega
  | succ t ih =>
    intro h
    unfold bkU
    by_cases hc : t = r
    · subst hc; rw [he]; simp [hi]
    · by_cases hj : (t : Int) < i
      · rw [hn t (by omega) hj]; simp; exact ih (by omega)
      · simp [hj]; exact ih (by omega)
theorem back_is (s : ByteArray) (i : Int) (r : Nat) (hr : r ≤ s.size) (hi : r < i) (he : edgeB s r = true) (hn : ∀ j : Nat, r < j → j < i → edgeB s j = false) : back s i = r :=
  bkU_is s i r hi he hn _ (by omega)
theorem back_none (s : ByteArray) (i : Int) (hn : ∀ j : Nat, (j : Int) < i → edgeB s j = false) : back s i = 0 := by
  have : ∀ t, bkU s i t = 0 := by
    intro t; induction t with
    | zero => rfl
    | succ t ih =>
      unfold bkU
      by_cases hj : (t : Int) < i
      · rw [hn t hj]; simpa using ih
      · simp [hj]; exact ih
  exact this _
/-- the greatest edge ahead of which at most n bytes are no followers -/
def cutL : List UInt8 → Int → Nat
  | [], _ => 0
  | c :: t, n => if folI c.toNat = true then cutL t n + 1 else if n = 0 then 0 else cutL t (n - 1) + 1
def cut (s : ByteArray) (n : Int) : Nat := if n < 0 then 0 else cutL s.data.toList n
theorem cutL_le (l : List UInt8) (n : Int) : cutL l n ≤ l.length := by
  induction l generalizing n with
  | nil => exact Nat.le_refl _
  | cons c t ih => unfold cutL; have h1 := ih n; have h2 := ih (n - 1); simp only [List.length_cons]; (repeat' split) <;> omega
theorem cut_le (s : ByteArray) (n : Int) : cut s n ≤ s.size := by
  unfold cut; split
  · omega
  · have := cutL_le s.data.toList n; simpa using this
theorem drop_at (s : ByteArray) (k : Nat) (h : k < s.size) : s.data.toList.drop k = s[k] :: s.data.toList.drop (k + 1) := by
  rw [List.drop_eq_getElem_cons (by simpa using h)]; rfl
theorem drop_all (s : ByteArray) (k : Nat) (h : ¬ k < s.size) : s.data.toList.drop k = [] := List.drop_eq_nil_of_le (by simp; omega)
theorem cutL_cnt (l : List UInt8) : ∀ n : Int, 0 ≤ n → cnt (l.take (cutL l n)) ≤ n ∧ (cutL l n = l.length ∨ cnt (l.take (cutL l n)) = n) := by
  induction l with
  | nil => intro n h; simp [cutL, cnt]; exact h
  | cons c t ih =>
    intro n h
    unfold cutL
    by_cases hf : folI c.toNat = true
    · rw [if_pos hf]
      have := ih n h
      have e : cnt ((c :: t).take (cutL t n + 1)) = cnt (t.take (cutL t n)) := by simp [cnt, fol, hf]
      rw [e]; simp only [List.length_cons]; omega
    · rw [if_neg hf]
      by_cases hz : n = 0
      · subst hz; simp [cnt]
      · rw [if_neg hz]
        have := ih (n - 1) (by omega)
        have e : cnt ((c :: t).take (cutL t (n - 1) + 1)) = cnt (t.take (cutL t (n - 1))) + 1 := by simp [cnt, fol, hf]
        rw [e]; simp only [List.length_cons]; omega
theorem cutL_edge (l : List UInt8) : ∀ n : Int, cutL l n < l.length → ∃ c, l[cutL l n]? = some c ∧ folI c.toNat = false := by
  induction l with
  | nil => intro n h; simp at h
  | cons c t ih =>
    intro n
    unfold cutL
    by_cases hf : folI c.toNat = true
    · rw [if_pos hf]; intro h; simpa using ih n (by simpa using h)
    · rw [if_neg hf]
      by_cases hz : n = 0
      · rw [if_pos hz]; intro _; exact ⟨c, by simp, by simpa using hf⟩
      · rw [if_neg hz]; intro h; simpa using ih (n - 1) (by simpa using h)
theorem cut_edge (s : ByteArray) (n : Int) (h : 0 ≤ n) : edgeB s (cut s n) = true := by
  have hl := cut_le s n
  unfold cut at hl ⊢
  rw [if_neg (by omega)] at hl ⊢
  by_cases he : cutL s.data.toList n = s.size
  · rw [he]; exact edge_end s
  · obtain ⟨c, hc, hf⟩ := cutL_edge s.data.toList n (by simp; omega)
    unfold edgeB
    rw [dif_pos (by omega)]
    have : s[(cutL s.data.toList n : Int).toNat]'(by omega) = c := by
      rw [List.getElem?_eq_some_iff] at hc
      obtain ⟨h1, h2⟩ := hc
      rw [← h2]; rfl
    rw [this, hf]; rfl
theorem cut_cnt (s : ByteArray) (n : Int) (h : 0 ≤ n) : cnt (s.data.toList.take (cut s n)) ≤ n ∧ (cut s n = s.size ∨ cnt (s.data.toList.take (cut s n)) = n) := by
  have := cutL_cnt s.data.toList n h
  unfold cut; rw [if_neg (by omega)]
  simpa using this
end Rn
namespace Rn
/-- the number that followers make of what the first byte has -/
def dec : Int → List UInt8 → Option Int
  | n, [] => some n
  | n, c :: t => if folI c.toNat = true then dec (n * 64 + c.toNat - 128) t else none
def fin (k : Int) : Option Int → Int × Int
  | none => (-1, 0)
  | some n => if sizeI n = k then (n, k) else (-1, 0)
def firstL : List UInt8 → Int × Int
  | [] => (-1, 0)
  | c :: t => if promI c.toNat = 0 ∨ ((c :: t).length : Int) < promI c.toNat then (-1, 0) else fin (promI c.toNat) (dec (c.toNat - leadI (promI c.toNat)) (((c :: t).take (promI c.toNat).toNat).drop 1))
theorem firstL_cons (c : UInt8) (t : List UInt8) : firstL (c :: t) = if promI c.toNat = 0 ∨ ((c :: t).length : Int) < promI c.toNat then (-1, 0) else fin (promI c.toNat) (dec (c.toNat - leadI (promI c.toNat)) (((c :: t).take (promI c.toNat).toNat).drop 1)) := rfl
theorem prom_bd (c : Int) : 0 ≤ promI c ∧ promI c ≤ 4 := by unfold promI; (repeat' split) <;> omega
theorem lead_bd (c : Int) : 0 ≤ leadI c ∧ leadI c ≤ 240 := by unfold leadI; (repeat' split) <;> omega
def bd : Nat → Int
  | 0 => 256
  | j + 1 => 64 * bd j + 64
theorem bd_le (j : Nat) (h : j ≤ 3) : 256 ≤ bd j ∧ bd j ≤ 134217728 := by
  match j, h with
  | 0, _ => simp [bd]
  | 1, _ => simp [bd]
  | 2, _ => simp [bd]
  | 3, _ => simp [bd]
theorem list0 (s : ByteArray) (h : 0 < s.size) : s.data.toList = s[0] :: s.data.toList.drop 1 := by
  have := drop_at s 0 h; simpa using this
theorem len_data (s : ByteArray) : s.data.toList.length = s.size := by simp
theorem firstL_nil (s : ByteArray) (h : s.size = 0) : firstL s.data.toList = (-1, 0) := by
  have : s.data.toList = [] := List.eq_nil_of_length_eq_zero (by rw [len_data]; exact h)
  rw [this]; rfl
theorem firstL_no (s : ByteArray) (h : 0 < s.size) (hp : promI s[0].toNat = 0 ∨ (s.size : Int) < promI s[0].toNat) : firstL s.data.toList = (-1, 0) := by
  have e := list0 s h
  have hl : ((s[0] :: s.data.toList.drop 1).length : Int) = s.size := by rw [← e, len_data]
  rw [e, firstL_cons, hl, if_pos hp]
theorem firstL_yes (s : ByteArray) (h : 0 < s.size) (hp : ¬ (promI s[0].toNat = 0 ∨ (s.size : Int) < promI s[0].toNat)) :
    firstL s.data.toList = fin (promI s[0].toNat) (dec (s[0].toNat - leadI (promI s[0].toNat)) ((s.data.toList.take (promI s[0].toNat).toNat).drop 1)) := by
  have e := list0 s h
  have hl : ((s[0] :: s.data.toList.drop 1).length : Int) = s.size := by rw [← e, len_data]
  have : firstL (s[0] :: s.data.toList.drop 1) = fin (promI s[0].toNat) (dec (s[0].toNat - leadI (promI s[0].toNat)) (((s[0] :: s.data.toList.drop 1).take (promI s[0].toNat).toNat).drop 1)) := by
    rw [firstL_cons, hl, if_neg hp]
  rw [← e] at this; exact this
theorem take_drop_at (s : ByteArray) (k j : Nat) (h : j < k) (hk : k ≤ s.size) : (s.data.toList.take k).drop j = s[j] :: (s.data.toList.take k).drop (j + 1) := by
  rw [List.drop_eq_getElem_cons (by simp; omega)]; congr 1; simp; rfl
theorem take_drop_end (s : ByteArray) (k : Nat) : (s.data.toList.take k).drop k = [] := List.drop_eq_nil_of_le (by simp; omega)
theorem firstL_bd (l : List UInt8) : 0 ≤ (firstL l).2 ∧ (firstL l).2 ≤ l.length := by
  cases l with
  | nil => simp [firstL]
  | cons c t =>
    rw [firstL_cons]
    have := prom_bd c.toNat
    split
    · simp; omega
    · rename_i h
      cases dec (c.toNat - leadI (promI c.toNat)) (((c :: t).take (promI c.toNat).toNat).drop 1) with
      | none => simp [fin]; omega
      | some n => simp only [fin]; split <;> simp only [] <;> omega
/-- a sign's bytes, as numbers -/
def bytesI (n : Int) : List Int :=
  if signI n = true then
    if n < 128 then [n] else if n < 2048 then [192 + n / 64, 128 + n % 64]
    else if n < 65536 then [224 + n / 4096, 128 + n / 64 % 64, 128 + n % 64]
    else [240 + n / 262144, 128 + n / 4096 % 64, 128 + n / 64 % 64, 128 + n % 64]
  else []
theorem bytesI_1 (n : Int) (h : 0 ≤ n ∧ n < 128) : signI n = true ∧ bytesI n = [n] ∧ sizeI n = 1 := by
  have hs : signI n = true := by simp [signI]; omega
  refine ⟨hs, ?_, ?_⟩
  · unfold bytesI; rw [if_pos hs, if_pos (by omega)]
  · unfold sizeI; rw [if_neg (by omega), if_neg (by omega), if_pos (by omega)]
theorem bytesI_2 (n : Int) (h : 128 ≤ n ∧ n < 2048) : signI n = true ∧ bytesI n = [192 + n / 64, 128 + n % 64] ∧ sizeI n = 2 := by
  have hs : signI n = true := by simp [signI]; omega
  refine ⟨hs, ?_, ?_⟩
  · unfold bytesI; rw [if_pos hs, if_neg (by omega), if_pos (by omega)]
  · unfold sizeI; rw [if_neg (by omega), if_neg (by omega), if_neg (by omega), if_pos (by omega)]
theorem bytesI_3 (n : Int) (h : 2048 ≤ n ∧ n < 65536) (h2 : ¬ (55296 ≤ n ∧ n ≤ 57343)) : signI n = true ∧ bytesI n = [224 + n / 4096, 128 + n / 64 % 64, 128 + n % 64] ∧ sizeI n = 3 := by
  have hs : signI n = true := by simp [signI]; omega
  refine ⟨hs, ?_, ?_⟩
  · unfold bytesI; rw [if_pos hs, if_neg (by omega), if_neg (by omega), if_pos (by omega)]
  · unfold sizeI; rw [if_neg (by omega), if_neg (by omega), if_neg (by omega), if_neg (by omega), if_pos (by omega)]
theorem bytesI_4 (n : Int) (h : 65536 ≤ n ∧ n < 1114112) : signI n = true ∧ bytesI n = [240 + n / 262144, 128 + n / 4096 % 64, 128 + n / 64 % 64, 128 + n % 64] ∧ sizeI n = 4 := by
  have hs : signI n = true := by simp [signI]; omega
  refine ⟨hs, ?_, ?_⟩
  · unfold bytesI; rw [if_pos hs, if_neg (by omega), if_neg (by omega), if_neg (by omega)]
  · unfold sizeI; rw [if_neg (by omega), if_neg (by omega), if_neg (by omega), if_neg (by omega), if_neg (by omega)]
theorem bytesI_0 (n : Int) (h : ¬ (0 ≤ n ∧ n < 1114112 ∧ ¬ (55296 ≤ n ∧ n ≤ 57343))) : signI n = false ∧ bytesI n = [] ∧ sizeI n = 0 := by
  have hs : signI n = false := by rw [← Bool.not_eq_true]; simp [signI]; omega
  refine ⟨hs, ?_, ?_⟩
  · unfold bytesI; rw [hs]; simp
  · unfold sizeI; (repeat' split) <;> omega
/-- is a text signs, one behind the other? -/
def wholeN : Nat → List UInt8 → Bool
  | 0, l => l.isEmpty
  | f + 1, l => if (firstL l).2 ≤ 0 then l.isEmpty else wholeN f (l.drop (firstL l).2.toNat)
def wholeL (l : List UInt8) : Bool := wholeN l.length l
theorem wholeN_is (f : Nat) : ∀ l : List UInt8, l.length ≤ f → wholeN f l = wholeN l.length l := by
  induction f using Nat.strongRecOn with
  | _ f ih =>
    intro l h
    cases f with
    | zero => rw [Nat.le_zero.1 h]
    | succ f =>
      cases hl : l.length with
      | zero =>
        have : l = [] := List.eq_nil_of_length_eq_zero hl
        subst this; rfl
      | succ n =>
        unfold wholeN
        split
        · rfl
        · have hk := firstL_bd l
          have hd : (l.drop (firstL l).2.toNat).length ≤ n := by rw [List.length_drop]; omega
          rw [ih f (by omega) _ (by omega), ih n (by omega) _ hd]
theorem wholeL_eq (l : List UInt8) : wholeL l = if (firstL l).2 ≤ 0 then l.isEmpty else wholeL (l.drop (firstL l).2.toNat) := by
  have h1 : wholeL l = wholeN (l.length + 1) l := (wholeN_is _ l (by omega)).symm
  rw [h1]
  show (if (firstL l).2 ≤ 0 then l.isEmpty else wholeN l.length (l.drop (firstL l).2.toNat)) = _
  split
  · rfl
  · exact wholeN_is _ _ (by rw [List.length_drop]; omega)
end Rn
namespace Rn
def toI (c : UInt8) : Int := c.toNat
def numL : List UInt8 → Nat → Int
  | c0 :: _, 1 => c0.toNat
  | c0 :: c1 :: _, 2 => 64 * (c0.toNat - 192) + c1.toNat % 64
  | c0 :: c1 :: c2 :: _, 3 => 64 * (64 * (c0.toNat - 224) + c1.toNat % 64) + c2.toNat % 64
  | c0 :: c1 :: c2 :: c3 :: _, 4 => 64 * (64 * (64 * (c0.toNat - 240) + c1.toNat % 64) + c2.toNat % 64) + c3.toNat % 64
  | _, _ => 0
theorem size_cases {n k : Int} (h : sizeI n = k) (hk : 1 ≤ k) :
    (k = 1 ∧ 0 ≤ n ∧ n < 128) ∨ (k = 2 ∧ 128 ≤ n ∧ n < 2048) ∨ (k = 3 ∧ 2048 ≤ n ∧ n < 65536 ∧ ¬ (55296 ≤ n ∧ n ≤ 57343)) ∨ (k = 4 ∧ 65536 ≤ n ∧ n < 1114112) := by
  unfold sizeI at h; (repeat' split at h) <;> omega
theorem sign_cases {n : Int} (h : signI n = true) :
    (0 ≤ n ∧ n < 128) ∨ (128 ≤ n ∧ n < 2048) ∨ (2048 ≤ n ∧ n < 65536 ∧ ¬ (55296 ≤ n ∧ n ≤ 57343)) ∨ (65536 ≤ n ∧ n < 1114112) := by
  simp [signI] at h; omega
theorem prom_2 {c : Int} (h : 192 ≤ c ∧ c < 224) : promI c = 2 := by unfold promI; rw [if_neg (by omega), if_neg (by omega), if_pos (by omega)]
theorem prom_3 {c : Int} (h : 224 ≤ c ∧ c < 240) : promI c = 3 := by unfold promI; rw [if_neg (by omega), if_neg (by omega), if_neg (by omega), if_pos (by omega)]
theorem prom_4 {c : Int} (h : 240 ≤ c ∧ c < 248) : promI c = 4 := by unfold promI; rw [if_neg (by omega), if_neg (by omega), if_neg (by omega), if_neg (by omega), if_pos (by omega)]
theorem prom_1 {c : Int} (h : c < 128) : promI c = 1 := by unfold promI; rw [if_pos (by omega)]
theorem prom_cases {c : Int} (h : promI c ≠ 0) : (promI c = 1 ∧ c < 128) ∨ (promI c = 2 ∧ 192 ≤ c ∧ c < 224) ∨ (promI c = 3 ∧ 224 ≤ c ∧ c < 240) ∨ (promI c = 4 ∧ 240 ≤ c ∧ c < 248) := by
  unfold promI at h ⊢; (repeat' split at h) <;> first | omega | (simp_all; done) | (simp_all; omega)
theorem lead_1 : leadI 1 = 0 := by decide
theorem lead_2 : leadI 2 = 192 := by decide
theorem lead_3 : leadI 3 = 224 := by decide
theorem lead_4 : leadI 4 = 240 := by decide
theorem fol_of {c : UInt8} (h : 128 ≤ (c.toNat : Int) ∧ (c.toNat : Int) ≤ 191) : folI c.toNat = true := by simp [folI]; omega
theorem of_fol {c : UInt8} (h : folI c.toNat = true) : 128 ≤ (c.toNat : Int) ∧ (c.toNat : Int) ≤ 191 := by simpa [folI] using h
/-- what a sign's bytes begin is read as that sign -/
theorem first_of_1 (c0 : UInt8) (t : List UInt8) (n : Int) (hn : 0 ≤ n ∧ n < 128) (h0 : (c0.toNat : Int) = n) : firstL (c0 :: t) = (n, 1) := by
  have hp : promI c0.toNat = 1 := prom_1 (by omega)
  rw [firstL_cons, hp, if_neg (by simp; omega), lead_1]
  have hs := (bytesI_1 n hn).2.2
  simp [dec, fin, h0, hs]
theorem first_of_2 (c0 c1 : UInt8) (t : List UInt8) (n : Int) (hn : 128 ≤ n ∧ n < 2048) (h0 : (c0.toNat : Int) = 192 + n / 64) (h1 : (c1.toNat : Int) = 128 + n % 64) : firstL (c0 :: c1 :: t) = (n, 2) := by
  have hp : promI c0.toNat = 2 := prom_2 (by omega)
  have f1 := fol_of (c := c1) (by omega)
  rw [firstL_cons, hp, if_neg (by simp; omega), lead_2]
  have hs := (bytesI_2 n hn).2.2
  have e : ((c0.toNat : Int) - 192) * 64 + c1.toNat - 128 = n := by omega
  simp [dec, fin, f1, e, hs]
theorem first_of_3 (c0 c1 c2 : UInt8) (t : List UInt8) (n : Int) (hn : 2048 ≤ n ∧ n < 65536) (hn2 : ¬ (55296 ≤ n ∧ n ≤ 57343)) (h0 : (c0.toNat : Int) = 224 + n / 4096) (h1 : (c1.toNat : Int) = 128 + n / 64 % 64) (h2 : (c2.toNat : Int) = 128 + n % 64) : firstL (c0 :: c1 :: c2 :: t) = (n, 3) := by
  have hp : promI c0.toNat = 3 := prom_3 (by omega)
  have f1 := fol_of (c := c1) (by omega)
  have f2 := fol_of (c := c2) (by omega)
  rw [firstL_cons, hp, if_neg (by simp; omega), lead_3]
  have hs := (bytesI_3 n hn hn2).2.2
  have e : (((c0.toNat : Int) - 224) * 64 + c1.toNat - 128) * 64 + c2.toNat - 128 = n := by omega
  simp [dec, fin, f1, f2, e, hs]
theorem first_of_4 (c0 c1 c2 c3 : UInt8) (t : List UInt8) (n : Int) (hn : 65536 ≤ n ∧ n < 1114112) (h0 : (c0.toNat : Int) = 240 + n / 262144) (h1 : (c1.toNat : Int) = 128 + n / 4096 % 64) (h2 : (c2.toNat : Int) = 128 + n / 64 % 64) (h3 : (c3.toNat : Int) = 128 + n % 64) : firstL (c0 :: c1 :: c2 :: c3 :: t) = (n, 4) := by
  have hp : promI c0.toNat = 4 := prom_4 (by omega)
  have f1 := fol_of (c := c1) (by omega)
  have f2 := fol_of (c := c2) (by omega)
  have f3 := fol_of (c := c3) (by omega)
  rw [firstL_cons, hp, if_neg (by simp; omega), lead_4]
  have hs := (bytesI_4 n hn).2.2
  have e : ((((c0.toNat : Int) - 240) * 64 + c1.toNat - 128) * 64 + c2.toNat - 128) * 64 + c3.toNat - 128 = n := by omega
  simp [dec, fin, f1, f2, f3, e, hs]
theorem shape1 {t : List UInt8} (h : 1 ≤ t.length) : ∃ c1 t', t = c1 :: t' := by
  cases t with
  | nil => simp at h
  | cons c t => exact ⟨c, t, rfl⟩
/-- what begins with a sign's bytes is read as that sign -/
theorem first_of (n : Int) (hs : signI n = true) (l : List UInt8) (k : Nat) (hk : 1 ≤ k) (hl : k ≤ l.length) (hb : bytesI n = (l.take k).map toI) : firstL l = (n, (k : Int)) := by
  rcases sign_cases hs with h | h | ⟨h, h2, h3⟩ | h
  · rw [(bytesI_1 n h).2.1] at hb
    match l, k, hk, hl with
    | [], _, hk, hl => simp at hl; omega
    | c0 :: t, 1, _, _ => simp [toI] at hb; exact first_of_1 c0 t n h hb.symm
    | c0 :: c1 :: t, k + 2, _, _ => simp at hb
  · rw [(bytesI_2 n h).2.1] at hb
    match l, k, hk, hl with
    | [], _, hk, hl => simp at hl; omega
    | c0 :: t, 1, _, _ => simp at hb
    | c0 :: c1 :: t, 2, _, _ => simp [toI] at hb; exact first_of_2 c0 c1 t n h hb.1.symm hb.2.symm
    | c0 :: c1 :: c2 :: t, k + 3, _, _ => simp at hb
  · rw [(bytesI_3 n ⟨h, h2⟩ h3).2.1] at hb
    match l, k, hk, hl with
    | [], _, hk, hl => simp at hl; omega
    | c0 :: t, 1, _, _ => simp at hb
    | c0 :: c1 :: t, 2, _, _ => simp at hb
    | c0 :: c1 :: c2 :: t, 3, _, _ => simp [toI] at hb; exact first_of_3 c0 c1 c2 t n ⟨h, h2⟩ h3 hb.1.symm hb.2.1.symm hb.2.2.symm
    | c0 :: c1 :: c2 :: c3 :: t, k + 4, _, _ => simp at hb
  · rw [(bytesI_4 n h).2.1] at hb
    match l, k, hk, hl with
    | [], _, hk, hl => simp at hl; omega
    | c0 :: t, 1, _, _ => simp at hb
    | c0 :: c1 :: t, 2, _, _ => simp at hb
    | c0 :: c1 :: c2 :: t, 3, _, _ => simp at hb
    | c0 :: c1 :: c2 :: c3 :: t, 4, _, _ => simp [toI] at hb; exact first_of_4 c0 c1 c2 c3 t n h hb.1.symm hb.2.1.symm hb.2.2.1.symm hb.2.2.2.symm
    | c0 :: c1 :: c2 :: c3 :: c4 :: t, k + 5, _, _ => simp at hb
/-- what is read as a sign begins with its bytes -/
theorem of_first (l : List UInt8) (n k : Int) (h : firstL l = (n, k)) (hk : 0 < k) :
    signI n = true ∧ ∃ j : Nat, k = j ∧ 1 ≤ j ∧ j ≤ 4 ∧ j ≤ l.length ∧ bytesI n = (l.take j).map toI ∧ numL l j = n ∧ 0 ≤ ((l.getD 0 0).toNat : Int) - leadI j := by
  cases l with
  | nil => simp [firstL] at h; omega
  | cons c0 t =>
    rw [firstL_cons] at h
    by_cases hp : promI c0.toNat = 0 ∨ ((c0 :: t).length : Int) < promI c0.toNat
    · rw [if_pos hp] at h; simp at h; omega
    rw [if_neg hp] at h
    cases hd : dec (c0.toNat - leadI (promI c0.toNat)) (((c0 :: t).take (promI c0.toNat).toNat).drop 1) with
    | none => rw [hd] at h; simp [fin] at h; omega
    | some m =>
      rw [hd] at h; simp only [fin] at h
      by_cases hz : sizeI m = promI c0.toNat
      · rw [if_pos hz] at h
        simp only [Prod.mk.injEq] at h
        obtain ⟨rfl, rfl⟩ := h
        have hlen : promI c0.toNat ≤ ((c0 :: t).length : Int) := by omega
        rcases prom_cases (c := c0.toNat) (by omega) with ⟨e, hc⟩ | ⟨e, hc⟩ | ⟨e, hc⟩ | ⟨e, hc⟩
        · rw [e] at hz hd hlen ⊢
          rw [lead_1] at hd; simp [dec] at hd
          have hr : 0 ≤ m ∧ m < 128 := by rcases size_cases hz (by omega) with h | h | h | h <;> omega
          refine ⟨(bytesI_1 m hr).1, 1, rfl, by omega, by omega, by simp, ?_, ?_, ?_⟩
          · rw [(bytesI_1 m hr).2.1]; simp [toI, hd]
          · simp [numL, hd]
          · simp [lead_1]
        · rw [e] at hz hd hlen ⊢
          have hr : 128 ≤ m ∧ m < 2048 := by rcases size_cases hz (by omega) with h | h | h | h <;> omega
          obtain ⟨c1, t, rfl⟩ := shape1 (t := t) (by simp at hlen; omega)
          · rw [lead_2] at hd; have hdl : ((c0 :: c1 :: t).take ((2 : Int)).toNat).drop 1 = [c1] := rfl
            rw [hdl] at hd; simp only [dec] at hd
            by_cases f1 : folI c1.toNat = true
            · simp only [f1, if_true, Option.some.injEq] at hd
              have g1 := of_fol f1
              refine ⟨(bytesI_2 m hr).1, 2, rfl, by omega, by omega, by simp, ?_, ?_, ?_⟩
              · rw [(bytesI_2 m hr).2.1]; simp [toI]; omega
              · simp only [numL]; omega
              · simp [lead_2]; omega
            · simp [f1] at hd
        · rw [e] at hz hd hlen ⊢
          have hr : (2048 ≤ m ∧ m < 65536) ∧ ¬ (55296 ≤ m ∧ m ≤ 57343) := by rcases size_cases hz (by omega) with h | h | h | h <;> omega
          obtain ⟨c1, t, rfl⟩ := shape1 (t := t) (by simp at hlen; omega)
          obtain ⟨c2, t, rfl⟩ := shape1 (t := t) (by simp at hlen; omega)
          · rw [lead_3] at hd; have hdl : ((c0 :: c1 :: c2 :: t).take ((3 : Int)).toNat).drop 1 = [c1, c2] := rfl
            rw [hdl] at hd; simp only [dec] at hd
            by_cases f1 : folI c1.toNat = true
            · by_cases f2 : folI c2.toNat = true
              · simp only [f1, f2, if_true, Option.some.injEq] at hd
                have g1 := of_fol f1
                have g2 := of_fol f2
                refine ⟨(bytesI_3 m hr.1 hr.2).1, 3, rfl, by omega, by omega, by simp, ?_, ?_, ?_⟩
                · rw [(bytesI_3 m hr.1 hr.2).2.1]; simp [toI]; omega
                · simp only [numL]; omega
                · simp [lead_3]; omega
              · simp [f1, f2] at hd
            · simp [f1] at hd
        · rw [e] at hz hd hlen ⊢
          have hr : 65536 ≤ m ∧ m < 1114112 := by rcases size_cases hz (by omega) with h | h | h | h <;> omega
          obtain ⟨c1, t, rfl⟩ := shape1 (t := t) (by simp at hlen; omega)
          obtain ⟨c2, t, rfl⟩ := shape1 (t := t) (by simp at hlen; omega)
          obtain ⟨c3, t, rfl⟩ := shape1 (t := t) (by simp at hlen; omega)
          · rw [lead_4] at hd; have hdl : ((c0 :: c1 :: c2 :: c3 :: t).take ((4 : Int)).toNat).drop 1 = [c1, c2, c3] := rfl
            rw [hdl] at hd; simp only [dec] at hd
            by_cases f1 : folI c1.toNat = true
            · by_cases f2 : folI c2.toNat = true
              · by_cases f3 : folI c3.toNat = true
                · simp only [f1, f2, f3, if_true, Option.some.injEq] at hd
                  have g1 := of_fol f1
                  have g2 := of_fol f2
                  have g3 := of_fol f3
                  refine ⟨(bytesI_4 m hr).1, 4, rfl, by omega, by omega, by simp, ?_, ?_, ?_⟩
                  · rw [(bytesI_4 m hr).2.1]; simp [toI]; omega
                  · simp only [numL]; omega
                  · simp [lead_4]; omega
                · simp [f1, f2, f3] at hd
              · simp [f1, f2] at hd
            · simp [f1] at hd
      · rw [if_neg hz] at h; simp at h; omega
theorem first_zero (l : List UInt8) (h : ¬ 0 < (firstL l).2) : firstL l = (-1, 0) := by
  cases l with
  | nil => rfl
  | cons c t =>
    rw [firstL_cons] at h ⊢
    have := prom_bd c.toNat
    split
    · rfl
    · rename_i hp
      rw [if_neg hp] at h
      cases hd : dec (c.toNat - leadI (promI c.toNat)) (((c :: t).take (promI c.toNat).toNat).drop 1) with
      | none => rfl
      | some n =>
        rw [hd] at h; simp only [fin] at h ⊢
        split
        · rename_i hz; rw [if_pos hz] at h; simp only [] at h; omega
        · rfl
/-- of k bytes none of the document's signs -/
def nope (l : List UInt8) (k : Nat) : Prop := ¬ (0 ≤ ((l.getD 0 0).toNat : Int) - leadI k ∧ signI (numL l k) = true ∧ bytesI (numL l k) = (l.take k).map toI)
theorem first_none (l : List UInt8) (h : ∀ k : Nat, 1 ≤ k → k ≤ 4 → k ≤ l.length → nope l k) : firstL l = (-1, 0) := by
  apply first_zero
  intro hk
  obtain ⟨hs, j, _, h1, h2, h3, h4, h5, h6⟩ := of_first l (firstL l).1 (firstL l).2 rfl hk
  exact h j h1 h2 h3 ⟨h6, by rw [h5]; exact hs, by rw [h5]; exact h4⟩
theorem bytesI_byte (n : Int) : ∀ x ∈ bytesI n, 0 ≤ x ∧ x < 256 := by
  by_cases hs : signI n = true
  · rcases sign_cases hs with h | h | ⟨h, h2, h3⟩ | h
    · rw [(bytesI_1 n h).2.1]; simp; omega
    · rw [(bytesI_2 n h).2.1]; simp; omega
    · rw [(bytesI_3 n ⟨h, h2⟩ h3).2.1]; simp; omega
    · rw [(bytesI_4 n h).2.1]; simp; omega
  · unfold bytesI; rw [if_neg hs]; simp
theorem map_back (xs : List Int) (l : List UInt8) (h : ∀ x ∈ xs, 0 ≤ x ∧ x < 256) : (xs.map fun n => UInt8.ofNat n.toNat) = l ↔ xs = l.map toI := by
  induction xs generalizing l with
  | nil => cases l <;> simp
  | cons x xs ih =>
    cases l with
    | nil => simp
    | cons c t =>
      have hx := h x (by simp)
      have := ih t (fun y hy => h y (by simp [hy]))
      simp only [List.map_cons, List.cons.injEq, this]
      refine and_congr ?_ Iff.rfl
      unfold toI
      constructor
      · intro e; rw [← e, UInt8.toNat_ofNat']; omega
      · intro e; apply UInt8.toNat.inj; rw [UInt8.toNat_ofNat']; omega
theorem head_data (s : ByteArray) (k : Nat) : (s.extract 0 k).data.toList = s.data.toList.take k := by
  rw [Lib.extract_data]; simp
theorem cmp_iff (n : Int) (s : ByteArray) (k : Nat) : ((strOfNums (bytesI n)).toList == (s.extract 0 k).toList) = true ↔ bytesI n = (s.data.toList.take k).map toI := by
  rw [beq_iff_eq, ByteArray.toList_eq, ByteArray.toList_eq, strOfNums_data, head_data]
  exact map_back _ _ (bytesI_byte n)
theorem get0 (s : ByteArray) (h : 0 < s.size) : s.data.toList.getD 0 0 = s[0] := by rw [list0 s h]; rfl
theorem num_1 (s : ByteArray) (h : 1 ≤ s.size) : numL s.data.toList 1 = s[0].toNat := by rw [list0 s (by omega)]; rfl
theorem num_2 (s : ByteArray) (h : 2 ≤ s.size) : numL s.data.toList 2 = 64 * ((s[0].toNat : Int) - 192) + (s[1].toNat : Int) % 64 := by
  rw [list0 s (by omega), drop_at s 1 (by omega)]; rfl
theorem num_3 (s : ByteArray) (h : 3 ≤ s.size) : numL s.data.toList 3 = 64 * (64 * ((s[0].toNat : Int) - 224) + (s[1].toNat : Int) % 64) + (s[2].toNat : Int) % 64 := by
  rw [list0 s (by omega), drop_at s 1 (by omega), drop_at s 2 (by omega)]; rfl
theorem num_4 (s : ByteArray) (h : 4 ≤ s.size) : numL s.data.toList 4 = 64 * (64 * (64 * ((s[0].toNat : Int) - 240) + (s[1].toNat : Int) % 64) + (s[2].toNat : Int) % 64) + (s[3].toNat : Int) % 64 := by
  rw [list0 s (by omega), drop_at s 1 (by omega), drop_at s 2 (by omega), drop_at s 3 (by omega)]; rfl
end Rn
namespace Rn
def blk (n : Int) : List UInt8 := (bytesI n).map fun n => UInt8.ofNat n.toNat
def cat : List Int → List UInt8
  | [] => []
  | n :: ns => blk n ++ cat ns
theorem cat_append (a b : List Int) : cat (a ++ b) = cat a ++ cat b := by
  induction a with
  | nil => rfl
  | cons n a ih => simp [cat, ih]
theorem blk_form (n : Int) (h : signI n = true) : ∃ c t, blk n = c :: t ∧ folI c.toNat = false ∧ ∀ x ∈ t, folI x.toNat = true := by
  have hb := (map_back (bytesI n) (blk n) (bytesI_byte n)).1 rfl
  rcases sign_cases h with h | h | ⟨h, h2, h3⟩ | h
  · rw [(bytesI_1 n h).2.1] at hb
    cases hl : blk n with
    | nil => rw [hl] at hb; simp at hb
    | cons c t =>
      rw [hl] at hb; simp [toI] at hb
      obtain ⟨h0, rfl⟩ := hb
      exact ⟨c, [], rfl, by simp [folI]; omega, by simp⟩
  · rw [(bytesI_2 n h).2.1] at hb
    match hl : blk n with
    | [] => rw [hl] at hb; simp at hb
    | [c] => rw [hl] at hb; simp at hb
    | c :: c1 :: t =>
      rw [hl] at hb; simp [toI] at hb
      obtain ⟨h0, h1, rfl⟩ := hb
      refine ⟨c, [c1], rfl, by simp [folI]; omega, ?_⟩
      intro x hx; simp at hx; subst hx; exact fol_of (by omega)
  · rw [(bytesI_3 n ⟨h, h2⟩ h3).2.1] at hb
    match hl : blk n with
    | [] => rw [hl] at hb; simp at hb
    | [c] => rw [hl] at hb; simp at hb
    | [c, c1] => rw [hl] at hb; simp at hb
    | c :: c1 :: c2 :: t =>
      rw [hl] at hb; simp [toI] at hb
      obtain ⟨h0, h1, h4, rfl⟩ := hb
      refine ⟨c, [c1, c2], rfl, by simp [folI]; omega, ?_⟩
      intro x hx; simp at hx
      rcases hx with rfl | rfl <;> exact fol_of (by omega)
  · rw [(bytesI_4 n h).2.1] at hb
    match hl : blk n with
    | [] => rw [hl] at hb; simp at hb
    | [c] => rw [hl] at hb; simp at hb
    | [c, c1] => rw [hl] at hb; simp at hb
    | [c, c1, c2] => rw [hl] at hb; simp at hb
    | c :: c1 :: c2 :: c3 :: t =>
      rw [hl] at hb; simp [toI] at hb
      obtain ⟨h0, h1, h4, h5, rfl⟩ := hb
      refine ⟨c, [c1, c2, c3], rfl, by simp [folI]; omega, ?_⟩
      intro x hx; simp at hx
      rcases hx with rfl | rfl | rfl <;> exact fol_of (by omega)
theorem blk_first (n : Int) (h : signI n = true) (r : List UInt8) : firstL (blk n ++ r) = (n, ((blk n).length : Int)) := by
  obtain ⟨c, t, hc, _⟩ := blk_form n h
  have hp : 1 ≤ (blk n).length := by rw [hc]; simp
  refine first_of n h _ _ hp (by simp) ?_
  rw [List.take_left' rfl]
  exact (map_back _ _ (bytesI_byte n)).1 rfl
def Signs (ns : List Int) : Prop := ∀ n ∈ ns, signI n = true
theorem whole_cat (ns : List Int) (h : Signs ns) : wholeL (cat ns) = true := by
  induction ns with
  | nil => rfl
  | cons n ns ih =>
    have hn := h n (by simp)
    obtain ⟨c, t, hc, _⟩ := blk_form n hn
    show wholeL (blk n ++ cat ns) = true
    rw [wholeL_eq, blk_first n hn, if_neg (by rw [hc]; simp)]
    simp only [Int.toNat_natCast, List.drop_left']
    exact ih (fun m hm => h m (by simp [hm]))
theorem cnt_append (a b : List UInt8) : cnt (a ++ b) = cnt a + cnt b := by unfold cnt; rw [List.countP_append]; simp
theorem cnt_cat (ns : List Int) (h : Signs ns) : cnt (cat ns) = ns.length := by
  induction ns with
  | nil => rfl
  | cons n ns ih =>
    have hn := h n (by simp)
    obtain ⟨c, t, hc, h0, h1⟩ := blk_form n hn
    show cnt (blk n ++ cat ns) = _
    have ht : cnt t = 0 := by
      unfold cnt; rw [List.countP_eq_zero.2]; rfl
      intro x hx; simp [fol, h1 x hx]
    have hb : cnt (blk n) = 1 := by
      rw [hc]; show cnt ([c] ++ t) = 1
      rw [cnt_append, ht]; simp [cnt, fol, h0]
    rw [cnt_append, hb, ih (fun m hm => h m (by simp [hm]))]; simp; omega
def edgeL (l : List UInt8) (a : Nat) : Prop := a = l.length ∨ ∃ c, l[a]? = some c ∧ folI c.toNat = false
theorem edge_cut (ns : List Int) (h : Signs ns) : ∀ a, edgeL (cat ns) a → ∃ j, (cat ns).take a = cat (ns.take j) ∧ (cat ns).drop a = cat (ns.drop j) := by
  induction ns with
  | nil => intro a _; exact ⟨0, by simp [cat], by simp [cat]⟩
  | cons n ns ih =>
    intro a ha
    have hn := h n (by simp)
    obtain ⟨c, t, hc, h0, h1⟩ := blk_form n hn
    by_cases hz : a = 0
    · subst hz; exact ⟨0, by simp [cat], by simp⟩
    have e : cat (n :: ns) = blk n ++ cat ns := rfl
    by_cases hlt : a < (blk n).length
    · exfalso
      rcases ha with ha | ⟨x, hx, hf⟩
      · rw [e] at ha; simp at ha; omega
      · rw [e, List.getElem?_append_left hlt, hc] at hx
        obtain ⟨b, rfl⟩ : ∃ b, a = b + 1 := ⟨a - 1, by omega⟩
        simp at hx
        have := h1 x (List.mem_of_getElem? hx)
        rw [hf] at this; cases this
    · have hs : Signs ns := fun m hm => h m (by simp [hm])
      obtain ⟨j, hj1, hj2⟩ := ih hs (a - (blk n).length) (by
        rcases ha with ha | ⟨x, hx, hf⟩
        · left; rw [e] at ha; simp at ha; omega
        · right; exact ⟨x, by rw [e, List.getElem?_append_right (by omega)] at hx; exact hx, hf⟩)
      refine ⟨j + 1, ?_, ?_⟩
      · rw [e, List.take_append, List.take_of_length_le (by omega), hj1]; rfl
      · rw [e, List.drop_append, List.drop_eq_nil_of_le (by omega), hj2]; rfl
theorem piece_whole (ns : List Int) (h : Signs ns) (a b : Nat) (hab : a ≤ b) (hb : b ≤ (cat ns).length) (ha : edgeL (cat ns) a) (he : edgeL (cat ns) b) : wholeL (((cat ns).drop a).take (b - a)) = true := by
  obtain ⟨j, _, hj⟩ := edge_cut ns h a ha
  have hs : Signs (ns.drop j) := fun m hm => h m (List.mem_of_mem_drop hm)
  have he2 : edgeL (cat (ns.drop j)) (b - a) := by
    rw [← hj]
    rcases he with he | ⟨c, hc, hf⟩
    · left; rw [List.length_drop]; omega
    · right; exact ⟨c, by rw [List.getElem?_drop]; rw [show a + (b - a) = b by omega]; exact hc, hf⟩
  obtain ⟨i, hi, _⟩ := edge_cut _ hs (b - a) he2
  rw [hj, hi]
  exact whole_cat _ (fun m hm => hs m (List.mem_of_mem_take hm))
theorem edge_of (s : ByteArray) (a : Nat) (h : edgeB s a = true) : edgeL s.data.toList a := by
  unfold edgeB at h
  by_cases hc : 0 ≤ (a : Int) ∧ (a : Int) < s.size
  · rw [dif_pos hc] at h
    right
    refine ⟨s[a]'(by omega), ?_, ?_⟩
    · rw [List.getElem?_eq_getElem (by simp; omega)]; rfl
    · simpa using h
  · rw [dif_neg hc] at h
    left; simp at h; rw [len_data]; omega
end Rn
end Go.Proofs.Ytndenipjiclkaaa
