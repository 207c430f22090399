/- Plain facts on signs of texts (no program is named here): what the functions of layer 1 answer, as functions on lists of bytes. Plain facts on the sign with which a text begins (no program is named here). Plain facts: the document's way to find the sign with which a text begins finds the same one (no program is named here). Plain facts: signs one behind the other, and their edges (no program is named here). Regular expressions: plain facts: how a text's signs are read. Regular expressions: plain facts: what is read has right kinds; a part of what may be may be. -/
import Derived.Laws.BytesArg
import Derived.Lib.Strings
import Derived.Test.YthapedadnbkgnaaG1
namespace Go.Proofs.Ythapedadnbkgnaa
set_option linter.unusedVariables false
set_option linter.unusedSimpArgs false
namespace Rn
def folI (n : Int) : Bool := decide (128 ≤ n) && decide (n ≤ 191)
def fol (c : UInt8) : Bool := folI c.toNat
def sizeI (n : Int) : Int :=
  if n < 0 ∨ 1114112 ≤ n then 0 else if 55296 ≤ n ∧ n ≤ 57343 then 0 else if n < 128 then 1 else if n < 2048 then 2 else if n < 65536 then 3 else 4
def leadI (k : Int) : Int := if k = 2 then 192 else if k = 3 then 224 else if k = 4 then 240 else 0
def promI (c : Int) : Int := if c < 128 then 1 else if c < 192 then 0 else if c < 224 then 2 else if c < 240 then 3 else if c < 248 then 4 else 0
def signI (n : Int) : Bool := decide (0 ≤ n) && decide (n < 1114112) && !(decide (55296 ≤ n) && decide (n ≤ 57343))
def cnt (l : List UInt8) : Int := (l.countP fun c => !fol c : Nat)
theorem len_data0 (s : ByteArray) : s.data.toList.length = s.size := by simp
def edgeB (s : ByteArray) (i : Int) : Bool := if h : 0 ≤ i ∧ i < s.size then !folI (s[i.toNat]).toNat else decide (i = s.size)
def nxU (s : ByteArray) (i : Int) : Nat → Nat
  | 0 => s.size
  | t + 1 => if (edgeB s ((s.size : Int) - t) && decide (i < (s.size : Int) - t)) = true then s.size - t else nxU s i t
def next (s : ByteArray) (i : Int) : Nat := if i < 0 then 0 else nxU s i (s.size + 1)
def bkU (s : ByteArray) (i : Int) : Nat → Nat
  | 0 => 0
  | t + 1 => if (edgeB s t && decide ((t : Int) < i)) = true then t else bkU s i t
def back (s : ByteArray) (i : Int) : Nat := bkU s i (s.size + 1)
theorem drop_at (s : ByteArray) (k : Nat) (h : k < s.size) : s.data.toList.drop k = s[k] :: s.data.toList.drop (k + 1) := by
  rw [List.drop_eq_getElem_cons (by simpa using h)]; rfl
end Rn
namespace Rn
def dec : Int → List UInt8 → Option Int
  | n, [] => some n
  | n, c :: t => if folI c.toNat = true then dec (n * 64 + c.toNat - 128) t else none
def fin (k : Int) : Option Int → Int × Int
  | none => (-1, 0)
  | some n => if sizeI n = k then (n, k) else (-1, 0)
def firstL : List UInt8 → Int × Int
  | [] => (-1, 0)
  | c :: t => if promI c.toNat = 0 ∨ ((c :: t).length : Int) < promI c.toNat then (-1, 0) else fin (promI c.toNat) (dec (c.toNat - leadI (promI c.toNat)) (((c :: t).take (promI c.toNat).toNat).drop 1))
theorem firstL_cons (c : UInt8) (t : List UInt8) : firstL (c :: t) = if promI c.toNat = 0 ∨ ((c :: t).length : Int) < promI c.toNat then (-1, 0) else fin (promI c.toNat) (dec (c.toNat - leadI (promI c.toNat)) (((c :: t).take (promI c.toNat).toNat).drop 1)) := rfl
theorem prom_bd (c : Int) : 0 ≤ promI c ∧ promI c ≤ 4 := by unfold promI; (repeat' split) <;> omega
theorem lead_bd (c : Int) : 0 ≤ leadI c ∧ leadI c ≤ 240 := by unfold leadI; (repeat' split) <;> omega
def bd : Nat → Int
  | 0 => 256
  | j + 1 => 64 * bd j + 64
theorem bd_le (j : Nat) (h : j ≤ 3) : 256 ≤ bd j ∧ bd j ≤ 134217728 := by
  match j, h with
  | 0, _ => simp [bd]
  | 1, _ => simp [bd]
  | 2, _ => simp [bd]
  | 3, _ => simp [bd]
theorem list0 (s : ByteArray) (h : 0 < s.size) : s.data.toList = s[0] :: s.data.toList.drop 1 := by
  have := drop_at s 0 h; simpa using this
theorem len_data (s : ByteArray) : s.data.toList.length = s.size := by simp
theorem firstL_nil (s : ByteArray) (h : s.size = 0) : firstL s.data.toList = (-1, 0) := by
  have : s.data.toList = [] := List.eq_nil_of_length_eq_zero (by rw [len_data]; exact h)
  rw [this]; rfl
theorem firstL_no (s : ByteArray) (h : 0 < s.size) (hp : promI s[0].toNat = 0 ∨ (s.size : Int) < promI s[0].toNat) : firstL s.data.toList = (-1, 0) := by
  have e := list0 s h
  have hl : ((s[0] :: s.data.toList.drop 1).length : Int) = s.size := by rw [← e, len_data]
  rw [e, firstL_cons, hl, if_pos hp]
theorem firstL_yes (s : ByteArray) (h : 0 < s.size) (hp : ¬ (promI s[0].toNat = 0 ∨ (s.size : Int) < promI s[0].toNat)) :
    firstL s.data.toList = fin (promI s[0].toNat) (dec (s[0].toNat - leadI (promI s[0].toNat)) ((s.data.toList.take (promI s[0].toNat).toNat).drop 1)) := by
  have e := list0 s h
  have hl : ((s[0] :: s.data.toList.drop 1).length : Int) = s.size := by rw [← e, len_data]
  have : firstL (s[0] :: s.data.toList.drop 1) = fin (promI s[0].toNat) (dec (s[0].toNat - leadI (promI s[0].toNat)) (((s[0] :: s.data.toList.drop 1).take (promI s[0].toNat).toNat).drop 1)) := by
    rw [firstL_cons, hl, if_neg hp]
  rw [← e] at this; exact this
theorem take_drop_at (s : ByteArray) (k j : Nat) (h : j < k) (hk : k ≤ s.size) : (s.data.toList.take k).drop j = s[j] :: (s.data.toList.take k).drop (j + 1) := by
  rw [List.drop_eq_getElem_cons (by simp; omega)]; congr 1; simp; rfl
theorem take_drop_end (s : ByteArray) (k : Nat) : (s.data.toList.take k).drop k = [] := List.drop_eq_nil_of_le (by simp; omega)
theorem firstL_bd (l : List UInt8) : 0 ≤ (firstL l).2 ∧ (firstL l).2 ≤ l.length := by
  cases l with
  | nil => simp [firstL]
  | cons c t =>
    rw [firstL_cons]
    have := prom_bd c.toNat
    split
    · simp; omega
    · rename_i h
      cases dec (c.toNat - leadI (promI c.toNat)) (((c :: t).take (promI c.toNat).toNat).drop 1) with
      | none => simp [fin]; omega
      | some n => simp only [fin]; split <;> simp only [] <;> omega
def bytesI (n : Int) : List Int :=
  if signI n = true then
    if n < 128 then [n] else if n < 2048 then [192 + n / 64, 128 + n % 64]
    else if n < 65536 then [224 + n / 4096, 128 + n / 64 % 64, 128 + n % 64]
    else [240 + n / 262144, 128 + n / 4096 % 64, 128 + n / 64 % 64, 128 + n % 64]
  else []
theorem bytesI_1 (n : Int) (h : 0 ≤ n ∧ n < 128) : signI n = true ∧ bytesI n = [n] ∧ sizeI n = 1 := by
  have hs : signI n = true := by simp [signI]; omega
  refine ⟨hs, ?_, ?_⟩
  · unfold bytesI; rw [if_pos hs, if_pos (by omega)]
  · unfold sizeI; rw [if_neg (by omega), if_neg (by omega), if_pos (by omega)]
theorem bytesI_2 (n : Int) (h : 128 ≤ n ∧ n < 2048) : signI n = true ∧ bytesI n = [192 + n / 64, 128 + n % 64] ∧ sizeI n = 2 := by
  have hs : signI n = true := by simp [signI]; omega
  refine ⟨hs, ?_, ?_⟩
  · unfold bytesI; rw [if_pos hs, if_neg (by omega), if_pos (by omega)]
  · unfold sizeI; rw [if_neg (by omega), if_neg (by omega), if_neg (by omega), if_pos (by omega)]
theorem bytesI_3 (n : Int) (h : 2048 ≤ n ∧ n < 65536) (h2 : ¬ (55296 ≤ n ∧ n ≤ 57343)) : signI n = true ∧ bytesI n = [224 + n / 4096, 128 + n / 64 % 64, 128 + n % 64] ∧ sizeI n = 3 := by
  have hs : signI n = true := by simp [signI]; omega
  refine ⟨hs, ?_, ?_⟩
  · unfold bytesI; rw [if_pos hs, if_neg (by omega), if_neg (by omega), if_pos (by omega)]
  · unfold sizeI; rw [if_neg (by omega), if_neg (by omega), if_neg (by omega), if_neg (by omega), if_pos (by omega)]
theorem bytesI_4 (n : Int) (h : 65536 ≤ n ∧ n < 1114112) : signI n = true ∧ bytesI n = [240 + n / 262144, 128 + n / 4096 % 64, 128 + n / 64 % 64, 128 + n % 64] ∧ sizeI n = 4 := by
  have hs : signI n = true := by simp [signI]; omega
  refine ⟨hs, ?_, ?_⟩
  · unfold bytesI; rw [if_pos hs, if_neg (by omega), if_neg (by omega), if_neg (by omega)]
  · unfold sizeI; rw [if_neg (by omega), if_neg (by omega), if_neg (by omega), if_neg (by omega), if_neg (by omega)]
theorem bytesI_0 (n : Int) (h : ¬ (0 ≤ n ∧ n < 1114112 ∧ ¬ (55296 ≤ n ∧ n ≤ 57343))) : signI n = false ∧ bytesI n = [] ∧ sizeI n = 0 := by
  have hs : signI n = false := by rw [← Bool.not_eq_true]; simp [signI]; omega
  refine ⟨hs, ?_, ?_⟩
  · unfold bytesI; rw [hs]; simp
  · unfold sizeI; (repeat' split) <;> omega
def wholeN : Nat → List UInt8 → Bool
  | 0, l => l.isEmpty
  | f + 1, l => if (firstL l).2 ≤ 0 then l.isEmpty else wholeN f (l.drop (firstL l).2.toNat)
def wholeL (l : List UInt8) : Bool := wholeN l.length l
theorem wholeN_is (f : Nat) : ∀ l : List UInt8, l.length ≤ f → wholeN f l = wholeN l.length l := by
  induction f using Nat.strongRecOn with
  | _ f ih =>
    intro l h
    cases f with
    | zero => rw [Nat.le_zero.1 h]
    | succ f =>
      cases hl : l.length with
      | zero =>
        have : l = [] := List.eq_nil_of_length_eq_zero hl
        subst this; rfl
      | succ n =>
        unfold wholeN
        split
        · rfl
        · have hk := firstL_bd l
          have hd : (l.drop (firstL l).2.toNat).length ≤ n := by rw [List.length_drop]; omega
          rw [ih f (by omega) _ (by omega), ih n (by omega) _ hd]
theorem wholeL_eq (l : List UInt8) : wholeL l = if (firstL l).2 ≤ 0 then l.isEmpty else wholeL (l.drop (firstL l).2.toNat) := by
  have h1 : wholeL l = wholeN (l.length + 1) l := (wholeN_is _ l (by omega)).symm
  rw [h1]
  show (if (firstL l).2 ≤ 0 then l.isEmpty else wholeN l.length (l.drop (firstL l).2.toNat)) = _
  split
  · rfl
  · exact wholeN_is _ _ (by rw [List.length_drop]; omega)
end Rn
namespace Rn
def toI (c : UInt8) : Int := c.toNat
def numL : List UInt8 → Nat → Int
  | c0 :: _, 1 => c0.toNat
  | c0 :: c1 :: _, 2 => 64 * (c0.toNat - 192) + c1.toNat % 64
  | c0 :: c1 :: c2 :: _, 3 => 64 * (64 * (c0.toNat - 224) + c1.toNat % 64) + c2.toNat % 64
  | c0 :: c1 :: c2 :: c3 :: _, 4 => 64 * (64 * (64 * (c0.toNat - 240) + c1.toNat % 64) + c2.toNat % 64) + c3.toNat % 64
  | _, _ => 0
theorem size_cases {n k : Int} (h : sizeI n = k) (hk : 1 ≤ k) :
    (k = 1 ∧ 0 ≤ n ∧ n < 128) ∨ (k = 2 ∧ 128 ≤ n ∧ n < 2048) ∨ (k = 3 ∧ 2048 ≤ n ∧ n < 65536 ∧ ¬ (55296 ≤ n ∧ n ≤ 57343)) ∨ (k = 4 ∧ 65536 ≤ n ∧ n < 1114112) := by
  unfold sizeI at h; (repeat' split at h) <;> omega
theorem sign_cases {n : Int} (h : signI n = true) :
    (0 ≤ n ∧ n < 128) ∨ (128 ≤ n ∧ n < 2048) ∨ (2048 ≤ n ∧ n < 65536 ∧ ¬ (55296 ≤ n ∧ n ≤ 57343)) ∨ (65536 ≤ n ∧ n < 1114112) := by
  simp [signI] at h; omega
theorem prom_2 {c : Int} (h : 192 ≤ c ∧ c < 224) : promI c = 2 := by unfold promI; rw [if_neg (by omega), if_neg (by omega), if_pos (by omega)]
theorem prom_3 {c : Int} (h : 224 ≤ c ∧ c < 240) : promI c = 3 := by unfold promI; rw [if_neg (by omega), if_neg (by omega), if_neg (by omega), if_pos (by omega)]
theorem prom_4 {c : Int} (h : 240 ≤ c ∧ c < 248) : promI c = 4 := by unfold promI; rw [if_neg (by omega), if_neg (by omega), if_neg (by omega), if_neg (by omega), if_pos (by omega)]
theorem prom_1 {c : Int} (h : c < 128) : promI c = 1 := by unfold promI; rw [if_pos (by omega)]
theorem prom_cases {c : Int} (h : promI c ≠ 0) : (promI c = 1 ∧ c < 128) ∨ (promI c = 2 ∧ 192 ≤ c ∧ c < 224) ∨ (promI c = 3 ∧ 224 ≤ c ∧ c < 240) ∨ (promI c = 4 ∧ 240 ≤ c ∧ c < 248) := by
  unfold promI at h ⊢; (repeat' split at h) <;> first | omega | (simp_all; done) | (simp_all; omega)
theorem lead_1 : leadI 1 = 0 := by decide
theorem lead_2 : leadI 2 = 192 := by decide
theorem lead_3 : leadI 3 = 224 := by decide
theorem lead_4 : leadI 4 = 240 := by decide
theorem fol_of {c : UInt8} (h : 128 ≤ (c.toNat : Int) ∧ (c.toNat : Int) ≤ 191) : folI c.toNat = true := by simp [folI]; omega
theorem of_fol {c : UInt8} (h : folI c.toNat = true) : 128 ≤ (c.toNat : Int) ∧ (c.toNat : Int) ≤ 191 := by simpa [folI] using h
theorem first_of_1 (c0 : UInt8) (t : List UInt8) (n : Int) (hn : 0 ≤ n ∧ n < 128) (h0 : (c0.toNat : Int) = n) : firstL (c0 :: t) = (n, 1) := by
  have hp : promI c0.toNat = 1 := prom_1 (by omega)
  rw [firstL_cons, hp, if_neg (by simp; omega), lead_1]
  have hs := (bytesI_1 n hn).2.2
  simp [dec, fin, h0, hs]
theorem first_of_2 (c0 c1 : UInt8) (t : List UInt8) (n : Int) (hn : 128 ≤ n ∧ n < 2048) (h0 : (c0.toNat : Int) = 192 + n / 64) (h1 : (c1.toNat : Int) = 128 + n % 64) : firstL (c0 :: c1 :: t) = (n, 2) := by
  have hp : promI c0.toNat = 2 := prom_2 (by omega)
  have f1 := fol_of (c := c1) (by omega)
  rw [firstL_cons, hp, if_neg (by simp; omega), lead_2]
  have hs := (bytesI_2 n hn).2.2
  have e : ((c0.toNat : Int) - 192) * 64 + c1.toNat - 128 = n := by omega
  simp [dec, fin, f1, e, hs]
theorem first_of_3 (c0 c1 c2 : UInt8) (t : List UInt8) (n : Int) (hn : 2048 ≤ n ∧ n < 65536) (hn2 : ¬ (55296 ≤ n ∧ n ≤ 57343)) (h0 : (c0.toNat : Int) = 224 + n / 4096) (h1 : (c1.toNat : Int) = 128 + n / 64 % 64) (h2 : (c2.toNat : Int) = 128 + n % 64) : firstL (c0 :: c1 :: c2 :: t) = (n, 3) := by
  have hp : promI c0.toNat = 3 := prom_3 (by omega)
  have f1 := fol_of (c := c1) (by omega)
  have f2 := fol_of (c := c2) (by omega)
  rw [firstL_cons, hp, if_neg (by simp; omega), lead_3]
  have hs := (bytesI_3 n hn hn2).2.2
  have e : (((c0.toNat : Int) - 224) * 64 + c1.toNat - 128) * 64 + c2.toNat - 128 = n := by omega
  simp [dec, fin, f1, f2, e, hs]
theorem first_of_4 (c0 c1 c2 c3 : UInt8) (t : List UInt8) (n : Int) (hn : 65536 ≤ n ∧ n < 1114112) (h0 : (c0.toNat : Int) = 240 + n / 262144) (h1 : (c1.toNat : Int) = 128 + n / 4096 % 64) (h2 : (c2.toNat : Int) = 128 + n / 64 % 64) (h3 : (c3.toNat : Int) = 128 + n % 64) : firstL (c0 :: c1 :: c2 :: c3 :: t) = (n, 4) := by
  have hp : promI c0.toNat = 4 := prom_4 (by omega)
  have f1 := fol_of (c := c1) (by omega)
  have f2 := fol_of (c := c2) (by omega)
  have f3 := fol_of (c := c3) (by omega)
  rw [firstL_cons, hp, if_neg (by simp; omega), lead_4]
  have hs := (bytesI_4 n hn).2.2
  have e : ((((c0.toNat : Int) - 240) * 64 + c1.toNat - 128) * 64 + c2.toNat - 128) * 64 + c3.toNat - 128 = n := by omega
  simp [dec, fin, f1, f2, f3, e, hs]
theorem shape1 {t : List UInt8} (h : 1 ≤ t.length) : ∃ c1 t', t = c1 :: t' := by
  cases t with
  | nil => simp at h
  | cons c t => exact ⟨c, t, rfl⟩
theorem first_of (n : Int) (hs : signI n = true) (l : List UInt8) (k : Nat) (hk : 1 ≤ k) (hl : k ≤ l.length) (hb : bytesI n = (l.take k).map toI) : firstL l = (n, (k : Int)) := by
  rcases sign_cases hs with h | h | ⟨h, h2, h3⟩ | h
  · rw [(bytesI_1 n h).2.1] at hb
    match l, k, hk, hl with
    | [], _, hk, hl => simp at hl; omega
    | c0 :: t, 1, _, _ => simp [toI] at hb; exact first_of_1 c0 t n h hb.symm
    | c0 :: c1 :: t, k + 2, _, _ => simp at hb
  · rw [(bytesI_2 n h).2.1] at hb
    match l, k, hk, hl with
    | [], _, hk, hl => simp at hl; omega
    | c0 :: t, 1, _, _ => simp at hb
    | c0 :: c1 :: t, 2, _, _ => simp [toI] at hb; exact first_of_2 c0 c1 t n h hb.1.symm hb.2.symm
    | c0 :: c1 :: c2 :: t, k + 3, _, _ => simp at hb
  · rw [(bytesI_3 n ⟨h, h2⟩ h3).2.1] at hb
    match l, k, hk, hl with
    | [], _, hk, hl => simp at hl; omega
    | c0 :: t, 1, _, _ => simp at hb
    | c0 :: c1 :: t, 2, _, _ => simp at hb
    | c0 :: c1 :: c2 :: t, 3, _, _ => simp [toI] at hb; exact first_of_3 c0 c1 c2 t n ⟨h, h2⟩ h3 hb.1.symm hb.2.1.symm hb.2.2.symm
    | c0 :: c1 :: c2 :: c3 :: t, k + 4, _, _ => simp at hb
  · rw [(bytesI_4 n h).2.1] at hb
    match l, k, hk, hl with
    | [], _, hk, hl => simp at hl; omega
    | c0 :: t, 1, _, _ => simp at hb
    | c0 :: c1 :: t, 2, _, _ => simp at hb
    | c0 :: c1 :: c2 :: t, 3, _, _ => simp at hb
    | c0 :: c1 :: c2 :: c3 :: t, 4, _, _ => simp [toI] at hb; exact first_of_4 c0 c1 c2 c3 t n h hb.1.symm hb.2.1.symm hb.2.2.1.symm hb.2.2.2.symm
    | c0 :: c1 :: c2 :: c3 :: c4 :: t, k + 5, _, _ => simp at hb
theorem of_first (l : List UInt8) (n k : Int) (h : firstL l = (n, k)) (hk : 0 < k) :
    signI n = true ∧ ∃ j : Nat, k = j ∧ 1 ≤ j ∧ j ≤ 4 ∧ j ≤ l.length ∧ bytesI n = (l.take j).map toI ∧ numL l j = n ∧ 0 ≤ ((l.getD 0 0).toNat : Int) - leadI j := by
  cases l with
  | nil => simp [firstL] at h; omega
  | cons c0 t =>
    rw [firstL_cons] at h
    by_cases hp : promI c0.toNat = 0 ∨ ((c0 :: t).length : Int) < promI c0.toNat
    · rw [if_pos hp] at h; simp at h; omega
    rw [if_neg hp] at h
    cases hd : dec (c0.toNat - leadI (promI c0.toNat)) (((c0 :: t).take (promI c0.toNat).toNat).drop 1) with
    | none => rw [hd] at h; simp [fin] at h; omega
    | some m =>
      rw [hd] at h; simp only [fin] at h
      by_cases hz : sizeI m = promI c0.toNat
      · rw [if_pos hz] at h
        simp only [Prod.mk.injEq] at h
        obtain ⟨rfl, rfl⟩ := h
        have hlen : promI c0.toNat ≤ ((c0 :: t).length : Int) := by omega
        rcases prom_cases (c := c0.toNat) (by omega) with ⟨e, hc⟩ | ⟨e, hc⟩ | ⟨e, hc⟩ | ⟨e, hc⟩
        · rw [e] at hz hd hlen ⊢
          rw [lead_1] at hd; simp [dec] at hd
          have hr : 0 ≤ m ∧ m < 128 := by rcases size_cases hz (by omega) with h | h | h | h <;> omega
          refine ⟨(bytesI_1 m hr).1, 1, rfl, by omega, by omega, by simp, ?_, ?_, ?_⟩
          · rw [(bytesI_1 m hr).2.1]; simp [toI, hd]
          · simp [numL, hd]
          · simp [lead_1]
        · rw [e] at hz hd hlen ⊢
          have hr : 128 ≤ m ∧ m < 2048 := by rcases size_cases hz (by omega) with h | h | h | h <;> omega
          obtain ⟨c1, t, rfl⟩ := shape1 (t := t) (by simp at hlen; omega)
          · rw [lead_2] at hd; have hdl : ((c0 :: c1 :: t).take ((2 : Int)).toNat).drop 1 = [c1] := rfl
            rw [hdl] at hd; simp only [dec] at hd
            by_cases f1 : folI c1.toNat = true
            · simp only [f1, if_true, Option.some.injEq] at hd
              have g1 := of_fol f1
              refine ⟨(bytesI_2 m hr).1, 2, rfl, by omega, by omega, by simp, ?_, ?_, ?_⟩
              · rw [(bytesI_2 m hr).2.1]; simp [toI]; omega
              · simp only [numL]; omega
              · simp [lead_2]; omega
            · simp [f1] at hd
        · rw [e] at hz hd hlen ⊢
          have hr : (2048 ≤ m ∧ m < 65536) ∧ ¬ (55296 ≤ m ∧ m ≤ 57343) := by rcases size_cases hz (by omega) with h | h | h | h <;> omega
          obtain ⟨c1, t, rfl⟩ := shape1 (t := t) (by simp at hlen; omega)
          obtain ⟨c2, t, rfl⟩ := shape1 (t := t) (by simp at hlen; omega)
          · rw [lead_3] at hd; have hdl : ((c0 :: c1 :: c2 :: t).take ((3 : Int)).toNat).drop 1 = [c1, c2] := rfl
            rw [hdl] at hd; simp only [dec] at hd
            by_cases f1 : folI c1.toNat = true
            · by_cases f2 : folI c2.toNat = true
              · simp only [f1, f2, if_true, Option.some.injEq] at hd
                have g1 := of_fol f1
                have g2 := of_fol f2
                refine ⟨(bytesI_3 m hr.1 hr.2).1, 3, rfl, by omega, by omega, by simp, ?_, ?_, ?_⟩
                · rw [(bytesI_3 m hr.1 hr.2).2.1]; simp [toI]; omega
                · simp only [numL]; omega
                · simp [lead_3]; omega
              · simp [f1, f2] at hd
            · simp [f1] at hd
        · rw [e] at hz hd hlen ⊢
          have hr : 65536 ≤ m ∧ m < 1114112 := by rcases size_cases hz (by omega) with h | h | h | h <;> omega
          obtain ⟨c1, t, rfl⟩ := shape1 (t := t) (by simp at hlen; omega)
          obtain ⟨c2, t, rfl⟩ := shape1 (t := t) (by simp at hlen; omega)
          obtain ⟨c3, t, rfl⟩ := shape1 (t := t) (by simp at hlen; omega)
          · rw [lead_4] at hd; have hdl : ((c0 :: c1 :: c2 :: c3 :: t).take ((4 : Int)).toNat).drop 1 = [c1, c2, c3] := rfl
            rw [hdl] at hd; simp only [dec] at hd
            by_cases f1 : folI c1.toNat = true
            · by_cases f2 : folI c2.toNat = true
              · by_cases f3 : folI c3.toNat = true
                · simp only [f1, f2, f3, if_true, Option.some.injEq] at hd
                  have g1 := of_fol f1
                  have g2 := of_fol f2
                  have g3 := of_fol f3
                  refine ⟨(bytesI_4 m hr).1, 4, rfl, by omega, by omega, by simp, ?_, ?_, ?_⟩
                  · rw [(bytesI_4 m hr).2.1]; simp [toI]; omega
                  · simp only [numL]; omega
                  · simp [lead_4]; omega
                · simp [f1, f2, f3] at hd
              · simp [f1, f2] at hd
            · simp [f1] at hd
      · rw [if_neg hz] at h; simp at h; omega
theorem bytesI_byte (n : Int) : ∀ x ∈ bytesI n, 0 ≤ x ∧ x < 256 := by
  by_cases hs : signI n = true
  · rcases sign_cases hs with h | h | ⟨h, h2, h3⟩ | h
    · rw [(bytesI_1 n h).2.1]; simp; omega
    · rw [(bytesI_2 n h).2.1]; simp; omega
    · rw [(bytesI_3 n ⟨h, h2⟩ h3).2.1]; simp; omega
    · rw [(bytesI_4 n h).2.1]; simp; omega
  · unfold bytesI; rw [if_neg hs]; simp
theorem map_back (xs : List Int) (l : List UInt8) (h : ∀ x ∈ xs, 0 ≤ x ∧ x < 256) : (xs.map fun n => UInt8.ofNat n.toNat) = l ↔ xs = l.map toI := by
  induction xs generalizing l with
  | nil => cases l <;> simp
  | cons x xs ih =>
    cases l with
    | nil => simp
    | cons c t =>
      have hx := h x (by simp)
      have := ih t (fun y hy => h y (by simp [hy]))
      simp only [List.map_cons, List.cons.injEq, this]
      refine and_congr ?_ Iff.rfl
      unfold toI
      constructor
      · intro e; rw [← e, UInt8.toNat_ofNat']; omega
      · intro e; apply UInt8.toNat.inj; rw [UInt8.toNat_ofNat']; omega
end Rn
namespace Rn
def blk (n : Int) : List UInt8 := (bytesI n).map fun n => UInt8.ofNat n.toNat
def cat : List Int → List UInt8
  | [] => []
  | n :: ns => blk n ++ cat ns
theorem blk_form (n : Int) (h : signI n = true) : ∃ c t, blk n = c :: t ∧ folI c.toNat = false ∧ ∀ x ∈ t, folI x.toNat = true := by
  have hb := (map_back (bytesI n) (blk n) (bytesI_byte n)).1 rfl
  rcases sign_cases h with h | h | ⟨h, h2, h3⟩ | h
  · rw [(bytesI_1 n h).2.1] at hb
    cases hl : blk n with
    | nil => rw [hl] at hb; simp at hb
    | cons c t =>
      rw [hl] at hb; simp [toI] at hb
      obtain ⟨h0, rfl⟩ := hb
      exact ⟨c, [], rfl, by simp [folI]; omega, by simp⟩
  · rw [(bytesI_2 n h).2.1] at hb
    match hl : blk n with
    | [] => rw [hl] at hb; simp at hb
    | [c] => rw [hl] at hb; simp at hb
    | c :: c1 :: t =>
      rw [hl] at hb; simp [toI] at hb
      obtain ⟨h0, h1, rfl⟩ := hb
      refine ⟨c, [c1], rfl, by simp [folI]; omega, ?_⟩
      intro x hx; simp at hx; subst hx; exact fol_of (by omega)
  · rw [(bytesI_3 n ⟨h, h2⟩ h3).2.1] at hb
    match hl : blk n with
    | [] => rw [hl] at hb; simp at hb
    | [c] => rw [hl] at hb; simp at hb
    | [c, c1] => rw [hl] at hb; simp at hb
    | c :: c1 :: c2 :: t =>
      rw [hl] at hb; simp [toI] at hb
      obtain ⟨h0, h1, h4, rfl⟩ := hb
      refine ⟨c, [c1, c2], rfl, by simp [folI]; omega, ?_⟩
      intro x hx; simp at hx
      rcases hx with rfl | rfl <;> exact fol_of (by omega)
  · rw [(bytesI_4 n h).2.1] at hb
    match hl : blk n with
    | [] => rw [hl] at hb; simp at hb
    | [c] => rw [hl] at hb; simp at hb
    | [c, c1] => rw [hl] at hb; simp at hb
    | [c, c1, c2] => rw [hl] at hb; simp at hb
    | c :: c1 :: c2 :: c3 :: t =>
      rw [hl] at hb; simp [toI] at hb
      obtain ⟨h0, h1, h4, h5, rfl⟩ := hb
      refine ⟨c, [c1, c2, c3], rfl, by simp [folI]; omega, ?_⟩
      intro x hx; simp at hx
      rcases hx with rfl | rfl | rfl <;> exact fol_of (by omega)
theorem blk_first (n : Int) (h : signI n = true) (r : List UInt8) : firstL (blk n ++ r) = (n, ((blk n).length : Int)) := by
  obtain ⟨c, t, hc, _⟩ := blk_form n h
  have hp : 1 ≤ (blk n).length := by rw [hc]; simp
  refine first_of n h _ _ hp (by simp) ?_
  rw [List.take_left' rfl]
  exact (map_back _ _ (bytesI_byte n)).1 rfl
def Signs (ns : List Int) : Prop := ∀ n ∈ ns, signI n = true
end Rn
end Go.Proofs.Ythapedadnbkgnaa
namespace Go.Proofs.Ythapedadnbkgnaa
set_option linter.unusedVariables false
set_option linter.unusedSimpArgs false
def Rx.special (c : Int) : Bool := [124, 42, 43, 63, 40, 41, 91, 93, 46, 92].contains c
def Rx.one (f : Nat → Bool) : Rx := .node 1 f []
def Rx.nil : Rx := .node 0 (fun _ => false) []
def Rx.several (k : Nat) : List Rx → Rx
  | [x] => x
  | l => .node k (fun _ => false) l
def Rx.rng (lo hi : Int) (c : Nat) : Bool := decide (lo ≤ c) && decide ((c : Int) ≤ hi)
def Rx.sign (n : Int) : Rx := Rx.several 2 ((Rn.bytesI n).map fun b => Rx.one (Rx.rng b b))
def Rx.but (f : Nat → Bool) : Rx :=
  .node 3 (fun _ => false) [Rx.one fun c => decide (c < 128) && !f c,
    .node 2 (fun _ => false) [Rx.one (Rx.rng 194 223), Rx.one (Rx.rng 128 191)],
    .node 2 (fun _ => false) [Rx.one (Rx.rng 224 239), Rx.one (Rx.rng 128 191), Rx.one (Rx.rng 128 191)],
    .node 2 (fun _ => false) [Rx.one (Rx.rng 240 244), Rx.one (Rx.rng 128 191), Rx.one (Rx.rng 128 191), Rx.one (Rx.rng 128 191)]]
def Rx.star (x : Rx) : Rx := .node 4 (fun _ => false) [x]
def Rx.plus (x : Rx) : Rx := .node 2 (fun _ => false) [x, Rx.star x]
def Rx.opt (x : Rx) : Rx := .node 3 (fun _ => false) [x, Rx.nil]
def Rx.esc : List Int → Option (Int × List Int)
  | [] => none
  | c :: r => if c = 110 then some (10, r) else if c = 116 then some (9, r) else if c = 114 then some (13, r) else if (Rx.special c || c == 45 || c == 94) = true then some (c, r) else none
def Rx.bound : List Int → Option (Int × List Int)
  | [] => none
  | c :: r => if c = 92 then Rx.esc r else if (decide (127 < c) || c == 93 || c == 45 || c == 94) = true then none else some (c, r)
def Rx.item (l : List Int) : Option ((Int × Int) × List Int) :=
  match Rx.bound l with
  | none => none
  | some (lo, r) =>
    if r.head? = some 45 then
      match Rx.bound (r.drop 1) with
      | none => none
      | some (hi, r') => if hi < lo then none else some ((lo, hi), r')
    else some ((lo, lo), r)
theorem Rx.esc_len {l : List Int} {c : Int} {r : List Int} (h : Rx.esc l = some (c, r)) : r.length < l.length := by
  cases l with
  | nil => simp [Rx.esc] at h
  | cons a t =>
    simp only [Rx.esc] at h
    repeat' (split at h)
    all_goals (first | (simp only [Option.some.injEq, Prod.mk.injEq] at h; rw [← h.2]; simp) | simp at h)
theorem Rx.bound_len {l : List Int} {c : Int} {r : List Int} (h : Rx.bound l = some (c, r)) : r.length < l.length := by
  cases l with
  | nil => simp [Rx.bound] at h
  | cons a t =>
    simp only [Rx.bound] at h
    split at h
    · have := Rx.esc_len h; simp; omega
    · split at h
      · simp at h
      · simp only [Option.some.injEq, Prod.mk.injEq] at h; rw [← h.2]; simp
theorem Rx.item_len {l : List Int} {p : Int × Int} {r : List Int} (h : Rx.item l = some (p, r)) : r.length < l.length := by
  simp only [Rx.item] at h
  split at h
  · simp at h
  · rename_i lo r1 h1
    have h1 := Rx.bound_len h1
    split at h
    · split at h
      · simp at h
      · rename_i hi r2 h2
        have h2 := Rx.bound_len h2
        split at h
        · simp at h
        · simp only [Option.some.injEq, Prod.mk.injEq] at h; rw [← h.2]; simp at h2; omega
    · simp only [Option.some.injEq, Prod.mk.injEq] at h; rw [← h.2]; exact h1
def Rx.items (f : Nat → Bool) (l : List Int) : Option ((Nat → Bool) × List Int) :=
  match h : Rx.item l with
  | none => none
  | some ((lo, hi), r) => if r.head? = some 93 then some ((fun c => f c || Rx.rng lo hi c), r.drop 1) else Rx.items (fun c => f c || Rx.rng lo hi c) r
termination_by l.length
decreasing_by exact Rx.item_len h
theorem Rx.items_eq (f : Nat → Bool) (l : List Int) : Rx.items f l = match Rx.item l with
    | none => none
    | some ((lo, hi), r) => if r.head? = some 93 then some ((fun c => f c || Rx.rng lo hi c), r.drop 1) else Rx.items (fun c => f c || Rx.rng lo hi c) r := by
  rw [Rx.items]; split <;> simp_all
theorem Rx.items_len : ∀ (n : Nat) (f : Nat → Bool) (l : List Int) (g : Nat → Bool) (r : List Int), l.length ≤ n → Rx.items f l = some (g, r) → r.length < l.length
  | n, f, l, g, r, hn, h => by
    rw [Rx.items_eq] at h
    split at h
    · simp at h
    · rename_i lo hi r1 h1
      have h1 := Rx.item_len h1
      split at h
      · simp only [Option.some.injEq, Prod.mk.injEq] at h; rw [← h.2]; simp; omega
      · cases n with
        | zero => omega
        | succ n => have := Rx.items_len n _ _ _ _ (by omega) h; omega
def Rx.cls (l : List Int) : Option (Rx × List Int) :=
  if l.head? = some 94 then (Rx.items (fun _ => false) (l.drop 1)).map fun p => (Rx.but (fun c => p.1 c || Rx.rng 10 10 c), p.2)
  else (Rx.items (fun _ => false) l).map fun p => (Rx.one p.1, p.2)
theorem Rx.cls_len {l : List Int} {x : Rx} {r : List Int} (h : Rx.cls l = some (x, r)) : r.length < l.length := by
  simp only [Rx.cls] at h
  split at h
  · simp only [Option.map_eq_some_iff, Prod.mk.injEq] at h
    obtain ⟨⟨g, r'⟩, h1, _, h2⟩ := h
    have := Rx.items_len _ _ _ _ _ (Nat.le_refl _) h1
    simp only at h2; subst h2; simp at this; omega
  · simp only [Option.map_eq_some_iff, Prod.mk.injEq] at h
    obtain ⟨⟨g, r'⟩, h1, _, h2⟩ := h
    have := Rx.items_len _ _ _ _ _ (Nat.le_refl _) h1
    simp only at h2; subst h2; exact this
def Rx.post (x : Rx) : List Int → Rx × List Int
  | [] => (x, [])
  | c :: r => if c = 42 then Rx.post (Rx.star x) r else if c = 43 then Rx.post (Rx.plus x) r else if c = 63 then Rx.post (Rx.opt x) r else (x, c :: r)
theorem Rx.post_len : ∀ (l : List Int) (x : Rx), (Rx.post x l).2.length ≤ l.length
  | [], x => by simp [Rx.post]
  | c :: r, x => by
    simp only [Rx.post]
    repeat' split
    · have := Rx.post_len r (Rx.star x); simp; omega
    · have := Rx.post_len r (Rx.plus x); simp; omega
    · have := Rx.post_len r (Rx.opt x); simp; omega
    · simp
def Rx.catOf : List Rx → Rx
  | [] => Rx.nil
  | l => Rx.several 2 l
mutual
def Rx.repN : Nat → List Int → Option (Rx × List Int)
  | 0, _ => none
  | _ + 1, [] => none
  | q + 1, c :: r =>
    if c = 40 then
      match Rx.altN q r with
      | none => none
      | some (xs, t) => if t.head? = some 41 then some (Rx.post (Rx.several 3 xs) (t.drop 1)) else none
    else if c = 91 then (Rx.cls r).map fun p => Rx.post p.1 p.2
    else if c = 46 then some (Rx.post (Rx.but (Rx.rng 10 10)) r)
    else if c = 92 then (Rx.esc r).map fun p => Rx.post (Rx.sign p.1) p.2
    else if Rx.special c = true then none
    else some (Rx.post (Rx.sign c) r)
def Rx.catN : Nat → List Int → Option (List Rx × List Int)
  | 0, _ => none
  | q + 1, l =>
    if (l.head? = none ∨ l.head? = some 124) ∨ l.head? = some 41 then some ([], l)
    else match Rx.repN q l with
      | none => none
      | some (x, r) => match Rx.catN q r with
        | none => none
        | some (xs, t) => some (x :: xs, t)
def Rx.altN : Nat → List Int → Option (List Rx × List Int)
  | 0, _ => none
  | q + 1, l => match Rx.catN q l with
    | none => none
    | some (xs, r) => if r.head? = some 124 then (match Rx.altN q (r.drop 1) with
        | none => none
        | some (ys, t) => some (Rx.catOf xs :: ys, t))
      else some ([Rx.catOf xs], r)
end
theorem Rx.parse_len : ∀ (q : Nat), (∀ (l : List Int) x r, Rx.repN q l = some (x, r) → r.length < l.length) ∧ (∀ (l : List Int) xs r, Rx.catN q l = some (xs, r) → r.length ≤ l.length) ∧ (∀ (l : List Int) xs r, Rx.altN q l = some (xs, r) → r.length ≤ l.length)
  | 0 => by simp [Rx.repN, Rx.catN, Rx.altN]
  | q + 1 => by
    obtain ⟨hr, hc, ha⟩ := Rx.parse_len q
    refine ⟨?_, ?_, ?_⟩
    · intro l x r h
      cases l with
      | nil => simp [Rx.repN] at h
      | cons c t =>
        simp only [Rx.repN] at h
        split at h
        · split at h
          · simp at h
          · rename_i xs u hu
            have := ha _ _ _ hu
            split at h
            · simp only [Option.some.injEq] at h
              have h2 := Rx.post_len (u.drop 1) (Rx.several 3 xs); rw [h] at h2; simp at h2 ⊢; omega
            · simp at h
        · split at h
          · simp only [Option.map_eq_some_iff] at h
            obtain ⟨⟨y, u⟩, h1, h2⟩ := h
            have := Rx.cls_len h1
            have h3 := Rx.post_len u y; simp only at h2; rw [h2] at h3; simp at h3 ⊢; omega
          · split at h
            · simp only [Option.some.injEq] at h
              have h3 := Rx.post_len t (Rx.but (Rx.rng 10 10)); rw [h] at h3; simp at h3 ⊢; omega
            · split at h
              · simp only [Option.map_eq_some_iff] at h
                obtain ⟨⟨y, u⟩, h1, h2⟩ := h
                have := Rx.esc_len h1
                have h3 := Rx.post_len u (Rx.sign y); simp only at h2; rw [h2] at h3; simp at h3 ⊢; omega
              · split at h
                · simp at h
                · simp only [Option.some.injEq] at h
                  have h3 := Rx.post_len t (Rx.sign c); rw [h] at h3; simp at h3 ⊢; omega
    · intro l xs r h
      simp only [Rx.catN] at h
      split at h
      · simp only [Option.some.injEq, Prod.mk.injEq] at h; rw [h.2]; exact Nat.le_refl _
      · split at h
        · simp at h
        · rename_i x u h1
          split at h
          · simp at h
          · rename_i ys t h2
            simp only [Option.some.injEq, Prod.mk.injEq] at h
            have := hr _ _ _ h1; have := hc _ _ _ h2
            rw [← h.2]; omega
    · intro l xs r h
      simp only [Rx.altN] at h
      split at h
      · simp at h
      · rename_i ys u h1
        have h3 := hc _ _ _ h1
        split at h
        · split at h
          · simp at h
          · rename_i zs t h2
            simp only [Option.some.injEq, Prod.mk.injEq] at h
            have := ha _ _ _ h2
            rw [← h.2]; simp at this; omega
        · simp only [Option.some.injEq, Prod.mk.injEq] at h; rw [← h.2]; exact h3
theorem Rx.parse_more : ∀ (q : Nat), (∀ l : List Int, 3 * l.length + 1 ≤ q → Rx.repN (q + 1) l = Rx.repN q l) ∧ (∀ l : List Int, 3 * l.length + 2 ≤ q → Rx.catN (q + 1) l = Rx.catN q l) ∧ (∀ l : List Int, 3 * l.length + 3 ≤ q → Rx.altN (q + 1) l = Rx.altN q l)
  | 0 => ⟨fun _ h => by omega, fun _ h => by omega, fun _ h => by omega⟩
  | q + 1 => by
    obtain ⟨hr, hc, ha⟩ := Rx.parse_more q
    refine ⟨?_, ?_, ?_⟩
    · intro l h
      cases l with
      | nil => simp [Rx.repN]
      | cons c t =>
        rw [Rx.repN, Rx.repN, ha t (by simp at h; omega)]
    · intro l h
      rw [Rx.catN, Rx.catN, hr l (by omega)]
      split
      · rfl
      · cases h1 : Rx.repN q l with
        | none => rfl
        | some p =>
          obtain ⟨x, r⟩ := p
          have := (Rx.parse_len q).1 _ _ _ h1
          simp only [hc r (by omega)]
    · intro l h
      rw [Rx.altN, Rx.altN, hc l (by omega)]
      cases h1 : Rx.catN q l with
      | none => rfl
      | some p =>
        obtain ⟨xs, r⟩ := p
        have h2 := (Rx.parse_len q).2.1 _ _ _ h1
        simp only
        split
        · rename_i h3
          rw [ha (r.drop 1) (by
            cases r with
            | nil => simp at h3
            | cons a b => simp at h2 ⊢; omega)]
        · rfl
theorem Rx.cat_more {q : Nat} {l : List Int} (h : 3 * l.length + 2 ≤ q) : Rx.catN q l = Rx.catN (3 * l.length + 2) l := by
  induction q with
  | zero => omega
  | succ q ih =>
    by_cases e : 3 * l.length + 2 = q + 1
    · rw [e]
    · rw [(Rx.parse_more q).2.1 l (by omega), ih (by omega)]
theorem Rx.alt_more {q : Nat} {l : List Int} (h : 3 * l.length + 3 ≤ q) : Rx.altN q l = Rx.altN (3 * l.length + 3) l := by
  induction q with
  | zero => omega
  | succ q ih =>
    by_cases e : 3 * l.length + 3 = q + 1
    · rw [e]
    · rw [(Rx.parse_more q).2.2 l (by omega), ih (by omega)]
def Rx.rep (l : List Int) : Option (Rx × List Int) := Rx.repN (3 * l.length + 1) l
def Rx.cat (l : List Int) : Option (List Rx × List Int) := Rx.catN (3 * l.length + 2) l
def Rx.alt (l : List Int) : Option (List Rx × List Int) := Rx.altN (3 * l.length + 3) l
theorem Rx.rep_len {l : List Int} {x : Rx} {r : List Int} (h : Rx.rep l = some (x, r)) : r.length < l.length := (Rx.parse_len _).1 _ _ _ h
theorem Rx.cat_len {l : List Int} {xs : List Rx} {r : List Int} (h : Rx.cat l = some (xs, r)) : r.length ≤ l.length := (Rx.parse_len _).2.1 _ _ _ h
theorem Rx.alt_len {l : List Int} {xs : List Rx} {r : List Int} (h : Rx.alt l = some (xs, r)) : r.length ≤ l.length := (Rx.parse_len _).2.2 _ _ _ h
theorem Rx.rep_nil : Rx.rep [] = none := by simp [Rx.rep, Rx.repN]
theorem Rx.rep_cons (c : Int) (r : List Int) : Rx.rep (c :: r) =
    if c = 40 then
      match Rx.alt r with
      | none => none
      | some (xs, t) => if t.head? = some 41 then some (Rx.post (Rx.several 3 xs) (t.drop 1)) else none
    else if c = 91 then (Rx.cls r).map fun p => Rx.post p.1 p.2
    else if c = 46 then some (Rx.post (Rx.but (Rx.rng 10 10)) r)
    else if c = 92 then (Rx.esc r).map fun p => Rx.post (Rx.sign p.1) p.2
    else if Rx.special c = true then none
    else some (Rx.post (Rx.sign c) r) := by
  rw [Rx.rep, show 3 * (c :: r).length + 1 = (3 * r.length + 3) + 1 by simp; omega, Rx.repN]
  rfl
theorem Rx.cat_eq (l : List Int) : Rx.cat l =
    if (l.head? = none ∨ l.head? = some 124) ∨ l.head? = some 41 then some ([], l)
    else match Rx.rep l with
      | none => none
      | some (x, r) => match Rx.cat r with
        | none => none
        | some (xs, t) => some (x :: xs, t) := by
  rw [Rx.cat, Rx.catN]
  split
  · rfl
  · rw [show Rx.repN (3 * l.length + 1) l = Rx.rep l from rfl]
    cases h1 : Rx.rep l with
    | none => rfl
    | some p =>
      obtain ⟨x, r⟩ := p
      have := Rx.rep_len h1
      simp only
      rw [Rx.cat_more (q := 3 * l.length + 1) (l := r) (by omega)]
      rfl
theorem Rx.alt_eq (l : List Int) : Rx.alt l = match Rx.cat l with
    | none => none
    | some (xs, r) => if r.head? = some 124 then (match Rx.alt (r.drop 1) with
        | none => none
        | some (ys, t) => some (Rx.catOf xs :: ys, t))
      else some ([Rx.catOf xs], r) := by
  rw [Rx.alt, Rx.altN, show Rx.catN (3 * l.length + 2) l = Rx.cat l from rfl]
  cases h1 : Rx.cat l with
  | none => rfl
  | some p =>
    obtain ⟨xs, r⟩ := p
    have h2 := Rx.cat_len h1
    simp only
    split
    · rename_i h3
      rw [Rx.alt_more (q := 3 * l.length + 2) (l := r.drop 1) (by
        cases r with
        | nil => simp at h3
        | cons a b => simp at h2 ⊢; omega)]
      rfl
    · rfl
def Rx.read (l : List Int) : Option Rx := match Rx.alt l with
  | some (xs, []) => some (Rx.several 3 xs)
  | _ => none
theorem Rx.wfL_all : ∀ {l : List Rx}, Rx.wfL l = true ↔ ∀ x ∈ l, x.wf = true
  | [] => by simp [Rx.wfL]
  | x :: r => by simp [Rx.wfL, Rx.wfL_all (l := r)]
theorem Rx.wf_kids {k : Nat} {f : Nat → Bool} {l : List Rx} (hk : k = 2 ∨ k = 3) (hl : Rx.wfL l = true) : (Rx.node k f l).wf = true := by
  rcases hk with rfl | rfl <;> simp [Rx.wf, hl]
theorem Rx.wf_one (f : Nat → Bool) : (Rx.one f).wf = true := by simp [Rx.one, Rx.wf, Rx.wfL]
theorem Rx.wf_several {k : Nat} {l : List Rx} (hk : k = 2 ∨ k = 3) (hl : Rx.wfL l = true) : (Rx.several k l).wf = true := by
  unfold Rx.several
  split
  · simpa [Rx.wfL] using hl
  · exact Rx.wf_kids hk hl
theorem Rx.wf_sign (n : Int) : (Rx.sign n).wf = true := by
  refine Rx.wf_several (.inl rfl) (Rx.wfL_all.2 fun x hx => ?_)
  simp only [List.mem_map] at hx
  obtain ⟨b, _, rfl⟩ := hx
  exact Rx.wf_one _
theorem Rx.wf_but (f : Nat → Bool) : (Rx.but f).wf = true := by simp [Rx.but, Rx.wf, Rx.wfL, Rx.wf_one]
theorem Rx.part_le : ∀ {l : List Rx} {x : Rx}, x ∈ l → x.size ≤ Rx.sizeL l ∧ x.depth ≤ Rx.depthL l
  | [], x, h => by simp at h
  | y :: r, x, h => by
    simp only [Rx.sizeL, Rx.depthL]
    rcases List.mem_cons.1 h with rfl | h
    · omega
    · have := Rx.part_le h; omega
theorem Rx.may_kid {k : Nat} {f : Nat → Bool} {l : List Rx} {d : Nat} (h : (Rx.node k f l).may d = true) {x : Rx} (hx : x ∈ l) : x.may (d + 1) = true := by
  obtain ⟨h1, h2, h3⟩ := Rx.may_iff.1 h
  have h4 := Rx.part_le hx
  simp only [Rx.wf, Bool.and_eq_true] at h1
  simp only [Rx.depth] at h2; simp only [Rx.size] at h3
  exact Rx.may_iff.2 ⟨Rx.wfL_all.1 h1.2 x hx, by omega, by omega⟩
theorem Rx.may_less {x : Rx} {d e : Nat} (h : x.may d = true) (he : e ≤ d) : x.may e = true := by
  obtain ⟨h1, h2, h3⟩ := Rx.may_iff.1 h
  exact Rx.may_iff.2 ⟨h1, by omega, h3⟩
theorem Rx.may_part {k : Nat} {f : Nat → Bool} {l : List Rx} {d : Nat} (h : (Rx.node k f l).may d = true) {x : Rx} (hx : x ∈ l) : x.may d = true := Rx.may_less (Rx.may_kid h hx) (Nat.le_succ d)
theorem Rx.may_several {k : Nat} {l : List Rx} {d : Nat} (h : (Rx.several k l).may d = true) {x : Rx} (hx : x ∈ l) : x.may d = true := by
  unfold Rx.several at h
  split at h
  · simp at hx; rw [hx]; exact h
  · exact Rx.may_part h hx
theorem Rx.may_catOf {l : List Rx} {d : Nat} (h : (Rx.catOf l).may d = true) {x : Rx} (hx : x ∈ l) : x.may d = true := by
  unfold Rx.catOf at h
  split at h
  · simp at hx
  · exact Rx.may_several h hx
theorem Rx.may_one (f : Nat → Bool) : (Rx.one f).may 1 = true := Rx.may_iff.2 ⟨Rx.wf_one f, by simp [Rx.one, Rx.depth, Rx.depthL], by simp [Rx.one, Rx.size, Rx.sizeL]⟩
theorem Rx.may_but (f : Nat → Bool) : (Rx.but f).may 1 = true := Rx.may_iff.2 ⟨Rx.wf_but f, by simp [Rx.but, Rx.one, Rx.depth, Rx.depthL], by simp [Rx.but, Rx.one, Rx.size, Rx.sizeL]⟩
theorem Rx.ones_le : ∀ (l : List Int), Rx.sizeL (l.map fun b => Rx.one (Rx.rng b b)) = l.length ∧ Rx.depthL (l.map fun b => Rx.one (Rx.rng b b)) ≤ 1
  | [] => by simp [Rx.sizeL, Rx.depthL]
  | b :: r => by
    have := Rx.ones_le r
    simp only [List.map_cons, Rx.sizeL, Rx.depthL, List.length_cons]
    simp only [Rx.one, Rx.size, Rx.depth, Rx.sizeL, Rx.depthL] at this ⊢
    omega
theorem Rx.bytes_few (n : Int) : (Rn.bytesI n).length ≤ 4 := by
  simp only [Rn.bytesI]
  repeat' split
  all_goals simp
theorem Rx.may_sign (n : Int) : (Rx.sign n).may 1 = true := by
  have h := Rx.wf_sign n
  unfold Rx.sign Rx.several at h ⊢
  split
  · rename_i x hx
    have : x ∈ ((Rn.bytesI n).map fun b => Rx.one (Rx.rng b b)) := by rw [hx]; simp
    simp only [List.mem_map] at this
    obtain ⟨b, _, rfl⟩ := this
    exact Rx.may_one _
  · have h1 := Rx.ones_le (Rn.bytesI n); have h2 := Rx.bytes_few n
    refine Rx.may_iff.2 ⟨Rx.wf_kids (.inl rfl) (Rx.wfL_all.2 fun x hx => ?_), ?_, ?_⟩
    · simp only [List.mem_map] at hx
      obtain ⟨b, _, rfl⟩ := hx
      exact Rx.wf_one _
    · simp only [Rx.depth]; omega
    · simp only [Rx.size]; omega
theorem Rx.may_cls {l : List Int} {x : Rx} {r : List Int} (h : Rx.cls l = some (x, r)) : x.may 1 = true := by
  simp only [Rx.cls] at h
  split at h
  · simp only [Option.map_eq_some_iff, Prod.mk.injEq] at h
    obtain ⟨_, _, h2, _⟩ := h
    rw [← h2]; exact Rx.may_but _
  · simp only [Option.map_eq_some_iff, Prod.mk.injEq] at h
    obtain ⟨_, _, h2, _⟩ := h
    rw [← h2]; exact Rx.may_one _
end Go.Proofs.Ythapedadnbkgnaa
