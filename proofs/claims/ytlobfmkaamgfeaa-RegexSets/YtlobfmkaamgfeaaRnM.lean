/- Plain facts on signs of texts (no program is named here): what the functions of layer 1 answer, as functions on lists of bytes. -/
namespace Go.Proofs.Ytlobfmkaamgfeaa
set_option linter.unusedVariables false
set_option linter.unusedSimpArgs false
namespace Rn
def folI (n : Int) : Bool := decide (128 ≤ n) && decide (n ≤ 191)
def fol (c : UInt8) : Bool := folI c.toNat
def sizeI (n : Int) : Int :=
  if n < 0 ∨ 1114112 ≤ n then 0 else if 55296 ≤ n ∧ n ≤ 57343 then 0 else if n < 128 then 1 else if n < 2048 then 2 else if n < 65536 then 3 else 4
def leadI (k : Int) : Int := if k = 2 then 192 else if k = 3 then 224 else if k = 4 then 240 else 0
def promI (c : Int) : Int := if c < 128 then 1 else if c < 192 then 0 else if c < 224 then 2 else if c < 240 then 3 else if c < 248 then 4 else 0
def signI (n : Int) : Bool := decide (0 ≤ n) && decide (n < 1114112) && !(decide (55296 ≤ n) && decide (n ≤ 57343))
/-- how many bytes are no followers -/
def cnt (l : List UInt8) : Int := (l.countP fun c => !fol c : Nat)
theorem len_data0 (s : ByteArray) : s.data.toList.length = s.size := by simp
theorem cnt_bd (l : List UInt8) : 0 ≤ cnt l ∧ cnt l ≤ l.length := by
  unfold cnt; have := List.countP_le_length (p := fun c => !fol c) (l := l); omega
theorem cnt_snoc (l : List UInt8) (c : UInt8) : cnt (l ++ [c]) = cnt l + if folI c.toNat = true then 0 else 1 := by
  unfold cnt; rw [List.countP_append]
  by_cases h : folI c.toNat = true <;> simp [fol, h]
theorem take_snoc (s : ByteArray) (k : Nat) (h : k < s.size) : s.data.toList.take (k + 1) = s.data.toList.take k ++ [s[k]] := by
  rw [List.take_succ_eq_append_getElem (by simpa using h)]; rfl
theorem take_all (s : ByteArray) (k : Nat) (h : ¬ k < s.size) : s.data.toList.take k = s.data.toList :=
  List.take_of_length_le (by simp; omega)
/-- is the place an edge? -/
def edgeB (s : ByteArray) (i : Int) : Bool := if h : 0 ≤ i ∧ i < s.size then !folI (s[i.toNat]).toNat else decide (i = s.size)
theorem edge_end (s : ByteArray) : edgeB s s.size = true := by unfold edgeB; rw [dif_neg (by omega)]; simp
/-- the least edge above i, gone through from the end: behind t rounds -/
def nxU (s : ByteArray) (i : Int) : Nat → Nat
  | 0 => s.size
  | t + 1 => if (edgeB s ((s.size : Int) - t) && decide (i < (s.size : Int) - t)) = true then s.size - t else nxU s i t
def next (s : ByteArray) (i : Int) : Nat := if i < 0 then 0 else nxU s i (s.size + 1)
/-- the greatest edge below i, gone through from the beginning: behind t rounds -/
def bkU (s : ByteArray) (i : Int) : Nat → Nat
  | 0 => 0
  | t + 1 => if (edgeB s t && decide ((t : Int) < i)) = true then t else bkU s i t
def back (s : ByteArray) (i : Int) : Nat := bkU s i (s.size + 1)
theorem nxU_le (s : ByteArray) (i : Int) (t : Nat) : nxU s i t ≤ s.size := by
  induction t with
  | zero => exact Nat.le_refl _
  | succ t ih => unfold nxU; split <;> omega
theorem bkU_le (s : ByteArray) (i : Int) (t : Nat) (h : t ≤ s.size + 1) : bkU s i t ≤ s.size := by
  induction t with
  | zero => exact Nat.zero_le _
  | succ t ih => have := ih (by omega); unfold bkU; split <;> omega
theorem nxU_is (s : ByteArray) (i : Int) (r : Nat) (hr : r ≤ s.size) (hi : i < r) (he : edgeB s r = true) (hn : ∀ j : Nat, i < j → j < r → edgeB s j = false) (t : Nat) :
    s.size + 1 ≤ r + t → t ≤ s.size + 1 → nxU s i t = r := by
  induction t with
  | zero => intro h; omega
  | succ t ih =>
    intro h h2
    have e : (s.size : Int) - t = ((s.size - t : Nat) : Int) := by omega
    unfold nxU
    rw [e]
    by_cases hc : s.size - t = r
    · rw [hc, he]; simp [hi]
    · by_cases hj : i < ((s.size - t : Nat) : Int)
      · rw [hn (s.size - t) hj (by omega)]; simp; exact ih (by omega) (by omega)
      · simp [hj]; exact ih (by omega) (by omega)
theorem next_is (s : ByteArray) (i : Int) (h0 : 0 ≤ i) (r : Nat) (hr : r ≤ s.size) (hi : i < r) (he : edgeB s r = true) (hn : ∀ j : Nat, i < j → j < r → edgeB s j = false) : next s i = r := by
  unfold next; rw [if_neg (by omega)]; exact nxU_is s i r hr hi he hn _ (by omega) (by omega)
theorem next_far (s : ByteArray) (i : Int) (h : s.size ≤ i) : next s i = s.size := by
  unfold next; rw [if_neg (by omega)]
  have : ∀ t, t ≤ s.size + 1 → nxU s i t = s.size := by
    intro t; induction t with
    | zero => intro _; rfl
    | succ t ih => intro h2; unfold nxU; rw [if_neg (by simp; intro _; omega)]; exact ih (by omega)
  exact this _ (Nat.le_refl _)
theorem bkU_is (s : ByteArray) (i : Int) (r : Nat) (hi : r < i) (he : edgeB s r = true) (hn : ∀ j : Nat, r < j → j < i → edgeB s j = false) (t : Nat) : r < t → bkU s i t = r := by
  induction t with
  | zero => intro h; omega
  | succ t ih =>
    intro h
    unfold bkU
    by_cases hc : t = r
    · subst hc; rw [he]; simp [hi]
    · by_cases hj : (t : Int) < i
      · rw [hn t (by omega) hj]; simp; exact ih (by omega)
      · simp [hj]; exact ih (by omega)
theorem back_is (s : ByteArray) (i : Int) (r : Nat) (hr : r ≤ s.size) (hi : r < i) (he : edgeB s r = true) (hn : ∀ j : Nat, r < j → j < i → edgeB s j = false) : back s i = r :=
  bkU_is s i r hi he hn _ (by omega)
theorem back_none (s : ByteArray) (i : Int) (hn : ∀ j : Nat, (j : Int) < i → edgeB s j = false) : back s i = 0 := by
  have : ∀ t, bkU s i t = 0 := by
    intro t; induction t with
    | zero => rfl
    | succ t ih =>
      unfold bkU
      by_cases hj : (t : Int) < i
      · rw [hn t hj]; simpa using ih
      · simp [hj]; exact ih
  exact this _
/-- the greatest edge ahead of which at most n bytes are no followers -/
def cutL : List UInt8 → Int → Nat
  | [], _ => 0
  | c :: t, n => if folI c.toNat = true then cutL t n + 1 else if n = 0 then 0 else cutL t (n - 1) + 1
def cut (s : ByteArray) (n : Int) : Nat := if n < 0 then 0 else cutL s.data.toList n
theorem cutL_le (l : List UInt8) (n : Int) : cutL l n ≤ l.length := by
  induction l generalizing n with
  | nil => exact Nat.le_refl _
  | cons c t ih => unfold cutL; have h1 := ih n; have h2 := ih (n - 1); simp only [List.length_cons]; (repeat' split) <;> omega
theorem cut_le (s : ByteArray) (n : Int) : cut s n ≤ s.size := by
  unfold cut; split
  · omega
  · have := cutL_le s.data.toList n; simpa using this
theorem drop_at (s : ByteArray) (k : Nat) (h : k < s.size) : s.data.toList.drop k = s[k] :: s.data.toList.drop (k + 1) := by
  rw [List.drop_eq_getElem_cons (by simpa using h)]; rfl
theorem drop_all (s : ByteArray) (k : Nat) (h : ¬ k < s.size) : s.data.toList.drop k = [] := List.drop_eq_nil_of_le (by simp; omega)
theorem cutL_cnt (l : List UInt8) : ∀ n : Int, 0 ≤ n → cnt (l.take (cutL l n)) ≤ n ∧ (cutL l n = l.length ∨ cnt (l.take (cutL l n)) = n) := by
  induction l with
  | nil => intro n h; simp [cutL, cnt]; exact h
  | cons c t ih =>
    intro n h
    unfold cutL
    by_cases hf : folI c.toNat = true
    · rw [if_pos hf]
      have := ih n h
      have e : cnt ((c :: t).take (cutL t n + 1)) = cnt (t.take (cutL t n)) := by simp [cnt, fol, hf]
      rw [e]; simp only [List.length_cons]; omega
    · rw [if_neg hf]
      by_cases hz : n = 0
      · subst hz; simp [cnt]
      · rw [if_neg hz]
        have := ih (n - 1) (by omega)
        have e : cnt ((c :: t).take (cutL t (n - 1) + 1)) = cnt (t.take (cutL t (n - 1))) + 1 := by simp [cnt, fol, hf]
        rw [e]; simp only [List.length_cons]; omega
theorem cutL_edge (l : List UInt8) : ∀ n : Int, cutL l n < l.length → ∃ c, l[cutL l n]? = some c ∧ folI c.toNat = false := by
  induction l with
  | nil => intro n h; simp at h
  | cons c t ih =>
    intro n
    unfold cutL
    by_cases hf : folI c.toNat = true
    · rw [if_pos hf]; intro h; simpa using ih n (by simpa using h)
    · rw [if_neg hf]
      by_cases hz : n = 0
      · rw [if_pos hz]; intro _; exact ⟨c, by simp, by simpa using hf⟩
      · rw [if_neg hz]; intro h; simpa using ih (n - 1) (by simpa using h)
theorem cut_edge (s : ByteArray) (n : Int) (h : 0 ≤ n) : edgeB s (cut s n) = true := by
  have hl := cut_le s n
  unfold cut at hl ⊢
  rw [if_neg (by omega)] at hl ⊢
  by_cases he : cutL s.data.toList n = s.size
  · rw [he]; exact edge_end s
  · obtain ⟨c, hc, hf⟩ := cutL_edge s.data.toList n (by simp; omega)
    unfold edgeB
    rw [dif_pos (by omega)]
    have : s[(cutL s.data.toList n : Int).toNat]'(by omega) = c := by
      rw [List.getElem?_eq_some_iff] at hc
      obtain ⟨h1, h2⟩ := hc
      rw [← h2]; rfl
    rw [this, hf]; rfl
theorem cut_cnt (s : ByteArray) (n : Int) (h : 0 ≤ n) : cnt (s.data.toList.take (cut s n)) ≤ n ∧ (cut s n = s.size ∨ cnt (s.data.toList.take (cut s n)) = n) := by
  have := cutL_cnt s.data.toList n h
  unfold cut; rw [if_neg (by omega)]
  simpa using this
end Rn
end Go.Proofs.Ytlobfmkaamgfeaa
