/- Plain facts: signs one behind the other, and their edges (no program is named here). -/
import Derived.Test.YtnjcahcbeicblaaRnP
namespace Go.Proofs.Ytnjcahcbeicblaa
set_option linter.unusedVariables false
set_option linter.unusedSimpArgs false
namespace Rn
def blk (n : Int) : List UInt8 := (bytesI n).map fun n => UInt8.ofNat n.toNat
def cat : List Int → List UInt8
  | [] => []
  | n :: ns => blk n ++ cat ns
theorem cat_append (a b : List Int) : cat (a ++ b) = cat a ++ cat b := by
  induction a with
  | nil => rfl
  | cons n a ih => simp [cat, ih]
theorem blk_form (n : Int) (h : signI n = true) : ∃ c t, blk n = c :: t ∧ folI c.toNat = false ∧ ∀ x ∈ t, folI x.toNat = true := by
  have hb := (map_back (bytesI n) (blk n) (bytesI_byte n)).1 rfl
  rcases sign_cases h with h | h | ⟨h, h2, h3⟩ | h
  · rw [(bytesI_1 n h).2.1] at hb
    cases hl : blk n with
    | nil => rw [hl] at hb; simp at hb
    | cons c t =>
      rw [hl] at hb; simp [toI] at hb
      obtain ⟨h0, rfl⟩ := hb
      exact ⟨c, [], rfl, by simp [folI]; omega, by simp⟩
  · rw [(bytesI_2 n h).2.1] at hb
    match hl : blk n with
    | [] => rw [hl] at hb; simp at hb
    | [c] => rw [hl] at hb; simp at hb
    | c :: c1 :: t =>
      rw [hl] at hb; simp [toI] at hb
      obtain ⟨h0, h1, rfl⟩ := hb
      refine ⟨c, [c1], rfl, by simp [folI]; omega, ?_⟩
      intro x hx; simp at hx; subst hx; exact fol_of (by omega)
  · rw [(bytesI_3 n ⟨h, h2⟩ h3).2.1] at hb
    match hl : blk n with
    | [] => rw [hl] at hb; simp at hb
    | [c] => rw [hl] at hb; simp at hb
    | [c, c1] => rw [hl] at hb; simp at hb
    | c :: c1 :: c2 :: t =>
      rw [hl] at hb; simp [toI] at hb
      obtain ⟨h0, h1, h4, rfl⟩ := hb
      refine ⟨c, [c1, c2], rfl, by simp [folI]; omega, ?_⟩
      intro x hx; simp at hx
      rcases hx with rfl | rfl <;> exact fol_of (by omega)
  · rw [(bytesI_4 n h).2.1] at hb
    match hl : blk n with
    | [] => rw [hl] at hb; simp at hb
    | [c] => rw [hl] at hb; simp at hb
    | [c, c1] => rw [hl] at hb; simp at hb
    | [c, c1, c2] => rw [hl] at hb; simp at hb
    | c :: c1 :: c2 :: c3 :: t =>
      rw [hl] at hb; simp [toI] at hb
      obtain ⟨h0, h1, h4, h5, rfl⟩ := hb
      refine ⟨c, [c1, c2, c3], rfl, by simp [folI]; omega, ?_⟩
      intro x hx; simp at hx
      rcases hx with rfl | rfl | rfl <;> exact fol_of (by omega)
theorem blk_first (n : Int) (h : signI n = true) (r : List UInt8) : firstL (blk n ++ r) = (n, ((blk n).length : Int)) := by
  obtain ⟨c, t, hc, _⟩ := blk_form n h
  have hp : 1 ≤ (blk n).length := by rw [hc]; simp
  refine first_of n h _ _ hp (by simp) ?_
  rw [List.take_left' rfl]
  exact (map_back _ _ (bytesI_byte n)).1 rfl
def Signs (ns : List Int) : Prop := ∀ n ∈ ns, signI n = true
theorem whole_cat (ns : List Int) (h : Signs ns) : wholeL (cat ns) = true := by
  induction ns with
  | nil => rfl
  | cons n ns ih =>
    have hn := h n (by simp)
    obtain ⟨c, t, hc, _⟩ := blk_form n hn
    show wholeL (blk n ++ cat ns) = true
    rw [wholeL_eq, blk_first n hn, if_neg (by rw [hc]; simp)]
    simp only [Int.toNat_natCast, List.drop_left']
    exact ih (fun m hm => h m (by simp [hm]))
theorem cnt_append (a b : List UInt8) : cnt (a ++ b) = cnt a + cnt b := by unfold cnt; rw [List.countP_append]; simp
theorem cnt_cat (ns : List Int) (h : Signs ns) : cnt (cat ns) = ns.length := by
  induction ns with
  | nil => rfl
  | cons n ns ih =>
    have hn := h n (by simp)
    obtain ⟨c, t, hc, h0, h1⟩ := blk_form n hn
    show cnt (blk n ++ cat ns) = _
    have ht : cnt t = 0 := by
      unfold cnt; rw [List.countP_eq_zero.2]; rfl
      intro x hx; simp [fol, h1 x hx]
    have hb : cnt (blk n) = 1 := by
      rw [hc]; show cnt ([c] ++ t) = 1
      rw [cnt_append, ht]; simp [cnt, fol, h0]
    rw [cnt_append, hb, ih (fun m hm => h m (by simp [hm]))]; simp; omega
def edgeL (l : List UInt8) (a : Nat) : Prop := a = l.length ∨ ∃ c, l[a]? = some c ∧ folI c.toNat = false
theorem edge_cut (ns : List Int) (h : Signs ns) : ∀ a, edgeL (cat ns) a → ∃ j, (cat ns).take a = cat (ns.take j) ∧ (cat ns).drop a = cat (ns.drop j) := by
  induction ns with
  | nil => intro a _; exact ⟨0, by simp [cat], by simp [cat]⟩
  | cons n ns ih =>
    intro a ha
    have hn := h n (by simp)
    obtain ⟨c, t, hc, h0, h1⟩ := blk_form n hn
    by_cases hz : a = 0
    · subst hz; exact ⟨0, by simp [cat], by simp⟩
    have e : cat (n :: ns) = blk n ++ cat ns := rfl
    by_cases hlt : a < (blk n).length
    · exfalso
      rcases ha with ha | ⟨x, hx, hf⟩
      · rw [e] at ha; simp at ha; omega
      · rw [e, List.getElem?_append_left hlt, hc] at hx
        obtain ⟨b, rfl⟩ : ∃ b, a = b + 1 := ⟨a - 1, by omega⟩
        simp at hx
        have := h1 x (List.mem_of_getElem? hx)
        rw [hf] at this; cases this
    · have hs : Signs ns := fun m hm => h m (by simp [hm])
      obtain ⟨j, hj1, hj2⟩ := ih hs (a - (blk n).length) (by
        rcases ha with ha | ⟨x, hx, hf⟩
        · left; rw [e] at ha; simp at ha; omega
        · right; exact ⟨x, by rw [e, List.getElem?_append_right (by omega)] at hx; exact hx, hf⟩)
      refine ⟨j + 1, ?_, ?_⟩
      · rw [e, List.take_append, List.take_of_length_le (by omega), hj1]; rfl
      · rw [e, List.drop_append, List.drop_eq_nil_of_le (by omega), hj2]; rfl
theorem piece_whole (ns : List Int) (h : Signs ns) (a b : Nat) (hab : a ≤ b) (hb : b ≤ (cat ns).length) (ha : edgeL (cat ns) a) (he : edgeL (cat ns) b) : wholeL (((cat ns).drop a).take (b - a)) = true := by
  obtain ⟨j, _, hj⟩ := edge_cut ns h a ha
  have hs : Signs (ns.drop j) := fun m hm => h m (List.mem_of_mem_drop hm)
  have he2 : edgeL (cat (ns.drop j)) (b - a) := by
    rw [← hj]
    rcases he with he | ⟨c, hc, hf⟩
    · left; rw [List.length_drop]; omega
    · right; exact ⟨c, by rw [List.getElem?_drop]; rw [show a + (b - a) = b by omega]; exact hc, hf⟩
  obtain ⟨i, hi, _⟩ := edge_cut _ hs (b - a) he2
  rw [hj, hi]
  exact whole_cat _ (fun m hm => hs m (List.mem_of_mem_take hm))
theorem edge_of (s : ByteArray) (a : Nat) (h : edgeB s a = true) : edgeL s.data.toList a := by
  unfold edgeB at h
  by_cases hc : 0 ≤ (a : Int) ∧ (a : Int) < s.size
  · rw [dif_pos hc] at h
    right
    refine ⟨s[a]'(by omega), ?_, ?_⟩
    · rw [List.getElem?_eq_getElem (by simp; omega)]; rfl
    · simpa using h
  · rw [dif_neg hc] at h
    left; simp at h; rw [len_data]; omega
end Rn
end Go.Proofs.Ytnjcahcbeicblaa
