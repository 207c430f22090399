/- The program's reader of expressions: plain facts: what stands in the text that is left, by its signs. -/
import Derived.Test.YtndenipjiclkaaaRxQ
import Derived.Test.YtndenipjiclkaaaRnQ
import Derived.Test.YtndenipjiclkaaaRnD
namespace Go.Proofs.Ytndenipjiclkaaa
set_option linter.unusedVariables false
set_option linter.unusedSimpArgs false
/-- the text is these signs, and not too long -/
structure Px.Str (s : ByteArray) (t : List Int) : Prop where
  cat : s.data.toList = Rn.cat t
  sg : Rn.Signs t
  ln : s.size ≤ 100
theorem Px.Str.max {s : ByteArray} {t : List Int} (h : Px.Str s t) : s.size ≤ maxLen := by have := h.ln; unfold maxLen; omega
theorem Px.Str.nil {s : ByteArray} (h : Px.Str s []) : s.size = 0 := by
  have := h.cat
  rw [Rn.cat] at this
  rw [← Rn.len_data, this]; rfl
theorem Px.Str.len {s : ByteArray} {n : Int} {t : List Int} (h : Px.Str s (n :: t)) : 1 ≤ s.size := by
  have h1 := h.cat
  obtain ⟨c, u, hc, _⟩ := Rn.blk_form n (h.sg n (by simp))
  rw [Rn.cat, hc] at h1
  rw [← Rn.len_data, h1]; simp
theorem Px.sign_pos {n : Int} (h : Rn.signI n = true) : 0 ≤ n := by
  simp only [Rn.signI, Bool.and_eq_true, decide_eq_true_eq] at h; omega
theorem Px.head_low {n : Int} (h : Rn.signI n = true) (hn : n < 128) : ∃ c : UInt8, Rn.blk n = [c] ∧ (c.toNat : Int) = n := by
  have h0 := Px.sign_pos h
  refine ⟨UInt8.ofNat n.toNat, ?_, ?_⟩
  · unfold Rn.blk; rw [(Rn.bytesI_1 n ⟨h0, hn⟩).2.1]; rfl
  · have e : (UInt8.ofNat n.toNat).toNat = n.toNat := by simp; omega
    rw [e]; omega
theorem Px.head_high {n : Int} (h : Rn.signI n = true) (hn : ¬ n < 128) : ∃ (c : UInt8) (u : List UInt8), Rn.blk n = c :: u ∧ 192 ≤ (c.toNat : Int) := by
  have hb := (Rn.map_back (Rn.bytesI n) (Rn.blk n) (Rn.bytesI_byte n)).1 rfl
  obtain ⟨c, u, hc, _⟩ := Rn.blk_form n h
  refine ⟨c, u, hc, ?_⟩
  rw [hc, List.map_cons, Rn.toI] at hb
  rcases Rn.sign_cases h with h | h | ⟨h, h2, h3⟩ | h
  · omega
  · rw [(Rn.bytesI_2 n h).2.1] at hb; simp at hb; omega
  · rw [(Rn.bytesI_3 n ⟨h, h2⟩ h3).2.1] at hb; simp at hb; omega
  · rw [(Rn.bytesI_4 n h).2.1] at hb; simp at hb; omega
/-- the first byte is a byte below 128 just if the first sign is that -/
theorem Px.Str.is {s : ByteArray} {n : Int} {t : List Int} (h : Px.Str s (n :: t)) (h0 : 0 < s.size) (c : Nat) (hc : c < 128) : (s[0].toNat = c) ↔ n = c := by
  have h1 := h.cat
  rw [Rn.list0 s h0, Rn.cat] at h1
  by_cases hn : n < 128
  · obtain ⟨b, hb, e⟩ := Px.head_low (h.sg n (by simp)) hn
    rw [hb] at h1
    have h2 : s[0] = b := by simpa using (List.cons.inj h1).1
    rw [h2]; omega
  · obtain ⟨b, u, hb, e⟩ := Px.head_high (h.sg n (by simp)) hn
    rw [hb] at h1
    have h2 : s[0] = b := by simpa using (List.cons.inj h1).1
    rw [h2]; omega
theorem Px.Str.low {s : ByteArray} {n : Int} {t : List Int} (h : Px.Str s (n :: t)) (hn : n < 128) : Px.Str (s.extract 1 s.size) t := by
  obtain ⟨b, hb, e⟩ := Px.head_low (h.sg n (by simp)) hn
  have h1 := h.cat
  rw [Rn.cat, hb] at h1
  refine ⟨by rw [tail_data, h1]; simp, fun m hm => h.sg m (by simp [hm]), ?_⟩
  have := h.ln
  rw [ByteArray.size_extract]; omega
/-- what is behind the first sign -/
theorem Px.Str.on {s : ByteArray} {n : Int} {t : List Int} (h : Px.Str s (n :: t)) : ∃ k : Nat, 0 < k ∧ k ≤ s.size ∧ Rn.firstL s.data.toList = (n, (k : Int)) ∧ Px.Str (s.extract k s.size) t := by
  have hs := h.sg n (by simp)
  obtain ⟨c, u, hc, _⟩ := Rn.blk_form n hs
  have h1 := h.cat
  rw [Rn.cat] at h1
  have hl : (Rn.blk n).length ≤ s.size := by rw [← Rn.len_data, h1]; simp
  refine ⟨(Rn.blk n).length, by rw [hc]; simp, hl, by rw [h1, Rn.blk_first n hs], ?_⟩
  refine ⟨by rw [tail_data, h1]; simp, fun m hm => h.sg m (by simp [hm]), ?_⟩
  have := h.ln
  rw [ByteArray.size_extract]; omega
/-- the first sign is one of a list of bytes -/
def Px.oneOf (S : List UInt8) : List Int → Bool
  | [] => false
  | n :: _ => S.any fun b => (b.toNat : Int) == n
theorem Px.Str.any {s : ByteArray} {n : Int} {t : List Int} (h : Px.Str s (n :: t)) (h0 : 0 < s.size) (S : List UInt8) (hS : ∀ b ∈ S, b.toNat < 128) : S.contains s[0] = Px.oneOf S (n :: t) := by
  rw [Bool.eq_iff_iff]
  simp only [Px.oneOf, List.any_eq_true, beq_iff_eq, List.contains_iff_mem]
  constructor
  · intro hm
    exact ⟨_, hm, ((h.is h0 _ (hS _ hm)).1 rfl).symm⟩
  · rintro ⟨b, hb, e⟩
    have := (h.is h0 b.toNat (hS _ hb)).2 (by omega)
    rwa [show s[0] = b from UInt8.toNat_inj.1 this]
/-- a whole text is signs, one behind the other -/
theorem Px.whole_signs : ∀ (k : Nat) (l : List UInt8), l.length ≤ k → Rn.wholeL l = true → ∃ t, Rn.Signs t ∧ l = Rn.cat t := by
  intro k
  induction k with
  | zero =>
    intro l hl _
    have : l = [] := List.eq_nil_of_length_eq_zero (by omega)
    exact ⟨[], by intro n hn; simp at hn, by rw [this]; rfl⟩
  | succ k ih =>
    intro l hl h
    rw [Rn.wholeL_eq] at h
    split at h
    · exact ⟨[], by intro n hn; simp at hn, by rw [Rn.cat]; simpa using h⟩
    · rename_i hk
      obtain ⟨n, j, hf⟩ : ∃ n j, Rn.firstL l = (n, j) := ⟨_, _, rfl⟩
      rw [hf] at h hk
      simp only at h hk
      have hof := Rn.of_first l n j hf (by omega)
      have hbd := Rn.firstL_bd l
      rw [hf] at hbd
      simp only at hbd
      obtain ⟨t, ht, e⟩ := ih (l.drop j.toNat) (by rw [List.length_drop]; omega) h
      have hx : Rn.signI n = true ∧ Rn.blk n = l.take j.toNat := by
        refine ⟨hof.1, ?_⟩
        unfold Rn.blk
        obtain ⟨i, e, _, _, _, e2, _⟩ := hof.2
        subst e
        exact (Rn.map_back _ _ (Rn.bytesI_byte n)).2 e2
      refine ⟨n :: t, ?_, ?_⟩
      · intro m hm
        rcases List.mem_cons.1 hm with rfl | hm
        · exact hx.1
        · exact ht m hm
      · rw [Rn.cat, hx.2, ← e, List.take_append_drop]
end Go.Proofs.Ytndenipjiclkaaa
