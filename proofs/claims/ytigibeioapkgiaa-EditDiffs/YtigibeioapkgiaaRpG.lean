/- Texts as parts: what 'join' and 'pieces' answer, walked. -/
import Derived.Test.YtigibeioapkgiaaRpF
namespace Go.Proofs.Ytigibeioapkgiaa
set_option linter.unusedVariables false
set_option linter.unusedSimpArgs false
open Go.RowKit
open Rp (Tr)
/-- the pointer is the text l -/
def Rp.Rep (w : World) (p : Option Addr) (l : List UInt8) : Prop := (p = none ∧ l = []) ∨ ∃ b t, p = some ⟨b, 0, none⟩ ∧ Rp.IsPart w b t ∧ t.Good ∧ t.toL = l
theorem Rp.Rep.up {w w1 : World} (hb : Below w.heap.size w w1) {p : Option Addr} {l : List UInt8} (h : Rp.Rep w p l) : Rp.Rep w1 p l := by
  rcases h with h | ⟨b, t, e, hp, g, ht⟩
  · exact .inl h
  · exact .inr ⟨b, t, e, hp.up hb, g, ht⟩
theorem Rp.Rep.dr {w : World} {p : Option Addr} {l : List UInt8} (h : Rp.Rep w p l) : Rp.Rep w.drew p l := h.up (Below.refl _ _).drew
theorem Rp.Rep.none (w : World) : Rp.Rep w none [] := .inl ⟨rfl, rfl⟩
/-- a text is answered -/
def Rp.RPost (w : World) (l : List UInt8) (e : Ending) (w' : World) : Prop := ∃ r, e = .returned (.pointer r) ∧ Rp.Rep w' r l ∧ Below w.heap.size w w'
set_option maxHeartbeats 400000 in
theorem join_nil1 (q : Option Addr) (w : World) : Calls Try.prog 51 #[.pointer none, .pointer q] w fun e w' => e = .returned (.pointer q) ∧ w = w' := by
  go_enter Try.func51, Try.ntmps51
  go_wp2_with fail
  go_ret
  exact ⟨rfl, rfl⟩
set_option maxHeartbeats 400000 in
theorem join_nil2 (b : Nat) (w : World) : Calls Try.prog 51 #[.pointer (some ⟨b, 0, none⟩), .pointer none] w fun e w' => e = .returned (.pointer (some ⟨b, 0, none⟩)) ∧ w = w' := by
  go_enter Try.func51, Try.ntmps51
  go_wp2_with fail
  go_ret
  exact ⟨rfl, rfl⟩
theorem join_any (p q : Option Addr) (l m : List UInt8) (w : World) (hp : Rp.Rep w p l) (hq : Rp.Rep w q m) (hl : l.length + m.length ≤ 1000000) :
    Calls Try.prog 51 #[.pointer p, .pointer q] w (Rp.RPost w (l ++ m)) := by
  rcases hp with ⟨rfl, rfl⟩ | ⟨a, ta, rfl, ha, ga, rfl⟩
  · exact (join_nil1 q w).mono fun e w' ⟨he, hw⟩ => ⟨q, he, hw ▸ hq, hw ▸ Below.refl _ _⟩
  rcases hq with ⟨rfl, rfl⟩ | ⟨b, tb, rfl, hb, gb, rfl⟩
  · refine (join_nil2 a w).mono fun e w' ⟨he, hw⟩ => ⟨_, he, ?_, hw ▸ Below.refl _ _⟩
    subst hw; exact .inr ⟨a, ta, rfl, ha, ga, by simp⟩
  · refine (join_n _ a b ta tb w (Nat.le_refl _) ha hb ga gb hl).mono fun e w' ⟨c, t, he, hc, J, hbl⟩ => ⟨_, he, .inr ⟨c, t, rfl, hc, J.good, J.text⟩, hbl⟩
/-- how high a text of so many bytes is, cut in halves -/
def Rp.hp (n : Nat) : Nat := if n ≤ 64 then 1 else 1 + Rp.hp (n - n / 2)
termination_by n
decreasing_by omega
theorem Rp.hp_step (n : Nat) : Rp.hp n ≤ Rp.hp (n + 1) ∧ Rp.hp (n + 1) ≤ Rp.hp n + 1 := by
  induction n using Nat.strongRecOn with
  | _ n ih =>
    by_cases h1 : n + 1 ≤ 64
    · have e1 : Rp.hp n = 1 := by rw [Rp.hp, if_pos (by omega)]
      have e2 : Rp.hp (n + 1) = 1 := by rw [Rp.hp, if_pos h1]
      omega
    · by_cases h2 : n ≤ 64
      · have e : n = 64 := by omega
        subst e
        have e1 : Rp.hp 64 = 1 := by rw [Rp.hp]; rfl
        have e2 : Rp.hp 33 = 1 := by rw [Rp.hp]; rfl
        have e3 : Rp.hp (64 + 1) = 1 + Rp.hp 33 := by rw [Rp.hp]; rfl
        omega
      · have e1 : Rp.hp n = 1 + Rp.hp (n - n / 2) := by rw [Rp.hp, if_neg h2]
        have e2 : Rp.hp (n + 1) = 1 + Rp.hp (n + 1 - (n + 1) / 2) := by rw [Rp.hp, if_neg h1]
        have := ih (n - n / 2) (by omega)
        rcases (by omega : n + 1 - (n + 1) / 2 = n - n / 2 ∨ n + 1 - (n + 1) / 2 = n - n / 2 + 1) with h | h
        · rw [e1, e2, h]; omega
        · rw [e1, e2, h]; omega
theorem Rp.hp_half (n : Nat) : Rp.hp (n / 2) ≤ Rp.hp (n - n / 2) ∧ Rp.hp (n - n / 2) ≤ Rp.hp (n / 2) + 1 := by
  have := Rp.hp_step (n / 2)
  rcases (by omega : n - n / 2 = n / 2 ∨ n - n / 2 = n / 2 + 1) with h | h
  · rw [h]; omega
  · rw [h]; exact this
/-- a text cut in halves is answered -/
def Rp.PPost (w : World) (s : ByteArray) (e : Ending) (w' : World) : Prop := ∃ c t, e = .returned (.pointer (some ⟨c, 0, none⟩)) ∧ Rp.IsPart w' c t ∧ t.Good ∧ t.toL = s.data.toList ∧ t.ht = Rp.hp s.size ∧ Below w.heap.size w w'
theorem Rp.ext_left (s : ByteArray) (k : Nat) : (s.extract 0 k).data.toList = s.data.toList.take k := by simp
theorem Rp.ext_right (s : ByteArray) (k : Nat) : (s.extract k s.size).data.toList = s.data.toList.drop k := by
  simp
  exact List.take_of_length_le (by simp)
theorem Rp.len_two' {t1 t2 : Tr} {s : ByteArray} {k : Nat} (h1 : t1.toL = (s.extract 0 k).data.toList) (h2 : t2.toL = (s.extract k s.size).data.toList) : t1.len + t2.len = s.size := by
  unfold Tr.len; rw [h1, h2, Rp.ext_left, Rp.ext_right, ← List.length_append, List.take_append_drop]; simp
theorem Rp.len_two {t1 t2 : Tr} {s : ByteArray} {k n : Nat} (h1 : t1.toL = (s.extract 0 k).data.toList) (h2 : t2.toL = (s.extract k s.size).data.toList) (hs : s.size ≤ n) : t1.len + t2.len ≤ n := by
  rw [Rp.len_two' h1 h2]; exact hs
set_option maxRecDepth 100000 in
set_option maxHeartbeats 1000000 in
theorem pieces_n (n : Nat) : ∀ (s : ByteArray) (w : World), s.size ≤ n → 1 ≤ s.size → s.size ≤ 1000000 → Calls Try.prog 26 #[.string s] w (Rp.PPost w s) := by
  induction n with
  | zero => intro s w h1 h2; omega
  | succ n ih =>
    intro s w hn h0 hs
    have IH := Lib.hid ih; clear ih
    by_cases h64 : s.size ≤ 64
    · have hh : Rp.hp s.size = 1 := by rw [Rp.hp, if_pos h64]
      have HH := Lib.hid hh; clear hh
      go_enter Try.func26, Try.ntmps26
      go_wp2_with (go_at_call 45; refine (piece_some _ _ (by omega) h0).mono ?_; rintro e w1 ⟨c, rfl, hc, hb1⟩)
      go_ret
      exact ⟨c, _, rfl, hc, ⟨h0, h64⟩, rfl, HH.out.symm, hb1⟩
    · have hb64 : decide ((s.size : Int) ≤ 64) = false := by simp; omega
      go_enter Try.func26, Try.ntmps26
      go_wp2_with fail
      have ek : (s.size : Int) / 2 = ((s.size / 2 : Nat) : Int) := by omega
      have hhp : Rp.hp s.size = 1 + Rp.hp (s.size - s.size / 2) := by rw [Rp.hp, if_neg h64]
      have hhf := Rp.hp_half s.size
      rw [ek]; clear ek
      have hk1 : 2 * (s.size / 2) ≤ s.size ∧ s.size ≤ 2 * (s.size / 2) + 1 := by omega
      generalize s.size / 2 = k at *
      have z1 : (s.extract 0 k).size = k := by simp; omega
      have z2 : (s.extract k s.size).size = s.size - k := by simp
      have Z1 := Lib.hid z1; clear z1
      have Z2 := Lib.hid z2; clear z2
      have H1 := Lib.hid hhp; clear hhp
      have H2 := Lib.hid hhf; clear hhf
      have i1 : (0 : Int) ≤ (k : Int) := by omega
      have i2 : (k : Int) ≤ (s.size : Int) := by omega
      go_region_held3 (fun v => Below w.heap.size w v)
        (first
          | (with_reducible (refine Rp.below_dr ?_; first | assumption | exact Below.refl _ _))
          | (with_reducible (refine Rp.below_up ?_ hb3; assumption))
          | (with_reducible (refine Rp.below_up ?_ hb2; assumption))
          | (with_reducible (refine Rp.below_up ?_ hb1; assumption)))
        (first
          | (go_at_call_of 26 (Value.string (s.extract 0 k)); refine (IH.out (s.extract 0 k) _ (by rw [Z1.out]; omega) (by rw [Z1.out]; omega) (by rw [Z1.out]; omega)).mono ?_; rintro e w1 ⟨c1, t1, rfl, hc1, g1, T1, ht1, hb1⟩; have HT1 := Lib.hid ht1; clear ht1; have HL1 := Lib.hid T1; clear T1)
          | (go_at_call 26; refine (IH.out (s.extract k s.size) _ (by rw [Z2.out]; omega) (by rw [Z2.out]; omega) (by rw [Z2.out]; omega)).mono ?_; rintro e w2 ⟨c2, t2, rfl, hc2, g2, T2, ht2, hb2⟩; have HT2 := Lib.hid ht2; clear ht2; have HL2 := Lib.hid T2; clear T2; have hc1' := hc1.up hb2)
          | (go_at_call 46; refine (pair_any c1 c2 t1 t2 _ hc1' hc2 g1 g2 (Rp.len_two HL1.out HL2.out hs)).mono ?_; rintro e w3 ⟨c3, rfl, hc3, hb3⟩))
      go_wp2_with fail
      go_ret
      have q1 := HT1.out; have q2 := HT2.out; have q3 := H2.out; have q4 := H1.out
      rw [Z1.out] at q1; rw [Z2.out] at q2
      have L1 : t1.len + t2.len = s.size := Rp.len_two' HL1.out HL2.out
      refine ⟨c3, _, rfl, hc3, Rp.pair_good g1 g2 (by omega) (by omega), ?_, ?_, by assumption⟩
      · rw [Rp.pair_toL g1 g2, HL1.out, HL2.out, Rp.ext_left, Rp.ext_right, List.take_append_drop]
      · rcases Rp.pair_ht g1 g2 with ⟨h, _⟩ | ⟨h, _⟩
        · rw [h]; omega
        · omega
end Go.Proofs.Ytigibeioapkgiaa
