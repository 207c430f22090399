/- What 'put' answers, walked. -/
import Derived.Test.YtigibeioapkgiaaRpG
namespace Go.Proofs.Ytigibeioapkgiaa
set_option linter.unusedVariables false
set_option linter.unusedSimpArgs false
open Go.RowKit
open Rp (Tr)
set_option maxHeartbeats 400000 in
theorem pieces_any (s : ByteArray) (w : World) (hs : s.size ≤ 1000000) : Calls Try.prog 26 #[.string s] w (Rp.RPost w s.data.toList) := by
  by_cases h0 : s.size = 0
  · have hd : decide ((s.size : Int) ≤ 64) = true := by simp; omega
    have H0 := Lib.hid h0; clear h0
    go_enter Try.func26, Try.ntmps26
    go_wp2_with (go_at_call 45; refine (piece_none _ _ H0.out).mono ?_; rintro e w1 ⟨rfl, rfl⟩)
    go_ret
    refine ⟨none, rfl, .inl ⟨rfl, ?_⟩, Below.refl _ _⟩
    exact List.eq_nil_of_length_eq_zero (by simpa using H0.out)
  · exact (pieces_n _ s w (Nat.le_refl _) (by omega) hs).mono fun e w' ⟨c, t, he, hc, g, T, _, hb⟩ => ⟨_, he, .inr ⟨c, t, rfl, hc, g, T⟩, hb⟩
theorem Rp.ins_left (a b s : List UInt8) (k : Nat) (h : k ≤ a.length) : (a ++ b).take k ++ s ++ (a ++ b).drop k = (a.take k ++ s ++ a.drop k) ++ b := by
  rw [List.take_append_of_le_length h, List.drop_append_of_le_length h]; simp
theorem Rp.ins_right (a b s : List UInt8) (k : Nat) (h : a.length ≤ k) : (a ++ b).take k ++ s ++ (a ++ b).drop k = a ++ (b.take (k - a.length) ++ s ++ b.drop (k - a.length)) := by
  rw [List.take_append, List.drop_append, List.take_of_length_le h, List.drop_of_length_le h]; simp
theorem Rp.IsPart.rep {w : World} {b : Nat} {t : Tr} (h : Rp.IsPart w b t) (g : t.Good) : Rp.Rep w (some ⟨b, 0, none⟩) t.toL := .inr ⟨b, t, rfl, h, g, rfl⟩
theorem Rp.ins_len (l s : List UInt8) (k : Nat) : (l.take k ++ s ++ l.drop k).length = l.length + s.length := by
  simp; omega
end Go.Proofs.Ytigibeioapkgiaa
