/- The program's reader of expressions: what at, sign, escaped, meant, member and item answer, walked. -/
import Derived.Test.YtndenipjiclkaaaRyA
import Derived.Test.YtndenipjiclkaaaShelf
import Derived.Test.YtndenipjiclkaaaBsE
namespace Go.Proofs.Ytndenipjiclkaaa
set_option linter.unusedVariables false
set_option linter.unusedSimpArgs false
open Go.RowKit
theorem Px.index (S : List UInt8) (c : UInt8) : decide (0 ≤ Lib.indexByte S c) = S.contains c := by
  rw [Bool.eq_iff_iff, decide_eq_true_eq]
  induction S with
  | nil => simp [Lib.indexByte]
  | cons a l ih =>
    have hg := Lib.indexByte_ge l c
    rw [List.contains_cons, Bool.or_eq_true, beq_iff_eq, ← ih, Lib.indexByte]
    by_cases h : a = c
    · simp [h]
    · have h' : ¬ c = a := fun e => h e.symm
      rw [if_neg (by simp [h])]
      constructor
      · intro h2
        split at h2 <;> rename_i h3 <;> simp only [beq_iff_eq] at h3 <;> first | (exact .inr (by omega)) | omega
      · rintro (h2 | h2)
        · exact absurd h2 h'
        · rw [if_neg (by simp; omega)]; omega
set_option maxRecDepth 100000 in
set_option maxHeartbeats 400000 in
theorem at_any (r : Nat) (t : List Int) (big : Bool) (S : ByteArray) (hS : ∀ b ∈ S.data.toList, b.toNat < 128) (w : World) (h : Px.St w r t big) : Calls Try.prog 97 #[.pointer (some ⟨r, 0, none⟩), .string S] w fun e w' => e = .returned (.bool (Px.oneOf S.data.toList t)) ∧ w' = w := by
  obtain ⟨⟨s, c0, hs⟩, c1, z0, z1, _⟩ := h
  cases t with
  | nil =>
    have e0 := Px.empty hs.nil
    clear hs
    go_enter Try.func97, Try.ntmps97
    go_wp2_with fail
    go_ret
    exact ⟨rfl, rfl⟩
  | cons n t =>
    have h1 := hs.len
    have e0 := Px.not_empty h1
    have hl := hs.max
    unfold maxLen at hl
    have HA := Lib.hid (hs.any h1 S.data.toList hS)
    clear hs hS
    have C := Lib.hid (Try.strings_IndexByte S s[0].toNat w)
    have HE := Lib.hid (Px.index S.data.toList s[0])
    go_enter Try.func97, Try.ntmps97
    go_wp2_with fail
    refine C.out.mono ?_
    rintro e w1 ⟨rfl, rfl⟩
    have e9 : ((s[0].toNat : Int)).toNat.toUInt8 = s[0] := by simp
    rw [e9]
    have HE := HE.out
    rw [HA.out] at HE
    generalize Lib.indexByte S.data.toList s[0] = d at *
    clear C HA e9
    go_wp2_with fail
    go_ret
    exact ⟨by rw [← HE]; rfl, rfl⟩
/-- a number is read, or the text is given up -/
def Px.OPost (w : World) (r : Nat) (big : Bool) (o : Option (Int × List Int)) (e : Ending) (w' : World) : Prop :=
  (match o with
  | some (c, t) => e = .returned (.int .i64 c) ∧ Px.St w' r t big
  | none => e = Px.up 20) ∧ w.grownBy w' (some r)
def Px.uncons : List Int → Option (Int × List Int)
  | [] => none
  | c :: r => some (c, r)
set_option maxRecDepth 100000 in
set_option maxHeartbeats 400000 in
theorem psign_any (r : Nat) (t : List Int) (big : Bool) (w : World) (h : Px.St w r t big) : Calls Try.prog 109 #[.pointer (some ⟨r, 0, none⟩)] w (Px.OPost w r big (Px.uncons t)) := by
  obtain ⟨s, c0, hs⟩ := h.c0
  have F := Lib.hid (first_any s w hs.max)
  have H := Lib.hid h
  clear h
  have S := Lib.hid hs
  clear hs
  go_enter Try.func109, Try.ntmps109
  go_wp2_with fail
  refine F.out.mono ?_
  rintro e w1 ⟨rfl, n, hw⟩
  have hb := Rx.see_below hw
  have H1 := Lib.hid (H.out.up hb)
  have G := Lib.hid (Rx.grown_of r hb)
  replace c0 := Bs.cell_up hb c0
  have z0 := H1.out.z0
  clear F hw hb H
  cases t with
  | nil =>
    have e1 : Rn.firstL s.data.toList = (-1, 0) := Rn.firstL_nil s S.out.nil
    rw [e1]
    have N := Lib.hid (need_no 20 w1)
    go_wp2_with fail
    refine N.out.mono ?_
    rintro e w2 ⟨rfl, rfl⟩
    exact ⟨rfl, rfl, G.out⟩
  | cons m t =>
    obtain ⟨k, k0, ks, e1, T⟩ := S.out.on
    have hl := S.out.max
    unfold maxLen at hl
    have T := Lib.hid T
    rw [e1]
    have N := Lib.hid (need_yes 20 w1)
    have e2 : decide ((0 : Int) < k) = true := by simp; omega
    clear e1
    go_wp2_with fail
    refine N.out.mono ?_
    rintro e w2 ⟨rfl, rfl⟩
    go_wp2_with fail
    go_ret
    exact ⟨⟨rfl, H1.out.text T.out⟩, Rx.grown_set G.out _ _⟩
end Go.Proofs.Ytndenipjiclkaaa
