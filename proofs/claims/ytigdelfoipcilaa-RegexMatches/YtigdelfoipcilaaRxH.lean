/- The document's reader of signs: what special, escape and bound answer, walked. The document's reader of signs: what escape and bound answer, walked. The document's reader of signs: expressions stay while it reads. What the document's one and several answer, walked. What the document's capped answers, walked. -/
import Derived.Test.YtigdelfoipcilaaRxC
namespace Go.Proofs.Ytigdelfoipcilaa
set_option linter.unusedVariables false
set_option linter.unusedSimpArgs false
open Go.RowKit
set_option maxRecDepth 100000 in
set_option maxHeartbeats 400000 in
theorem refSpecial_any (c : Int) (w : World) : Calls Try.prog 98 #[.int .i64 c] w fun e w' => e = .returned (.bool (Rx.special c)) ∧ w' = w := by
  have f0 : wrap64 ((({ data := #[124, 42, 43, 63, 40, 41, 91, 93, 46, 92] } : ByteArray)[0]'(by decide)).toNat : Int) = 124 := by kernel_rfl
  have f1 : wrap64 ((({ data := #[124, 42, 43, 63, 40, 41, 91, 93, 46, 92] } : ByteArray)[1]'(by decide)).toNat : Int) = 42 := by kernel_rfl
  have f2 : wrap64 ((({ data := #[124, 42, 43, 63, 40, 41, 91, 93, 46, 92] } : ByteArray)[2]'(by decide)).toNat : Int) = 43 := by kernel_rfl
  have f3 : wrap64 ((({ data := #[124, 42, 43, 63, 40, 41, 91, 93, 46, 92] } : ByteArray)[3]'(by decide)).toNat : Int) = 63 := by kernel_rfl
  have f4 : wrap64 ((({ data := #[124, 42, 43, 63, 40, 41, 91, 93, 46, 92] } : ByteArray)[4]'(by decide)).toNat : Int) = 40 := by kernel_rfl
  have f5 : wrap64 ((({ data := #[124, 42, 43, 63, 40, 41, 91, 93, 46, 92] } : ByteArray)[5]'(by decide)).toNat : Int) = 41 := by kernel_rfl
  have f6 : wrap64 ((({ data := #[124, 42, 43, 63, 40, 41, 91, 93, 46, 92] } : ByteArray)[6]'(by decide)).toNat : Int) = 91 := by kernel_rfl
  have f7 : wrap64 ((({ data := #[124, 42, 43, 63, 40, 41, 91, 93, 46, 92] } : ByteArray)[7]'(by decide)).toNat : Int) = 93 := by kernel_rfl
  have f8 : wrap64 ((({ data := #[124, 42, 43, 63, 40, 41, 91, 93, 46, 92] } : ByteArray)[8]'(by decide)).toNat : Int) = 46 := by kernel_rfl
  have f9 : wrap64 ((({ data := #[124, 42, 43, 63, 40, 41, 91, 93, 46, 92] } : ByteArray)[9]'(by decide)).toNat : Int) = 92 := by kernel_rfl
  go_enter Try.func98, Try.ntmps98
  go_wp2_with fail
  refine wp_loop_rounds 11 ?_
  rw [rounds_succ]
  by_cases h0 : c = 124
  · have HS := Lib.hid (show Rx.special c = true by rw [h0]; rfl)
    have e : ((124 : Int) == c) = true := by rw [h0]; rfl
    clear h0
    go_wp2_with fail
    go_ret
    exact ⟨by rw [HS.out]; rfl, rfl⟩
  have e0 : ((124 : Int) == c) = false := beq_eq_false_iff_ne.2 (Ne.symm h0)
  go_wp2_with fail
  rw [rounds_succ]
  by_cases h1 : c = 42
  · have HS := Lib.hid (show Rx.special c = true by rw [h1]; rfl)
    have e : ((42 : Int) == c) = true := by rw [h1]; rfl
    clear h1
    go_wp2_with fail
    go_ret
    exact ⟨by rw [HS.out]; rfl, rfl⟩
  have e1 : ((42 : Int) == c) = false := beq_eq_false_iff_ne.2 (Ne.symm h1)
  go_wp2_with fail
  rw [rounds_succ]
  by_cases h2 : c = 43
  · have HS := Lib.hid (show Rx.special c = true by rw [h2]; rfl)
    have e : ((43 : Int) == c) = true := by rw [h2]; rfl
    clear h2
    go_wp2_with fail
    go_ret
    exact ⟨by rw [HS.out]; rfl, rfl⟩
  have e2 : ((43 : Int) == c) = false := beq_eq_false_iff_ne.2 (Ne.symm h2)
  go_wp2_with fail
  rw [rounds_succ]
  by_cases h3 : c = 63
  · have HS := Lib.hid (show Rx.special c = true by rw [h3]; rfl)
    have e : ((63 : Int) == c) = true := by rw [h3]; rfl
    clear h3
    go_wp2_with fail
    go_ret
    exact ⟨by rw [HS.out]; rfl, rfl⟩
  have e3 : ((63 : Int) == c) = false := beq_eq_false_iff_ne.2 (Ne.symm h3)
  go_wp2_with fail
  rw [rounds_succ]
  by_cases h4 : c = 40
  · have HS := Lib.hid (show Rx.special c = true by rw [h4]; rfl)
    have e : ((40 : Int) == c) = true := by rw [h4]; rfl
    clear h4
    go_wp2_with fail
    go_ret
    exact ⟨by rw [HS.out]; rfl, rfl⟩
  have e4 : ((40 : Int) == c) = false := beq_eq_false_iff_ne.2 (Ne.symm h4)
  go_wp2_with fail
  rw [rounds_succ]
  by_cases h5 : c = 41
  · have HS := Lib.hid (show Rx.special c = true by rw [h5]; rfl)
    have e : ((41 : Int) == c) = true := by rw [h5]; rfl
    clear h5
    go_wp2_with fail
    go_ret
    exact ⟨by rw [HS.out]; rfl, rfl⟩
  have e5 : ((41 : Int) == c) = false := beq_eq_false_iff_ne.2 (Ne.symm h5)
  go_wp2_with fail
  rw [rounds_succ]
  by_cases h6 : c = 91
  · have HS := Lib.hid (show Rx.special c = true by rw [h6]; rfl)
    have e : ((91 : Int) == c) = true := by rw [h6]; rfl
    clear h6
    go_wp2_with fail
    go_ret
    exact ⟨by rw [HS.out]; rfl, rfl⟩
  have e6 : ((91 : Int) == c) = false := beq_eq_false_iff_ne.2 (Ne.symm h6)
  go_wp2_with fail
  rw [rounds_succ]
  by_cases h7 : c = 93
  · have HS := Lib.hid (show Rx.special c = true by rw [h7]; rfl)
    have e : ((93 : Int) == c) = true := by rw [h7]; rfl
    clear h7
    go_wp2_with fail
    go_ret
    exact ⟨by rw [HS.out]; rfl, rfl⟩
  have e7 : ((93 : Int) == c) = false := beq_eq_false_iff_ne.2 (Ne.symm h7)
  go_wp2_with fail
  rw [rounds_succ]
  by_cases h8 : c = 46
  · have HS := Lib.hid (show Rx.special c = true by rw [h8]; rfl)
    have e : ((46 : Int) == c) = true := by rw [h8]; rfl
    clear h8
    go_wp2_with fail
    go_ret
    exact ⟨by rw [HS.out]; rfl, rfl⟩
  have e8 : ((46 : Int) == c) = false := beq_eq_false_iff_ne.2 (Ne.symm h8)
  go_wp2_with fail
  rw [rounds_succ]
  by_cases h9 : c = 92
  · have HS := Lib.hid (show Rx.special c = true by rw [h9]; rfl)
    have e : ((92 : Int) == c) = true := by rw [h9]; rfl
    clear h9
    go_wp2_with fail
    go_ret
    exact ⟨by rw [HS.out]; rfl, rfl⟩
  have e9 : ((92 : Int) == c) = false := beq_eq_false_iff_ne.2 (Ne.symm h9)
  go_wp2_with fail
  rw [rounds_succ]
  have HS := Lib.hid (show Rx.special c = false by simp [Rx.special, h0, h1, h2, h3, h4, h5, h6, h7, h8, h9])
  go_wp2_with fail
  go_ret
  exact ⟨by rw [HS.out]; rfl, rfl⟩
open Go.RowKit
/-- behind a reading that gives a number, or is bad -/
def Rx.OPost (w : World) (r : Nat) (a : Option Addr) (L : List Int) (cap : Nat) (o : Option (Int × List Int)) (big : Bool) (e : Ending) (w' : World) : Prop :=
  match o with
  | some (c, t) => Rx.TPost w r a L cap c (some t) big e w'
  | none => ∃ c, Rx.TPost w r a L cap c none big e w'
theorem Rx.St.bad {w : World} {r : Nat} {a : Option Addr} {L : List Int} {cap : Nat} {t : Option (List Int)} {big : Bool} (h : Rx.St w r a L cap t big) : ∃ i b, Rx.Rd w r a L cap i b big := by
  cases t with
  | none => obtain ⟨i, h⟩ := h; exact ⟨i, _, h⟩
  | some t => obtain ⟨k, _, _, h⟩ := h; exact ⟨k, _, h⟩
set_option maxRecDepth 100000 in
set_option maxHeartbeats 400000 in
theorem refEscape_any (r : Nat) (a : Option Addr) (L : List Int) (cap : Nat) (t : Option (List Int)) (big : Bool) (w : World) (h : Rx.St w r a L cap t big) : Calls Try.prog 97 #[.pointer (some ⟨r, 0, none⟩)] w (Rx.OPost w r a L cap (t.bind Rx.esc) big) := by
  have S := Lib.hid (refTake_any r a L cap t big w h)
  clear h
  go_enter Try.func97, Try.ntmps97
  go_wp2_with fail
  refine S.out.mono ?_
  rintro e w1 ⟨rfl, h, G⟩
  clear S
  have HG := Lib.hid G; clear G
  have HS := Lib.hid h
  obtain ⟨i, b, R⟩ := h.bad
  have HR := Lib.hid R
  have c2 := R.c2
  have z2 := R.z2
  clear R h
  have HO := Lib.hid (rfl : t.bind Rx.esc = t.bind Rx.esc)
  generalize ho : t.bind Rx.esc = o at *
  have HO := Lib.hid ho; clear ho
  by_cases h0 : Rx.hd t = 110
  · have ho : ∃ u, Rx.tl t = some u ∧ o = some (10, u) := by
      rw [← HO.out]
      rcases t with _ | _ | ⟨c, t⟩
      · simp [Rx.hd] at h0
      · simp [Rx.hd] at h0
      · simp only [Rx.hd] at h0
        subst h0
        exact ⟨t, rfl, rfl⟩
    obtain ⟨u, hu, rfl⟩ := ho
    have HU := HS.out; rw [hu] at HU
    have HU := Lib.hid HU; clear hu
    have e0 : (Rx.hd t == 110) = true := by rw [h0]; rfl
    clear h0
    generalize Rx.hd t = c at *
    go_wp2_with fail
    go_ret
    exact ⟨rfl, HU.out, HG.out⟩
  by_cases h1 : Rx.hd t = 116
  · have ho : ∃ u, Rx.tl t = some u ∧ o = some (9, u) := by
      rw [← HO.out]
      rcases t with _ | _ | ⟨c, t⟩
      · simp [Rx.hd] at h1
      · simp [Rx.hd] at h1
      · simp only [Rx.hd] at h1
        subst h1
        exact ⟨t, rfl, rfl⟩
    obtain ⟨u, hu, rfl⟩ := ho
    have HU := HS.out; rw [hu] at HU
    have HU := Lib.hid HU; clear hu
    have e1 : (Rx.hd t == 116) = true := by rw [h1]; rfl
    have e0 : (Rx.hd t == 110) = false := beq_eq_false_iff_ne.2 h0
    clear h1
    generalize Rx.hd t = c at *
    go_wp2_with fail
    go_ret
    exact ⟨rfl, HU.out, HG.out⟩
  by_cases h2 : Rx.hd t = 114
  · have ho : ∃ u, Rx.tl t = some u ∧ o = some (13, u) := by
      rw [← HO.out]
      rcases t with _ | _ | ⟨c, t⟩
      · simp [Rx.hd] at h2
      · simp [Rx.hd] at h2
      · simp only [Rx.hd] at h2
        subst h2
        exact ⟨t, rfl, rfl⟩
    obtain ⟨u, hu, rfl⟩ := ho
    have HU := HS.out; rw [hu] at HU
    have HU := Lib.hid HU; clear hu
    have e2 : (Rx.hd t == 114) = true := by rw [h2]; rfl
    have e0 : (Rx.hd t == 110) = false := beq_eq_false_iff_ne.2 h0
    have e1 : (Rx.hd t == 116) = false := beq_eq_false_iff_ne.2 h1
    clear h2
    generalize Rx.hd t = c at *
    go_wp2_with fail
    go_ret
    exact ⟨rfl, HU.out, HG.out⟩
  cases h3 : (Rx.special (Rx.hd t) || Rx.hd t == 45 || Rx.hd t == 94)
  · have ho : o = none := by
      rw [← HO.out]
      rcases t with _ | _ | ⟨c, t⟩
      · rfl
      · rfl
      · simp only [Rx.hd] at h0 h1 h2 h3
        simp [Rx.esc, h0, h1, h2, h3]
    subst ho
    simp only [Bool.or_eq_false_iff] at h3
    obtain ⟨⟨h3, h4⟩, h5⟩ := h3
    have e0 : (Rx.hd t == 110) = false := beq_eq_false_iff_ne.2 h0
    have e1 : (Rx.hd t == 116) = false := beq_eq_false_iff_ne.2 h1
    have e2 : (Rx.hd t == 114) = false := beq_eq_false_iff_ne.2 h2
    have e4 : (Rx.hd t != 45) = true := by simp [bne, h4]
    have e5 : (Rx.hd t != 94) = true := by simp [bne, h5]
    have H3 := Lib.hid h3; clear h3
    generalize Rx.hd t = c at *
    go_wp2_with fail
    refine (refSpecial_any c w1).mono ?_
    rintro e w2 ⟨rfl, rfl⟩
    rw [H3.out]
    go_wp2_with fail
    go_ret
    exact ⟨_, rfl, ⟨_, HR.out.setBad true⟩, Rx.grown_set HG.out _ _⟩
  · have ho : ∃ u, Rx.tl t = some u ∧ o = some (Rx.hd t, u) := by
      rw [← HO.out]
      rcases t with _ | _ | ⟨c, t⟩
      · exact absurd h3 (by decide)
      · exact absurd h3 (by decide)
      · simp only [Rx.hd] at h0 h1 h2 h3
        exact ⟨t, rfl, by simp [Rx.esc, Rx.hd, h0, h1, h2, h3]⟩
    obtain ⟨u, hu, rfl⟩ := ho
    have HU := HS.out; rw [hu] at HU
    have HU := Lib.hid HU; clear hu
    have e0 : (Rx.hd t == 110) = false := beq_eq_false_iff_ne.2 h0
    have e1 : (Rx.hd t == 116) = false := beq_eq_false_iff_ne.2 h1
    have e2 : (Rx.hd t == 114) = false := beq_eq_false_iff_ne.2 h2
    have e4 : (Rx.hd t != 45) = !(Rx.hd t == 45) := rfl
    have e5 : (Rx.hd t != 94) = !(Rx.hd t == 94) := rfl
    clear h0 h1 h2
    have H3 := Lib.hid h3; clear h3
    generalize Rx.hd t = c at *
    go_wp2_with fail
    refine (refSpecial_any c w1).mono ?_
    rintro e w2 ⟨rfl, rfl⟩
    have H3 := H3.out
    cases h4 : Rx.special c
    · rw [h4] at H3
      cases h5 : (c == 45)
      · rw [h5] at H3
        have h6 : (c == 94) = true := by simpa using H3
        rw [h5] at e4; rw [h6] at e5
        clear H3
        go_wp2_with fail
        go_ret
        exact ⟨rfl, HU.out, HG.out⟩
      · rw [h5] at e4
        clear H3 e5
        go_wp2_with fail
        go_ret
        exact ⟨rfl, HU.out, HG.out⟩
    · clear H3 e4 e5
      go_wp2_with fail
      go_ret
      exact ⟨rfl, HU.out, HG.out⟩
theorem Rx.opost_grown {w w1 w' : World} {r : Nat} {a : Option Addr} {L : List Int} {cap : Nat} {o : Option (Int × List Int)} {big : Bool} {e : Ending} (G : w.grownBy w1 (some r)) (h : Rx.OPost w1 r a L cap o big e w') : Rx.OPost w r a L cap o big e w' := by
  cases o with
  | none => obtain ⟨c, h1, h2, h3⟩ := h; exact ⟨c, h1, h2, G.trans h3⟩
  | some p => obtain ⟨h1, h2, h3⟩ := h; exact ⟨h1, h2, G.trans h3⟩
theorem Rx.opost_int {w w' : World} {r : Nat} {a : Option Addr} {L : List Int} {cap : Nat} {o : Option (Int × List Int)} {big : Bool} {e : Ending} (h : Rx.OPost w r a L cap o big e w') : ∃ c, e = .returned (.int .i64 c) := by
  cases o with
  | none => obtain ⟨c, h1, h2, h3⟩ := h; exact ⟨c, h1⟩
  | some p => obtain ⟨h1, h2, h3⟩ := h; exact ⟨_, h1⟩
set_option maxRecDepth 100000 in
set_option maxHeartbeats 400000 in
theorem refBound_any (r : Nat) (a : Option Addr) (L : List Int) (cap : Nat) (t : Option (List Int)) (big : Bool) (w : World) (h : Rx.St w r a L cap t big) : Calls Try.prog 103 #[.pointer (some ⟨r, 0, none⟩)] w (Rx.OPost w r a L cap (t.bind Rx.bound) big) := by
  have S := Lib.hid (refTake_any r a L cap t big w h)
  clear h
  go_enter Try.func103, Try.ntmps103
  go_wp2_with fail
  refine S.out.mono ?_
  rintro e w1 ⟨rfl, h, G⟩
  clear S
  have HG := Lib.hid G; clear G
  have HS := Lib.hid h
  obtain ⟨i, b, R⟩ := h.bad
  have HR := Lib.hid R
  have c2 := R.c2
  have z2 := R.z2
  clear R h
  generalize ho : t.bind Rx.bound = o at *
  have HO := Lib.hid ho; clear ho
  by_cases h0 : Rx.hd t = 92
  · have ho : o = (Rx.tl t).bind Rx.esc := by
      rw [← HO.out]
      rcases t with _ | _ | ⟨c, t⟩
      · rfl
      · rfl
      · simp only [Rx.hd] at h0
        subst h0
        rfl
    subst ho
    have e0 : (Rx.hd t == 92) = true := by rw [h0]; rfl
    clear h0
    generalize Rx.hd t = c at *
    go_wp2_with fail
    refine (refEscape_any r a L cap _ big w1 HS.out).mono ?_
    intro e w2 hP
    obtain ⟨c', rfl⟩ := Rx.opost_int hP
    have HP := Lib.hid (Rx.opost_grown HG.out hP)
    clear hP
    go_wp2_with fail
    go_ret
    exact HP.out
  have e0 : (Rx.hd t == 92) = false := beq_eq_false_iff_ne.2 h0
  cases h3 : (decide (127 < Rx.hd t) || Rx.hd t == 93 || Rx.hd t == 45 || Rx.hd t == 94)
  · have ho : (∃ c u, Rx.tl t = some u ∧ Rx.hd t = c ∧ o = some (c, u)) ∨ (Rx.tl t = none ∧ o = none) := by
      rw [← HO.out]
      rcases t with _ | _ | ⟨c, t⟩
      · exact .inr ⟨rfl, rfl⟩
      · exact .inr ⟨rfl, rfl⟩
      · replace h0 : ¬ c = 92 := h0
        replace h3 : (decide (127 < c) || c == 93 || c == 45 || c == 94) = false := h3
        refine .inl ⟨c, t, rfl, rfl, ?_⟩
        show Rx.bound (c :: t) = _
        rw [Rx.bound, if_neg h0, if_neg (by rw [h3]; simp)]
    simp only [Bool.or_eq_false_iff] at h3
    obtain ⟨⟨⟨h3, h4⟩, h5⟩, h6⟩ := h3
    clear h0
    have HD := Lib.hid ho; clear ho
    generalize hc : Rx.hd t = c at *
    go_wp2_with fail
    go_ret
    rcases HD.out with ⟨c', u, h7, h8, rfl⟩ | ⟨h7, rfl⟩
    · have h9 := HS.out
      rw [h7] at h9
      exact ⟨by rw [← h8]; rfl, h9, HG.out⟩
    · have h9 := HS.out
      rw [h7] at h9
      exact ⟨c, rfl, h9, HG.out⟩
  · have ho : o = none := by
      rw [← HO.out]
      rcases t with _ | _ | ⟨c, t⟩
      · rfl
      · rfl
      · replace h0 : ¬ c = 92 := h0
        replace h3 : (decide (127 < c) || c == 93 || c == 45 || c == 94) = true := h3
        show Rx.bound (c :: t) = _
        rw [Rx.bound, if_neg h0, if_pos h3]
    subst ho
    clear h0
    have H3 := Lib.hid h3; clear h3
    generalize Rx.hd t = c at *
    have H3 := H3.out
    cases h4 : decide (127 < c)
    · rw [h4] at H3
      cases h5 : (c == 93)
      · rw [h5] at H3
        cases h6 : (c == 45)
        · rw [h6] at H3
          have h7 : (c == 94) = true := by simpa using H3
          clear H3
          go_wp2_with fail
          go_ret
          exact ⟨_, rfl, ⟨_, HR.out.setBad true⟩, Rx.grown_set HG.out _ _⟩
        · clear H3
          go_wp2_with fail
          go_ret
          exact ⟨_, rfl, ⟨_, HR.out.setBad true⟩, Rx.grown_set HG.out _ _⟩
      · clear H3
        go_wp2_with fail
        go_ret
        exact ⟨_, rfl, ⟨_, HR.out.setBad true⟩, Rx.grown_set HG.out _ _⟩
    · clear H3
      go_wp2_with fail
      go_ret
      exact ⟨_, rfl, ⟨_, HR.out.setBad true⟩, Rx.grown_set HG.out _ _⟩
open Go.RowKit
theorem Rx.Cell.grown {w w' : World} {r : Nat} (hg : w.grownBy w' (some r)) {x : Addr} {k : Nat} {f : Nat → Bool} {a : Option Addr} {n cap : Nat} (h : Rx.Cell w x k f a n cap) (hn : x.block ≠ r) : Rx.Cell w' x k f a n cap := by
  have hx : ∀ (y : Addr) (v : Value), y.block = x.block → w.cell? y = some v → w'.cell? y = some v := fun y v e hv => hg.cell hv (by rw [e]; simpa using hn)
  exact ⟨hx _ _ rfl h.c0, hx _ _ rfl h.c1, hx _ _ rfl h.c2, hx _ _ rfl h.c3, hx _ _ rfl h.c4, hx _ _ rfl h.c5⟩
theorem Rx.Cell.far {w : World} {r : Nat} {b : Option Addr} {L : List Int} {c : Nat} {i : Int} {bad big : Bool} (R : Rx.Rd w r b L c i bad big) {x : Addr} {k : Nat} {f : Nat → Bool} {a : Option Addr} {n cap : Nat} (h : Rx.Cell w x k f a n cap) : x.block ≠ r := fun e => by
  have h5 := h.c5
  rw [e] at h5
  have := R.only _ _ h5
  omega
mutual
theorem Rx.In.grown {w w' : World} {r : Nat} {b : Option Addr} {L : List Int} {c : Nat} {i : Int} {bad big : Bool} (R : Rx.Rd w r b L c i bad big) (hg : w.grownBy w' (some r)) : ∀ {x : Rx} {p : Addr}, Rx.In w x p → Rx.In w' x p
  | .node k f l, p, h => by
    simp only [Rx.In] at h ⊢
    obtain ⟨hk, a, cap, hc, hl⟩ := h
    exact ⟨hk, a, cap, hc.grown hg (Rx.Cell.far R hc), Rx.InL.grown R hg hl⟩
theorem Rx.InL.grown {w w' : World} {r : Nat} {b : Option Addr} {L : List Int} {c : Nat} {i : Int} {bad big : Bool} (R : Rx.Rd w r b L c i bad big) (hg : w.grownBy w' (some r)) : ∀ {l : List Rx} {a : Option Addr} {i : Nat}, Rx.InL w l a i → Rx.InL w' l a i
  | [], _, _, _ => by simp [Rx.InL]
  | y :: t, a, i, h => by
    simp only [Rx.InL] at h ⊢
    obtain ⟨⟨p, e, hp⟩, hr⟩ := h
    exact ⟨⟨p, e, Rx.In.grown R hg hp⟩, Rx.InL.grown R hg hr⟩
end
/-- an expression stays while the reader alone is written -/
theorem Rx.Is.grown {w w' : World} {r : Nat} {b : Option Addr} {L : List Int} {c : Nat} {i : Int} {bad big : Bool} (R : Rx.Rd w r b L c i bad big) (hg : w.grownBy w' (some r)) {x : Rx} {v : Value} (h : Rx.Is w x v) : Rx.Is w' x v := by
  cases x
  obtain ⟨hk, a, cap, e, hl⟩ := h
  exact ⟨hk, a, cap, e, hl.grown R hg⟩
open Go.RowKit
/-- behind a call that hands back an expression -/
def Rx.VPost (w : World) (x : Rx) (e : Ending) (w' : World) : Prop := ∃ v, e = .returned v ∧ Rx.Is w' x v ∧ Below w.heap.size w w'
theorem Rx.is_one (w : World) (f : Nat → Bool) : Rx.Is w (Rx.one f) (Rx.hdr 1 f none 0 0) := ⟨by omega, none, 0, rfl, trivial⟩
theorem Rx.is_nil (w : World) : Rx.Is w Rx.nil (Rx.hdr 0 (fun _ => false) none 0 0) := ⟨by omega, none, 0, rfl, trivial⟩
theorem Rx.hdr_none (k : Nat) (a : Option Addr) (n cap : Nat) : Rx.hdr k (fun _ => false) a n cap = .agg #[.int .u8 k, .int .u64 0, .int .u64 0, .int .u64 0, .int .u64 0, .slice a n cap] := by
  simp [Rx.hdr, Bs.word_none]
set_option maxRecDepth 100000 in
set_option maxHeartbeats 400000 in
theorem refOne_any (f : Nat → Bool) (w : World) : Calls Try.prog 105 #[Bs.val f] w (Rx.VPost w (Rx.one f)) := by
  unfold Bs.val
  go_enter Try.func105, Try.ntmps105
  go_wp2_with fail
  exact bodyPost_ret (v := Rx.hdr 1 f none 0 0) (by simp [results, Try.results105, go_sem, Rx.hdr]) rfl ⟨_, rfl, Rx.is_one _ f, Bs.below2 _ _ _⟩
set_option maxRecDepth 100000 in
set_option maxHeartbeats 400000 in
theorem refSeveral_any (k : Nat) (hk : k < 256) (l : List Rx) (a : Option Addr) (cap : Nat) (w : World) (hl : Rx.InL w l a 0) : Calls Try.prog 70 #[.int .u8 k, .slice a l.length cap] w (Rx.VPost w (Rx.several k l)) := by
  have HL := Lib.hid hl
  by_cases h1 : l.length = 1
  · obtain ⟨x, rfl⟩ := List.length_eq_one_iff.1 h1
    obtain ⟨p, rfl, hp⟩ := hl.get 0 (by simp)
    obtain ⟨k1, f1, a1, n1, cap1, ⟨x0, x1, x2, x3, x4, x5⟩, hi⟩ := hp.open
    have HI := Lib.hid hi
    have e0 : p.add 0 = p := by simp [Addr.add]
    simp only [Nat.add_zero, Nat.zero_mul, e0] at x0 x1 x2 x3 x4 x5
    clear hl hp hi e0
    rw [show [x].length = 1 from rfl]
    go_enter Try.func70, Try.ntmps70
    have A := Bs.below1 w (.cells #[.int .u8 0, .int .u64 0, .int .u64 0, .int .u64 0, .int .u64 0, .slice none 0 0] 28)
    have B := Bs.below1 w (.cells #[.int .u8 k1, .int .u64 (Bs.word f1 0), .int .u64 (Bs.word f1 1), .int .u64 (Bs.word f1 2), .int .u64 (Bs.word f1 3), .slice a1 n1 cap1] 28)
    replace x0 := Bs.cell_up A x0; replace x1 := Bs.cell_up A x1; replace x2 := Bs.cell_up A x2; replace x3 := Bs.cell_up A x3; replace x4 := Bs.cell_up A x4; replace x5 := Bs.cell_up A x5
    go_wp2_with fail
    exact bodyPost_ret (v := Rx.hdr k1 f1 a1 n1 cap1) (by simp [results, Try.results70, go_sem, Rx.hdr]) rfl ⟨_, rfl, HI.out.up B, B⟩
  · have HX := Lib.hid (show Rx.several k l = .node k (fun _ => false) l by
      unfold Rx.several
      split
      · simp at h1
      · rfl)
    clear hl
    have H := Lib.hid (show Rx.Is w (Rx.node k (fun _ => false) l) (Rx.hdr k (fun _ => false) a l.length cap) from ⟨hk, a, cap, rfl, HL.out⟩)
    have e1 : ((l.length : Int) == 1) = false := by simp; omega
    generalize l.length = n at *
    go_enter Try.func70, Try.ntmps70
    go_wp2_with fail
    exact bodyPost_ret (v := Rx.hdr k (fun _ => false) a n cap) (by simp [results, Try.results70, go_sem, Rx.hdr_none]) rfl ⟨_, rfl, by rw [HX.out]; exact H.out.up (Bs.below1 _ _), Bs.below1 _ _⟩
open Go.RowKit
/-- behind capped -/
def Rx.KPost (w : World) (r : Nat) (a : Option Addr) (L : List Int) (cap : Nat) (t : Option (List Int)) (big : Bool) (x : Rx) (e : Ending) (w' : World) : Prop :=
  ∃ v, e = .returned v ∧ Rx.Is w' (if x.may 1 = true then x else Rx.nil) v ∧ Rx.St w' r a L cap t (big || !x.may 1) ∧ w.grownBy w' (some r)
theorem Rx.St.setBig {w : World} {r : Nat} {a : Option Addr} {L : List Int} {cap : Nat} {t : Option (List Int)} {big : Bool} (h : Rx.St w r a L cap t big) (k : Bool) : Rx.St (w.setCell ⟨r, 3, none⟩ (.bool k)) r a L cap t k := by
  cases t with
  | none => obtain ⟨i, h⟩ := h; exact ⟨i, h.setBig k⟩
  | some t => obtain ⟨j, h1, h2, h⟩ := h; exact ⟨j, h1, h2, h.setBig k⟩
theorem Rx.add_block (x : Addr) (i : Nat) : (x.add i).block = x.block := by
  simp only [Addr.add]
  split <;> rfl
theorem Rx.Rd.far {w : World} {r : Nat} {a : Option Addr} {L : List Int} {cap : Nat} {i : Int} {bad big : Bool} (h : Rx.Rd w r a L cap i bad big) {d : Nat} (hd : d ≠ r) (hn : ∀ x, a = some x → L ≠ [] → x.block ≠ d) (j : Nat) (v : Value) : Rx.Rd (w.setCell ⟨d, j, none⟩ v) r a L cap i bad big := by
  refine ⟨Bs.cell_set h.c0 hd, Bs.cell_set h.c1 hd, Bs.cell_set h.c2 hd, Bs.cell_set h.c3 hd, by simpa using h.z1, by simpa using h.z2, by simpa using h.z3, ?_, h.ne, h.nn, h.ln, ?_⟩
  · intro q hq
    obtain ⟨x, e, hx⟩ := h.sg q hq
    exact ⟨x, e, Bs.cell_set hx (fun e' => hn x e (fun e0 => by rw [e0] at hq; simp at hq) ((Rx.add_block x q).symm.trans e'.symm))⟩
  · intro q u hq
    rw [World.cell?_setCell_other _ _ _ _ (by simp [hd])] at hq
    exact h.only q u hq
theorem Rx.St.far {w : World} {r : Nat} {a : Option Addr} {L : List Int} {cap : Nat} {t : Option (List Int)} {big : Bool} (h : Rx.St w r a L cap t big) {d : Nat} (hd : d ≠ r) (hn : ∀ x, a = some x → L ≠ [] → x.block ≠ d) (j : Nat) (v : Value) : Rx.St (w.setCell ⟨d, j, none⟩ v) r a L cap t big := by
  cases t with
  | none => obtain ⟨i, h⟩ := h; exact ⟨i, h.far hd hn j v⟩
  | some t => obtain ⟨q, h1, h2, h⟩ := h; exact ⟨q, h1, h2, h.far hd hn j v⟩
theorem Rx.St.home {w : World} {r : Nat} {a : Option Addr} {L : List Int} {cap : Nat} {t : Option (List Int)} {big : Bool} (h : Rx.St w r a L cap t big) (x : Addr) (e : a = some x) (hL : L ≠ []) : x.block < w.heap.size := by
  obtain ⟨_, _, R⟩ := h.bad
  obtain ⟨y, e', hy⟩ := R.sg 0 (by cases L with | nil => simp at hL | cons _ _ => simp)
  rw [e] at e'
  injection e' with e'
  subst e'
  have := World.block_lt_of_cell? w _ hy
  rwa [Rx.add_block] at this
/-- a write far from what stood is no write of it -/
theorem Rx.grown_far {w v : World} {c : Nat} {row : Option Nat} (h : w.grownBy v row) (hc : w.heap.size ≤ c) (j : Nat) (u : Value) : w.grownBy (v.setCell ⟨c, j, none⟩ u) row :=
  ⟨h.os, h.tape, h.output, by rw [show (v.setCell ⟨c, j, none⟩ u).heap.size = v.heap.size by simp [go_sem]]; exact h.size, fun k hk hn => by rw [Below.heap_setCell _ _ _ _ (by simp; omega)]; exact h.block k hk hn⟩
set_option maxRecDepth 100000 in
set_option maxHeartbeats 400000 in
theorem refCapped_any (r : Nat) (a : Option Addr) (L : List Int) (cap : Nat) (t : Option (List Int)) (big : Bool) (x : Rx) (v : Value) (w : World) (h : Rx.St w r a L cap t big) (hx : Rx.Is w x v) : Calls Try.prog 69 #[.pointer (some ⟨r, 0, none⟩), v] w (Rx.KPost w r a L cap t big x) := by
  have HX := Lib.hid hx
  have hv : ∃ k f b n c, v = Rx.hdr k f b n c := by
    cases x
    obtain ⟨_, b, c, e, _⟩ := hx
    exact ⟨_, _, b, _, c, e⟩
  obtain ⟨k, f, b, n, c, rfl⟩ := hv
  clear hx
  unfold Rx.hdr at HX ⊢
  go_enter Try.func69, Try.ntmps69
  have A := Bs.below2 w (.cells #[.int .u8 k, .int .u64 (Bs.word f 0), .int .u64 (Bs.word f 1), .int .u64 (Bs.word f 2), .int .u64 (Bs.word f 3), .slice b n c] 28) (.cells #[.int .u8 0, .int .u64 0, .int .u64 0, .int .u64 0, .int .u64 0, .slice none 0 0] 28)
  go_wp2_with fail
  have C := (Rx.cell_new w k f b n c 28).up (Bs.below1 _ (.cells #[.int .u8 0, .int .u64 0, .int .u64 0, .int .u64 0, .int .u64 0, .slice none 0 0] 28))
  have d0 : ((w.alloc (.cells #[.int .u8 k, .int .u64 (Bs.word f 0), .int .u64 (Bs.word f 1), .int .u64 (Bs.word f 2), .int .u64 (Bs.word f 3), .slice b n c] 28)).alloc (.cells #[.int .u8 0, .int .u64 0, .int .u64 0, .int .u64 0, .int .u64 0, .slice none 0 0] 28)).cell? ⟨w.heap.size + 1, 0, none⟩ = some (.int .u8 0) := by simp [go_sem]
  have g0 : ((w.alloc (.cells #[.int .u8 k, .int .u64 (Bs.word f 0), .int .u64 (Bs.word f 1), .int .u64 (Bs.word f 2), .int .u64 (Bs.word f 3), .slice b n c] 28)).alloc (.cells #[.int .u8 0, .int .u64 0, .int .u64 0, .int .u64 0, .int .u64 0, .slice none 0 0] 28)).frozen? ⟨w.heap.size + 1, 0, none⟩ = false := by simp [go_sem]
  have d1 : ((w.alloc (.cells #[.int .u8 k, .int .u64 (Bs.word f 0), .int .u64 (Bs.word f 1), .int .u64 (Bs.word f 2), .int .u64 (Bs.word f 3), .slice b n c] 28)).alloc (.cells #[.int .u8 0, .int .u64 0, .int .u64 0, .int .u64 0, .int .u64 0, .slice none 0 0] 28)).cell? ⟨w.heap.size + 1, 1, none⟩ = some (.int .u64 0) := by simp [go_sem]
  have g1 : ((w.alloc (.cells #[.int .u8 k, .int .u64 (Bs.word f 0), .int .u64 (Bs.word f 1), .int .u64 (Bs.word f 2), .int .u64 (Bs.word f 3), .slice b n c] 28)).alloc (.cells #[.int .u8 0, .int .u64 0, .int .u64 0, .int .u64 0, .int .u64 0, .slice none 0 0] 28)).frozen? ⟨w.heap.size + 1, 1, none⟩ = false := by simp [go_sem]
  have d2 : ((w.alloc (.cells #[.int .u8 k, .int .u64 (Bs.word f 0), .int .u64 (Bs.word f 1), .int .u64 (Bs.word f 2), .int .u64 (Bs.word f 3), .slice b n c] 28)).alloc (.cells #[.int .u8 0, .int .u64 0, .int .u64 0, .int .u64 0, .int .u64 0, .slice none 0 0] 28)).cell? ⟨w.heap.size + 1, 2, none⟩ = some (.int .u64 0) := by simp [go_sem]
  have g2 : ((w.alloc (.cells #[.int .u8 k, .int .u64 (Bs.word f 0), .int .u64 (Bs.word f 1), .int .u64 (Bs.word f 2), .int .u64 (Bs.word f 3), .slice b n c] 28)).alloc (.cells #[.int .u8 0, .int .u64 0, .int .u64 0, .int .u64 0, .int .u64 0, .slice none 0 0] 28)).frozen? ⟨w.heap.size + 1, 2, none⟩ = false := by simp [go_sem]
  have d3 : ((w.alloc (.cells #[.int .u8 k, .int .u64 (Bs.word f 0), .int .u64 (Bs.word f 1), .int .u64 (Bs.word f 2), .int .u64 (Bs.word f 3), .slice b n c] 28)).alloc (.cells #[.int .u8 0, .int .u64 0, .int .u64 0, .int .u64 0, .int .u64 0, .slice none 0 0] 28)).cell? ⟨w.heap.size + 1, 3, none⟩ = some (.int .u64 0) := by simp [go_sem]
  have g3 : ((w.alloc (.cells #[.int .u8 k, .int .u64 (Bs.word f 0), .int .u64 (Bs.word f 1), .int .u64 (Bs.word f 2), .int .u64 (Bs.word f 3), .slice b n c] 28)).alloc (.cells #[.int .u8 0, .int .u64 0, .int .u64 0, .int .u64 0, .int .u64 0, .slice none 0 0] 28)).frozen? ⟨w.heap.size + 1, 3, none⟩ = false := by simp [go_sem]
  have d4 : ((w.alloc (.cells #[.int .u8 k, .int .u64 (Bs.word f 0), .int .u64 (Bs.word f 1), .int .u64 (Bs.word f 2), .int .u64 (Bs.word f 3), .slice b n c] 28)).alloc (.cells #[.int .u8 0, .int .u64 0, .int .u64 0, .int .u64 0, .int .u64 0, .slice none 0 0] 28)).cell? ⟨w.heap.size + 1, 4, none⟩ = some (.int .u64 0) := by simp [go_sem]
  have g4 : ((w.alloc (.cells #[.int .u8 k, .int .u64 (Bs.word f 0), .int .u64 (Bs.word f 1), .int .u64 (Bs.word f 2), .int .u64 (Bs.word f 3), .slice b n c] 28)).alloc (.cells #[.int .u8 0, .int .u64 0, .int .u64 0, .int .u64 0, .int .u64 0, .slice none 0 0] 28)).frozen? ⟨w.heap.size + 1, 4, none⟩ = false := by simp [go_sem]
  have d5 : ((w.alloc (.cells #[.int .u8 k, .int .u64 (Bs.word f 0), .int .u64 (Bs.word f 1), .int .u64 (Bs.word f 2), .int .u64 (Bs.word f 3), .slice b n c] 28)).alloc (.cells #[.int .u8 0, .int .u64 0, .int .u64 0, .int .u64 0, .int .u64 0, .slice none 0 0] 28)).cell? ⟨w.heap.size + 1, 5, none⟩ = some (.slice none 0 0) := by simp [go_sem]
  have g5 : ((w.alloc (.cells #[.int .u8 k, .int .u64 (Bs.word f 0), .int .u64 (Bs.word f 1), .int .u64 (Bs.word f 2), .int .u64 (Bs.word f 3), .slice b n c] 28)).alloc (.cells #[.int .u8 0, .int .u64 0, .int .u64 0, .int .u64 0, .int .u64 0, .slice none 0 0] 28)).frozen? ⟨w.heap.size + 1, 5, none⟩ = false := by simp [go_sem]
  have hs : w.heap.size + 1 < ((w.alloc (.cells #[.int .u8 k, .int .u64 (Bs.word f 0), .int .u64 (Bs.word f 1), .int .u64 (Bs.word f 2), .int .u64 (Bs.word f 3), .slice b n c] 28)).alloc (.cells #[.int .u8 0, .int .u64 0, .int .u64 0, .int .u64 0, .int .u64 0, .slice none 0 0] 28)).heap.size := by simp [go_sem]
  have hrl : r < w.heap.size := by obtain ⟨_, _, R⟩ := h.bad; exact R.lt
  have H0 := Lib.hid h
  have HX0 := HX
  have HF := Lib.hid (show ∀ y, a = some y → L ≠ [] → y.block ≠ w.heap.size + 1 from fun y e hL => by have := h.home y e hL; omega)
  replace h := h.up A
  have X := HX.out.up A
  generalize ((w.alloc (.cells #[.int .u8 k, .int .u64 (Bs.word f 0), .int .u64 (Bs.word f 1), .int .u64 (Bs.word f 2), .int .u64 (Bs.word f 3), .slice b n c] 28)).alloc (.cells #[.int .u8 0, .int .u64 0, .int .u64 0, .int .u64 0, .int .u64 0, .slice none 0 0] 28)) = W at *
  have CQ := refCount_any x.size x (Nat.le_refl _) _ 1 W X (by omega) (by omega)
  refine CQ.mono ?_
  rintro e w1 ⟨rfl, hb⟩
  clear CQ
  replace C := C.up hb
  replace g0 := Bs.frz_up hb d0 g0; replace d0 := Bs.cell_up hb d0
  replace g1 := Bs.frz_up hb d1 g1; replace d1 := Bs.cell_up hb d1
  replace g2 := Bs.frz_up hb d2 g2; replace d2 := Bs.cell_up hb d2
  replace g3 := Bs.frz_up hb d3 g3; replace d3 := Bs.cell_up hb d3
  replace g4 := Bs.frz_up hb d4 g4; replace d4 := Bs.cell_up hb d4
  replace g5 := Bs.frz_up hb d5 g5; replace d5 := Bs.cell_up hb d5
  replace h := h.up hb
  replace X := X.up hb
  replace A := Bs.below_up A hb
  clear hb hs HX
  have HA := Lib.hid A; clear A
  have HS := Lib.hid h
  have HI := Lib.hid X; clear X
  obtain ⟨i, bd, R⟩ := h.bad
  have HR := Lib.hid R
  have r3 := R.c3
  have q3 := R.z3
  clear R h
  obtain ⟨c0, c1, c2, c3, c4, c5⟩ := C
  simp only [Nat.zero_add] at c1 c2 c3 c4 c5
  rw [Rx.cnt_eq x 1 (by omega)]
  cases hm : x.may 1
  · have n1 : r ≠ w.heap.size + 1 := by omega
    simp only [Rx.cntI, Bool.false_eq_true, if_false]
    go_wp2_with fail
    have n2 : w.heap.size + 1 ≠ r := Ne.symm n1
    have n3 : w.heap.size ≤ w.heap.size + 1 := by omega
    refine bodyPost_ret (v := Rx.hdr 0 (fun _ => false) none 0 0) (by simp [results, Try.results69, go_sem, Rx.hdr_none, d0, d1, d2, d3, d4, d5, n1]) rfl ⟨_, rfl, by rw [hm]; exact Rx.is_nil _, ?_, ?_⟩
    · have h9 := (((((HS.out.setBig true).far n2 HF.out 0 (.int .u8 0)).far n2 HF.out 1 (.int .u64 0)).far n2 HF.out 2 (.int .u64 0)).far n2 HF.out 3 (.int .u64 0)).far n2 HF.out 4 (.int .u64 0)
      have h9 := h9.far n2 HF.out 5 (.slice none 0 0)
      rw [hm]
      simpa using h9
    · exact Rx.grown_far (Rx.grown_far (Rx.grown_far (Rx.grown_far (Rx.grown_far (Rx.grown_far (Rx.grown_set (Rx.grown_of r HA.out) _ _) n3 _ _) n3 _ _) n3 _ _) n3 _ _) n3 _ _) n3 _ _
  · simp only [Rx.cntI, if_true]
    have e1 : decide ((x.size : Int) < 0) = false := by simp
    go_wp2_with fail
    have n3 : w.heap.size ≤ w.heap.size + 1 := by omega
    have B := (((((HA.out.setCell (p := ⟨w.heap.size + 1, 0, none⟩) n3 (.int .u8 k)).setCell (p := ⟨w.heap.size + 1, 1, none⟩) n3 (.int .u64 (Bs.word f 0))).setCell (p := ⟨w.heap.size + 1, 2, none⟩) n3 (.int .u64 (Bs.word f 1))).setCell (p := ⟨w.heap.size + 1, 3, none⟩) n3 (.int .u64 (Bs.word f 2))).setCell (p := ⟨w.heap.size + 1, 4, none⟩) n3 (.int .u64 (Bs.word f 3))).setCell (p := ⟨w.heap.size + 1, 5, none⟩) n3 (.slice b n c)
    exact bodyPost_ret (v := Rx.hdr k f b n c) (by simp [results, Try.results69, go_sem, Rx.hdr, d0, d1, d2, d3, d4, d5]) rfl ⟨_, rfl, by rw [hm]; exact HX0.out.up B, by rw [hm]; simpa using H0.out.up B, Rx.grown_of r B⟩
end Go.Proofs.Ytigdelfoipcilaa
