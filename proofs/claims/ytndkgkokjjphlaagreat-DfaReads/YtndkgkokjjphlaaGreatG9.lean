/- The program's reader of expressions: what escaped, meant, member and item answer, walked. Expressions in memory by which blocks they lie in; rows of expressions that grow by append. The program's expressions: what one, span, joined and star answer, walked. -/
import Derived.Test.YtndkgkokjjphlaaGreatG8
import Derived.Deep.AppendLies
namespace Go.Proofs.YtndkgkokjjphlaaGreat
set_option linter.unusedVariables false
set_option linter.unusedSimpArgs false
open Go.RowKit
theorem pass_yes (r : Nat) (u : List Int) (big : Bool) (c : Nat) (hc : c < 128) (w : World) (h : Px.St w r ((c : Int) :: u) big) : Calls Tryz.prog 102 #[.pointer (some ⟨r, 0, none⟩), .int .u8 c] w fun e w' => e = .returned (.bool true) ∧ Px.St w' r u big ∧ w.grownBy w' (some r) :=
  (pass_any r _ big c hc w h).mono fun e w' ⟨h1, h2, h3⟩ => ⟨by rw [h1]; simp, by simpa [Px.passed] using h2, h3⟩
theorem pass_no (r : Nat) (t : List Int) (big : Bool) (c : Nat) (hc : c < 128) (ht : ¬ t.head? = some (c : Int)) (w : World) (h : Px.St w r t big) : Calls Tryz.prog 102 #[.pointer (some ⟨r, 0, none⟩), .int .u8 c] w fun e w' => e = .returned (.bool false) ∧ Px.St w' r t big ∧ w.grownBy w' (some r) :=
  (pass_any r _ big c hc w h).mono fun e w' ⟨h1, h2, h3⟩ => ⟨by rw [h1]; simp [ht], by rw [Px.passed, if_neg ht] at h2; exact h2, h3⟩
theorem Px.head_is {t : List Int} {c : Int} (h : t.head? = some c) : ∃ u, t = c :: u := by
  cases t with
  | nil => simp at h
  | cons a u => simp at h; exact ⟨u, by rw [h]⟩
def Px.escS : ByteArray := ⟨#[124, 42, 43, 63, 40, 41, 91, 93, 46, 92, 45, 94]⟩
theorem Px.esc_one (c : Int) (u : List Int) : Px.oneOf Px.escS.data.toList (c :: u) = (Rx.special c || c == 45 || c == 94) := by
  rw [Bool.eq_iff_iff]
  simp [Px.oneOf, Px.escS, Rx.special]
  omega
theorem Px.opost_on {w w1 w' : World} {r : Nat} {big : Bool} {o : Option (Int × List Int)} {e : Ending} (G : w.grownBy w1 (some r)) (h : Px.OPost w1 r big o e w') : Px.OPost w r big o e w' := ⟨h.1, G.trans h.2⟩
set_option maxRecDepth 100000 in
set_option maxHeartbeats 400000 in
theorem escaped_any (r : Nat) (t : List Int) (big : Bool) (w : World) (h : Px.St w r t big) : Calls Tryz.prog 137 #[.pointer (some ⟨r, 0, none⟩)] w (Px.OPost w r big (Rx.esc t)) := by
  by_cases h0 : t.head? = some (110 : Int)
  · obtain ⟨u, rfl⟩ := Px.head_is h0
    have P := Lib.hid (pass_yes r u big 110 (by decide) w h)
    clear h0 h
    go_enter Tryz.func137, Tryz.ntmps137
    go_wp2_with fail
    refine P.out.mono ?_
    rintro e w1 ⟨rfl, h, G⟩
    have H := Lib.hid h; have G := Lib.hid G; clear h P
    go_wp2_with fail
    go_ret
    exact ⟨⟨rfl, H.out⟩, G.out⟩
  have P := Lib.hid (pass_no r t big 110 (by decide) h0 w h)
  clear h
  go_enter Tryz.func137, Tryz.ntmps137
  go_wp2_with fail
  refine P.out.mono ?_
  rintro e w1 ⟨rfl, h, G0⟩
  have G0 := Lib.hid G0; clear P
  by_cases h1 : t.head? = some (116 : Int)
  · obtain ⟨u, rfl⟩ := Px.head_is h1
    have P := Lib.hid (pass_yes r u big 116 (by decide) w1 h)
    clear h1 h
    go_wp2_with fail
    refine P.out.mono ?_
    rintro e w2 ⟨rfl, h, G⟩
    have H := Lib.hid h; have G := Lib.hid G; clear h P
    go_wp2_with fail
    go_ret
    exact ⟨⟨rfl, H.out⟩, G0.out.trans G.out⟩
  have P := Lib.hid (pass_no r t big 116 (by decide) h1 w1 h)
  clear h
  go_wp2_with fail
  refine P.out.mono ?_
  rintro e w2 ⟨rfl, h, G1⟩
  have G1 := Lib.hid (G0.out.trans G1); clear P G0
  by_cases h2 : t.head? = some (114 : Int)
  · obtain ⟨u, rfl⟩ := Px.head_is h2
    have P := Lib.hid (pass_yes r u big 114 (by decide) w2 h)
    clear h2 h
    go_wp2_with fail
    refine P.out.mono ?_
    rintro e w3 ⟨rfl, h, G⟩
    have H := Lib.hid h; have G := Lib.hid G; clear h P
    go_wp2_with fail
    go_ret
    exact ⟨⟨rfl, H.out⟩, G1.out.trans G.out⟩
  have P := Lib.hid (pass_no r t big 114 (by decide) h2 w2 h)
  clear h
  go_wp2_with fail
  refine P.out.mono ?_
  rintro e w3 ⟨rfl, h, G2⟩
  have G2 := Lib.hid (G1.out.trans G2); clear P G1
  have A := Lib.hid (at_any r t big Px.escS (by decide) w3 h)
  go_wp2_with fail
  refine A.out.mono ?_
  rintro e w4 ⟨rfl, rfl⟩
  have HE := Lib.hid (show Rx.esc t = if Px.oneOf Px.escS.data.toList t = true then Px.uncons t else none by
    cases t with
    | nil => rfl
    | cons c u =>
      rw [Px.esc_one]
      simp only [List.head?_cons, Option.some.injEq] at h0 h1 h2
      simp [Rx.esc, h0, h1, h2, Px.uncons])
  have H := Lib.hid h
  clear A h h0 h1 h2
  generalize Px.oneOf Px.escS.data.toList t = b at *
  cases b
  · have N := Lib.hid (need_no 20 w4)
    go_wp2_with fail
    refine N.out.mono ?_
    rintro e w5 ⟨rfl, rfl⟩
    exact ⟨rfl, by rw [HE.out]; exact rfl, G2.out⟩
  · have N := Lib.hid (need_yes 20 w4)
    go_wp2_with fail
    refine N.out.mono ?_
    rintro e w5 ⟨rfl, rfl⟩
    have S := Lib.hid (psign_any r t big w5 H.out)
    go_wp2_with fail
    refine S.out.mono ?_
    intro e w6 hP
    have HP := Lib.hid (Px.opost_on G2.out hP)
    have HE := Lib.hid (show Rx.esc t = Px.uncons t from HE.out)
    cases hu : Px.uncons t with
    | none =>
      rw [hu] at hP
      obtain ⟨rfl, _⟩ := hP
      exact ⟨rfl, by rw [HE.out, hu]; exact rfl, HP.out.2⟩
    | some p =>
      rw [hu] at hP
      obtain ⟨c, u⟩ := p
      obtain ⟨⟨rfl, _⟩, _⟩ := hP
      go_wp2_with fail
      go_ret
      rw [HE.out]; exact HP.out
def Px.mean (S : ByteArray) : List Int → Option (Int × List Int)
  | [] => none
  | c :: u => if c = 92 then Rx.esc u else if Px.oneOf S.data.toList (c :: u) = true then none else some (c, u)
set_option maxRecDepth 100000 in
set_option maxHeartbeats 400000 in
theorem meant_any (r : Nat) (t : List Int) (big : Bool) (S : ByteArray) (hS : ∀ b ∈ S.data.toList, b.toNat < 128) (w : World) (h : Px.St w r t big) : Calls Tryz.prog 126 #[.pointer (some ⟨r, 0, none⟩), .string S] w (Px.OPost w r big (Px.mean S t)) := by
  by_cases h0 : t.head? = some (92 : Int)
  · obtain ⟨u, rfl⟩ := Px.head_is h0
    have P := Lib.hid (pass_yes r u big 92 (by decide) w h)
    have HM := Lib.hid (show Px.mean S (92 :: u) = Rx.esc u by simp [Px.mean])
    clear h0 h hS
    go_enter Tryz.func126, Tryz.ntmps126
    go_wp2_with fail
    refine P.out.mono ?_
    rintro e w1 ⟨rfl, h, G⟩
    have E := Lib.hid (escaped_any r u big w1 h); have G := Lib.hid G; clear h P
    go_wp2_with fail
    refine E.out.mono ?_
    intro e w2 hP
    have HP := Lib.hid (Px.opost_on G.out hP)
    cases hu : Rx.esc u with
    | none =>
      rw [hu] at hP
      obtain ⟨rfl, _⟩ := hP
      exact ⟨rfl, by rw [HM.out, hu]; exact rfl, HP.out.2⟩
    | some p =>
      rw [hu] at hP
      obtain ⟨c, v⟩ := p
      obtain ⟨⟨rfl, _⟩, _⟩ := hP
      clear hu
      go_wp2_with fail
      go_ret
      rw [HM.out]; exact HP.out
  have P := Lib.hid (pass_no r t big 92 (by decide) h0 w h)
  have HM := Lib.hid (show Px.mean S t = if Px.oneOf S.data.toList t = true then none else Px.uncons t by
    cases t with
    | nil => rfl
    | cons c u =>
      simp only [List.head?_cons, Option.some.injEq] at h0
      simp [Px.mean, h0, Px.uncons])
  clear h h0
  go_enter Tryz.func126, Tryz.ntmps126
  go_wp2_with fail
  refine P.out.mono ?_
  rintro e w1 ⟨rfl, h, G⟩
  have G := Lib.hid G; clear P
  have A := Lib.hid (at_any r t big S hS w1 h)
  have H := Lib.hid h
  clear h hS
  go_wp2_with fail
  refine A.out.mono ?_
  rintro e w2 ⟨rfl, rfl⟩
  clear A
  generalize Px.oneOf S.data.toList t = b at *
  cases b
  · have N := Lib.hid (need_yes 20 w2)
    go_wp2_with fail
    refine N.out.mono ?_
    rintro e w3 ⟨rfl, rfl⟩
    have S := Lib.hid (psign_any r t big w3 H.out)
    go_wp2_with fail
    refine S.out.mono ?_
    intro e w4 hP
    have HP := Lib.hid (Px.opost_on G.out hP)
    cases hu : Px.uncons t with
    | none =>
      rw [hu] at hP
      obtain ⟨rfl, _⟩ := hP
      exact ⟨rfl, by rw [HM.out, hu]; exact rfl, HP.out.2⟩
    | some p =>
      rw [hu] at hP
      obtain ⟨c, u⟩ := p
      obtain ⟨⟨rfl, _⟩, _⟩ := hP
      clear hu
      go_wp2_with fail
      go_ret
      rw [HM.out]; exact HP.out
  · have N := Lib.hid (need_no 20 w2)
    go_wp2_with fail
    refine N.out.mono ?_
    rintro e w3 ⟨rfl, rfl⟩
    exact ⟨rfl, by rw [HM.out]; exact rfl, G.out⟩
def Px.insS : ByteArray := ⟨#[93, 92, 45, 94]⟩
theorem Px.esc_low {l : List Int} {c : Int} {u : List Int} (h : Rx.esc l = some (c, u)) : 0 ≤ c ∧ c < 128 := by
  cases l with
  | nil => simp [Rx.esc] at h
  | cons a t =>
    simp only [Rx.esc] at h
    repeat' (split at h)
    all_goals (try simp only [Option.some.injEq, Prod.mk.injEq] at h)
    · omega
    · omega
    · omega
    · rename_i hs
      simp [Rx.special] at hs
      omega
    · simp at h
theorem Px.bound_mean (t : List Int) : Rx.bound t = match Px.mean Px.insS t with
    | none => none
    | some (c, u) => if c < 128 then some (c, u) else none := by
  cases t with
  | nil => rfl
  | cons c u =>
    simp only [Rx.bound, Px.mean]
    by_cases h : c = 92
    · simp only [h, if_true]
      cases hu : Rx.esc u with
      | none => rfl
      | some p =>
        obtain ⟨d, v⟩ := p
        have := Px.esc_low hu
        simp [this]
    · simp only [h, if_false]
      have e : Px.oneOf Px.insS.data.toList (c :: u) = (c == 93 || c == 45 || c == 94) := by
        rw [Bool.eq_iff_iff]; simp [Px.oneOf, Px.insS]; omega
      rw [e]
      by_cases h2 : (c == 93 || c == 45 || c == 94) = true
      · rw [if_pos h2, if_pos (by simp only [Bool.or_eq_true, beq_iff_eq, decide_eq_true_eq] at h2 ⊢; omega)]
      · rw [if_neg h2]
        by_cases h3 : c < 128
        · rw [if_neg (by simp only [Bool.or_eq_true, beq_iff_eq, decide_eq_true_eq] at h2 ⊢; omega)]; simp [h3]
        · rw [if_pos (by simp only [Bool.or_eq_true, decide_eq_true_eq]; omega)]; simp [h3]
theorem Px.mean_pos {S : ByteArray} {t : List Int} {c : Int} {u : List Int} (ht : Rn.Signs t) (h : Px.mean S t = some (c, u)) : 0 ≤ c := by
  cases t with
  | nil => simp [Px.mean] at h
  | cons a v =>
    simp only [Px.mean] at h
    split at h
    · exact (Px.esc_low h).1
    · split at h
      · simp at h
      · simp only [Option.some.injEq, Prod.mk.injEq] at h
        rw [← h.1]; exact Px.sign_pos (ht a (by simp))
def Px.MPost (w : World) (r : Nat) (big : Bool) (o : Option (Int × List Int)) (e : Ending) (w' : World) : Prop :=
  (match o with
  | some (c, t) => (∃ n : Nat, c = n ∧ n < 128 ∧ e = .returned (.int .u8 n)) ∧ Px.St w' r t big
  | none => e = Px.up 20) ∧ w.grownBy w' (some r)
set_option maxRecDepth 100000 in
set_option maxHeartbeats 400000 in
theorem member_any (r : Nat) (t : List Int) (big : Bool) (w : World) (h : Px.St w r t big) : Calls Tryz.prog 138 #[.pointer (some ⟨r, 0, none⟩)] w (Px.MPost w r big (Rx.bound t)) := by
  have M := Lib.hid (meant_any r t big Px.insS (by decide) w h)
  have HB := Lib.hid (Px.bound_mean t)
  have HP0 := Lib.hid (show ∀ c u, Px.mean Px.insS t = some (c, u) → 0 ≤ c from fun c u e => Px.mean_pos (by obtain ⟨s, _, hs⟩ := h.c0; exact hs.sg) e)
  clear h
  go_enter Tryz.func138, Tryz.ntmps138
  go_wp2_with fail
  refine M.out.mono ?_
  intro e w1 hP
  clear M
  generalize Px.mean Px.insS t = o at *
  rcases o with _ | ⟨c, u⟩
  · obtain ⟨rfl, G⟩ := hP
    exact ⟨rfl, by rw [HB.out]; exact rfl, G⟩
  · obtain ⟨⟨rfl, h⟩, G⟩ := hP
    have H := Lib.hid h; have G := Lib.hid G; clear h
    have hc := HP0.out c u rfl
    clear HP0
    by_cases hl : c < 128
    · have HB := Lib.hid (show Rx.bound t = some (c, u) by rw [HB.out]; simp [hl])
      obtain ⟨n, rfl⟩ : ∃ n : Nat, c = n := ⟨c.toNat, by omega⟩
      have e1 : decide ((n : Int) < 128) = true := by simp; omega
      have w8 : IntKind.u8.wrap (n : Int) = n := by rw [IntKind.wrap_u8']; omega
      have N := Lib.hid (need_yes 20 w1)
      go_wp2_with fail
      refine N.out.mono ?_
      rintro e w2 ⟨rfl, rfl⟩
      go_wp2_with fail
      go_ret
      exact ⟨by rw [HB.out]; exact ⟨⟨n, rfl, by omega, rfl⟩, H.out⟩, G.out⟩
    · have HB := Lib.hid (show Rx.bound t = none by rw [HB.out]; simp [hl])
      have e1 : decide (c < 128) = false := by simp; omega
      have N := Lib.hid (need_no 20 w1)
      go_wp2_with fail
      refine N.out.mono ?_
      rintro e w2 ⟨rfl, rfl⟩
      exact ⟨rfl, by rw [HB.out]; exact rfl, G.out⟩
theorem Px.rng_eq (lo hi : Nat) : Bs.rng lo hi = Rx.rng lo hi := by
  funext c
  rw [Bool.eq_iff_iff]
  simp [Bs.rng, Rx.rng]
def Px.IPost (w : World) (r : Nat) (big : Bool) (o : Option ((Int × Int) × List Int)) (e : Ending) (w' : World) : Prop :=
  (match o with
  | some ((lo, hi), t) => e = .returned (Bs.val (Rx.rng lo hi)) ∧ Px.St w' r t big
  | none => e = Px.up 20) ∧ w.grownBy w' (some r)
theorem Px.St.far {w : World} {r : Nat} {t : List Int} {big : Bool} (h : Px.St w r t big) {d : Nat} (hd : d ≠ r) (j : Nat) (v : Value) : Px.St (w.setCell ⟨d, j, none⟩ v) r t big := by
  obtain ⟨⟨s, c0, hs⟩, c1, z0, z1, only⟩ := h
  refine ⟨⟨s, Bs.cell_set c0 hd, hs⟩, Bs.cell_set c1 hd, by simpa using z0, by simpa using z1, fun q u hq => ?_⟩
  rw [World.cell?_setCell_other _ _ _ _ (by simp [hd])] at hq
  exact only q u hq
theorem Px.St.far4 {w : World} {r : Nat} {t : List Int} {big : Bool} (h : Px.St w r t big) {d : Nat} (hd : d ≠ r) (x y z u : Value) : Px.St ((((w.setCell ⟨d, 0, none⟩ x).setCell ⟨d, 1, none⟩ y).setCell ⟨d, 2, none⟩ z).setCell ⟨d, 3, none⟩ u) r t big := (((h.far hd 0 x).far hd 1 y).far hd 2 z).far hd 3 u
theorem Px.grown_cell {w v : World} {r : Nat} (h : w.grownBy v (some r)) {a : Addr} {x : Value} (hc : w.cell? a = some x) (hn : a.block ≠ r) : v.cell? a = some x := h.cell hc (by simpa using hn)
theorem Px.grown_frz {w v : World} {r : Nat} (h : w.grownBy v (some r)) {a : Addr} {x : Value} (hc : w.cell? a = some x) (hn : a.block ≠ r) (hz : w.frozen? a = false) : v.frozen? a = false := by
  rw [h.frozen_far a (World.block_lt_of_cell? w _ hc) (by simpa using hn)]; exact hz
theorem Px.grown_up {w v v' : World} {r : Option Nat} (h : w.grownBy v r) (hb : Below v.heap.size v v') : w.grownBy v' r := h.trans ⟨hb.os, hb.tape, hb.output, hb.size, fun k hk _ => hb.block k hk⟩
theorem Px.box_grown {w v : World} {r b : Nat} {f : Nat → Bool} (h : w.grownBy v (some r)) (hB : Bs.Box w b f) (hn : b ≠ r) : Bs.Box v b f :=
  ⟨fun i hi => Px.grown_cell h (hB.cell i hi) hn, fun i hi => Px.grown_frz h (hB.cell i hi) hn (hB.frz i hi)⟩
set_option maxRecDepth 100000 in
set_option maxHeartbeats 400000 in
theorem item_any (r : Nat) (t : List Int) (big : Bool) (w : World) (h : Px.St w r t big) : Calls Tryz.prog 130 #[.pointer (some ⟨r, 0, none⟩)] w (Px.IPost w r big (Rx.item t)) := by
  have hr := h.lt
  have B0 := Bs.box_zero w 55
  have G0 := Lib.hid (World.grownBy_alloc w (.cells #[.int .u64 0, .int .u64 0, .int .u64 0, .int .u64 0] 55) (some r))
  replace h := h.up (Bs.below1 w (.cells #[.int .u64 0, .int .u64 0, .int .u64 0, .int .u64 0] 55))
  have HI := Lib.hid (show Rx.item t = _ by rw [Rx.item])
  have nr : w.heap.size ≠ r := by omega
  have lN : w.heap.size ≤ w.heap.size := Nat.le_refl _
  go_enter Tryz.func130, Tryz.ntmps130
  go_wp2_with fail
  generalize w.alloc (.cells #[.int .u64 0, .int .u64 0, .int .u64 0, .int .u64 0] 55) = W at *
  refine (member_any r t big W h).mono ?_
  intro e w1 hP
  clear h
  generalize Rx.bound t = o at *
  rcases o with _ | ⟨c, u⟩
  · obtain ⟨rfl, G⟩ := hP
    exact ⟨rfl, by rw [HI.out]; exact rfl, G0.out.trans G⟩
  obtain ⟨⟨⟨lo, rfl, hlo, rfl⟩, h⟩, G⟩ := hP
  replace B0 := Px.box_grown G B0 nr
  have G1 := Lib.hid (G0.out.trans G)
  clear G G0
  simp only at HI
  by_cases hd : u.head? = some (45 : Int)
  · obtain ⟨u', rfl⟩ := Px.head_is hd
    have HI := Lib.hid (show Rx.item t = match Rx.bound u' with
        | none => none
        | some (hi, r') => if hi < (lo : Int) then none else some (((lo : Int), hi), r') by rw [HI.out, if_pos hd]; rfl)
    have P := Lib.hid (pass_yes r u' big 45 (by decide) w1 h)
    clear h hd
    go_wp2_with fail
    refine P.out.mono ?_
    rintro e w2 ⟨rfl, h, G⟩
    replace B0 := Px.box_grown G B0 nr
    have G2 := Lib.hid (G1.out.trans G)
    clear P G G1
    go_wp2_with fail
    refine (member_any r u' big w2 h).mono ?_
    intro e w3 hP
    clear h
    generalize Rx.bound u' = o at *
    rcases o with _ | ⟨c, v⟩
    · obtain ⟨rfl, G⟩ := hP
      exact ⟨rfl, by rw [HI.out]; exact rfl, G2.out.trans G⟩
    obtain ⟨⟨⟨hi, rfl, hhi, rfl⟩, h⟩, G⟩ := hP
    replace B0 := Px.box_grown G B0 nr
    have G3 := Lib.hid (G2.out.trans G)
    clear G G2
    by_cases hle : lo ≤ hi
    · have HI := Lib.hid (show Rx.item t = some (((lo : Int), (hi : Int)), v) by rw [HI.out]; simp; omega)
      have e1 : decide ((lo : Int) ≤ hi) = true := by simp; omega
      have N := Lib.hid (need_yes 20 w3)
      have R := Lib.hid (rangeB_any lo hi w3)
      go_wp2_with fail
      refine N.out.mono ?_
      rintro e w4 ⟨rfl, rfl⟩
      clear N
      go_wp2_with fail
      refine R.out.mono ?_
      rintro e w5 ⟨rfl, hb⟩
      replace B0 := B0.up hb
      have H := Lib.hid (h.up hb)
      have G4 := Lib.hid (Px.grown_up G3.out hb)
      clear R hb h
      have z0 := B0.cell 0 (by decide); have z1 := B0.cell 1 (by decide); have z2 := B0.cell 2 (by decide); have z3 := B0.cell 3 (by decide)
      have g0 := B0.frz 0 (by decide); have g1 := B0.frz 1 (by decide); have g2 := B0.frz 2 (by decide); have g3 := B0.frz 3 (by decide)
      unfold Bs.val
      go_wp2_with fail
      refine bodyPost_ret (v := Bs.val (Bs.rng lo hi)) (by simp [results, Tryz.results130, go_sem, z0, z1, z2, z3, Bs.val]) rfl ⟨?_, ?_⟩
      · rw [HI.out, Px.rng_eq]
        exact ⟨rfl, H.out.far4 nr _ _ _ _⟩
      · exact Rx.grown_far (Rx.grown_far (Rx.grown_far (Rx.grown_far G4.out lN _ _) lN _ _) lN _ _) lN _ _
    · have HI := Lib.hid (show Rx.item t = none by rw [HI.out]; simp; omega)
      have e1 : decide ((lo : Int) ≤ hi) = false := by simp; omega
      have N := Lib.hid (need_no 20 w3)
      go_wp2_with fail
      refine N.out.mono ?_
      rintro e w4 ⟨rfl, rfl⟩
      exact ⟨rfl, by rw [HI.out]; exact rfl, G3.out⟩
  · have HI := Lib.hid (show Rx.item t = some (((lo : Int), (lo : Int)), u) by rw [HI.out, if_neg hd])
    have P := Lib.hid (pass_no r u big 45 (by decide) hd w1 h)
    clear h hd
    go_wp2_with fail
    refine P.out.mono ?_
    rintro e w3 ⟨rfl, h, G⟩
    replace B0 := Px.box_grown G B0 nr
    have G3 := Lib.hid (G1.out.trans G)
    clear P G G1
    have e1 : decide ((lo : Int) ≤ lo) = true := by simp
    have N := Lib.hid (need_yes 20 w3)
    have R := Lib.hid (rangeB_any lo lo w3)
    go_wp2_with fail
    refine N.out.mono ?_
    rintro e w4 ⟨rfl, rfl⟩
    clear N
    go_wp2_with fail
    refine R.out.mono ?_
    rintro e w5 ⟨rfl, hb⟩
    replace B0 := B0.up hb
    have H := Lib.hid (h.up hb)
    have G4 := Lib.hid (Px.grown_up G3.out hb)
    clear R hb h
    have z0 := B0.cell 0 (by decide); have z1 := B0.cell 1 (by decide); have z2 := B0.cell 2 (by decide); have z3 := B0.cell 3 (by decide)
    have g0 := B0.frz 0 (by decide); have g1 := B0.frz 1 (by decide); have g2 := B0.frz 2 (by decide); have g3 := B0.frz 3 (by decide)
    unfold Bs.val
    go_wp2_with fail
    refine bodyPost_ret (v := Bs.val (Bs.rng lo lo)) (by simp [results, Tryz.results130, go_sem, z0, z1, z2, z3, Bs.val]) rfl ⟨?_, ?_⟩
    · rw [HI.out, Px.rng_eq]
      exact ⟨rfl, H.out.far4 nr _ _ _ _⟩
    · exact Rx.grown_far (Rx.grown_far (Rx.grown_far (Rx.grown_far G4.out lN _ _) lN _ _) lN _ _) lN _ _
end Go.Proofs.YtndkgkokjjphlaaGreat
namespace Go.Proofs.YtndkgkokjjphlaaGreat
set_option linter.unusedVariables false
set_option linter.unusedSimpArgs false
open Go.RowKit
mutual
def Rx.InB (w : World) (B : Nat → Prop) : Rx → Addr → Prop
  | .node k f l, x => k < 256 ∧ ∃ a cap, Rx.Cell w x k f a l.length cap ∧ Rx.InBL w B l a 0
def Rx.InBL (w : World) (B : Nat → Prop) : List Rx → Option Addr → Nat → Prop
  | [], _, _ => True
  | y :: r, a, i => (∃ p, a = some p ∧ B p.block ∧ Rx.InB w B y (p.add (i * 6))) ∧ Rx.InBL w B r a (i + 1)
end
def Rx.IsB (w : World) (B : Nat → Prop) : Rx → Value → Prop
  | .node k f l, v => k < 256 ∧ ∃ a cap, v = Rx.hdr k f a l.length cap ∧ Rx.InBL w B l a 0
mutual
theorem Rx.InB.is {w : World} {B : Nat → Prop} : ∀ {x : Rx} {p : Addr}, Rx.InB w B x p → Rx.In w x p
  | .node k f l, p, h => by
    simp only [Rx.InB] at h
    simp only [Rx.In]
    obtain ⟨hk, a, cap, hc, hl⟩ := h
    exact ⟨hk, a, cap, hc, Rx.InBL.is hl⟩
theorem Rx.InBL.is {w : World} {B : Nat → Prop} : ∀ {l : List Rx} {a : Option Addr} {i : Nat}, Rx.InBL w B l a i → Rx.InL w l a i
  | [], _, _, _ => by simp [Rx.InL]
  | y :: r, a, i, h => by
    simp only [Rx.InBL] at h
    simp only [Rx.InL]
    obtain ⟨⟨p, e, _, hp⟩, hr⟩ := h
    exact ⟨⟨p, e, Rx.InB.is hp⟩, Rx.InBL.is hr⟩
end
theorem Rx.IsB.is {w : World} {B : Nat → Prop} {x : Rx} {v : Value} (h : Rx.IsB w B x v) : Rx.Is w x v := by
  cases x
  obtain ⟨hk, a, cap, e, hl⟩ := h
  exact ⟨hk, a, cap, e, hl.is⟩
mutual
theorem Rx.InB.turn {w w' : World} {B B' : Nat → Prop} (hb : ∀ (y : Addr) (u : Value), B y.block → w.cell? y = some u → w'.cell? y = some u) (hB : ∀ k, B k → B' k) : ∀ {x : Rx} {p : Addr}, B p.block → Rx.InB w B x p → Rx.InB w' B' x p
  | .node k f l, p, hp, h => by
    simp only [Rx.InB] at h ⊢
    obtain ⟨hk, a, cap, hc, hl⟩ := h
    exact ⟨hk, a, cap, ⟨hb _ _ hp hc.c0, hb _ _ hp hc.c1, hb _ _ hp hc.c2, hb _ _ hp hc.c3, hb _ _ hp hc.c4, hb _ _ hp hc.c5⟩, Rx.InBL.turn hb hB hl⟩
theorem Rx.InBL.turn {w w' : World} {B B' : Nat → Prop} (hb : ∀ (y : Addr) (u : Value), B y.block → w.cell? y = some u → w'.cell? y = some u) (hB : ∀ k, B k → B' k) : ∀ {l : List Rx} {a : Option Addr} {i : Nat}, Rx.InBL w B l a i → Rx.InBL w' B' l a i
  | [], _, _, _ => by simp [Rx.InBL]
  | y :: r, a, i, h => by
    simp only [Rx.InBL] at h ⊢
    obtain ⟨⟨p, e, hp0, hp⟩, hr⟩ := h
    exact ⟨⟨p, e, hB _ hp0, Rx.InB.turn hb hB (by rw [Rx.add_block]; exact hp0) hp⟩, Rx.InBL.turn hb hB hr⟩
end
theorem Rx.IsB.turn {w w' : World} {B B' : Nat → Prop} (hb : ∀ (y : Addr) (u : Value), B y.block → w.cell? y = some u → w'.cell? y = some u) (hB : ∀ k, B k → B' k) {x : Rx} {v : Value} (h : Rx.IsB w B x v) : Rx.IsB w' B' x v := by
  cases x
  obtain ⟨hk, a, cap, e, hl⟩ := h
  exact ⟨hk, a, cap, e, hl.turn hb hB⟩
theorem Rx.IsB.up {w w' : World} {B : Nat → Prop} (hb : Below w.heap.size w w') {x : Rx} {v : Value} (h : Rx.IsB w B x v) : Rx.IsB w' B x v := h.turn (fun _ _ _ hc => Bs.cell_up hb hc) (fun _ h => h)
theorem Rx.IsB.mono {w : World} {B B' : Nat → Prop} (hB : ∀ k, B k → B' k) {x : Rx} {v : Value} (h : Rx.IsB w B x v) : Rx.IsB w B' x v := h.turn (fun _ _ _ hc => hc) hB
theorem Rx.IsB.grown {w w' : World} {B : Nat → Prop} {row : Option Nat} (hg : w.grownBy w' row) (hB : ∀ k, B k → some k ≠ row) {x : Rx} {v : Value} (h : Rx.IsB w B x v) : Rx.IsB w' B x v := h.turn (fun y u hy hc => hg.cell hc (hB _ hy)) (fun _ h => h)
theorem Rx.IsB.lt {w : World} {B : Nat → Prop} {x : Rx} {v : Value} (h : Rx.IsB w B x v) : Rx.IsB w (fun k => B k ∧ k < w.heap.size) x v := by
  have key : ∀ (m : Nat), (∀ (x : Rx) (p : Addr), x.size ≤ m → Rx.InB w B x p → Rx.InB w (fun k => B k ∧ k < w.heap.size) x p) ∧ (∀ (l : List Rx) (a : Option Addr) (i : Nat), Rx.sizeL l ≤ m → Rx.InBL w B l a i → Rx.InBL w (fun k => B k ∧ k < w.heap.size) l a i) := by
    intro m
    induction m with
    | zero =>
      refine ⟨fun x p h => by have := x.size_pos; omega, fun l a i h _ => ?_⟩
      cases l with
      | nil => simp [Rx.InBL]
      | cons y r => simp only [Rx.sizeL] at h; have := y.size_pos; omega
    | succ m ih =>
      have hx : ∀ (x : Rx) (p : Addr), x.size ≤ m + 1 → Rx.InB w B x p → Rx.InB w (fun k => B k ∧ k < w.heap.size) x p := by
        rintro ⟨k, f, l⟩ p hm h
        simp only [Rx.InB] at h ⊢
        simp only [Rx.size] at hm
        obtain ⟨hk, a, cap, hc, hl⟩ := h
        exact ⟨hk, a, cap, hc, ih.2 l a 0 (by omega) hl⟩
      refine ⟨hx, fun l => ?_⟩
      induction l with
      | nil => intro a i _ _; simp [Rx.InBL]
      | cons y r ihr =>
        intro a i hm h
        simp only [Rx.InBL] at h ⊢
        simp only [Rx.sizeL] at hm
        obtain ⟨⟨p, e, hp0, hp⟩, hr⟩ := h
        have hlt : p.block < w.heap.size := by
          cases y
          simp only [Rx.InB] at hp
          obtain ⟨_, _, _, hc, _⟩ := hp
          have := World.block_lt_of_cell? w _ hc.c0
          rwa [Rx.add_block] at this
        exact ⟨⟨p, e, ⟨hp0, hlt⟩, hx y _ (by omega) hp⟩, ihr a (i + 1) (by omega) hr⟩
  cases x
  obtain ⟨hk, a, cap, e, hl⟩ := h
  exact ⟨hk, a, cap, e, (key _).2 _ _ _ (Nat.le_refl _) hl⟩
def Rx.six (k : Nat) (f : Nat → Bool) (a : Option Addr) (n cap : Nat) : List Value := [.int .u8 k, .int .u64 (Bs.word f 0), .int .u64 (Bs.word f 1), .int .u64 (Bs.word f 2), .int .u64 (Bs.word f 3), .slice a n cap]
def Rx.Hs (w : World) (B : Nat → Prop) : List Rx → List Value → Prop
  | [], cs => cs = []
  | x :: r, cs => ∃ k f a n cap rest, cs = Rx.six k f a n cap ++ rest ∧ Rx.IsB w B x (Rx.hdr k f a n cap) ∧ Rx.Hs w B r rest
theorem Rx.Hs.turn {w w' : World} {B B' : Nat → Prop} (hb : ∀ (y : Addr) (u : Value), B y.block → w.cell? y = some u → w'.cell? y = some u) (hB : ∀ k, B k → B' k) : ∀ {xs : List Rx} {cs : List Value}, Rx.Hs w B xs cs → Rx.Hs w' B' xs cs
  | [], _, h => h
  | x :: r, _, h => by
    obtain ⟨k, f, a, n, cap, rest, e, hx, hr⟩ := h
    exact ⟨k, f, a, n, cap, rest, e, hx.turn hb hB, Rx.Hs.turn hb hB hr⟩
theorem Rx.Hs.snoc {w : World} {B : Nat → Prop} {y : Rx} {k : Nat} {f : Nat → Bool} {a : Option Addr} {n cap : Nat} (hy : Rx.IsB w B y (Rx.hdr k f a n cap)) : ∀ {xs : List Rx} {cs : List Value}, Rx.Hs w B xs cs → Rx.Hs w B (xs ++ [y]) (cs ++ Rx.six k f a n cap)
  | [], cs, h => by
    rw [Rx.Hs] at h; subst h
    exact ⟨k, f, a, n, cap, [], by simp, hy, rfl⟩
  | x :: r, cs, h => by
    obtain ⟨k', f', a', n', cap', rest, e, hx, hr⟩ := h
    subst e
    exact ⟨k', f', a', n', cap', rest ++ Rx.six k f a n cap, by simp, hx, Rx.Hs.snoc hy hr⟩
theorem Rx.Hs.inBL {w : World} {B : Nat → Prop} {g : Nat} (hp : B g) : ∀ {xs : List Rx} {cs : List Value} {i : Nat}, Rx.Hs w B xs cs → (∀ j u, cs[j]? = some u → w.cell? ⟨g, i * 6 + j, none⟩ = some u) → Rx.InBL w B xs (some ⟨g, 0, none⟩) i
  | [], _, _, _, _ => by simp [Rx.InBL]
  | x :: r, cs, i, h, hc => by
    obtain ⟨k, f, a, n, cap, rest, e, hx, hr⟩ := h
    subst e
    simp only [Rx.InBL]
    refine ⟨⟨_, rfl, hp, ?_⟩, Rx.Hs.inBL hp hr ?_⟩
    · obtain ⟨k', f', l'⟩ := x
      obtain ⟨hk, a', cap', e, hl⟩ := hx
      have q0 := hc 0 _ (by simp [Rx.six]; rfl)
      have q1 := hc 1 _ (by simp [Rx.six]; rfl)
      have q2 := hc 2 _ (by simp [Rx.six]; rfl)
      have q3 := hc 3 _ (by simp [Rx.six]; rfl)
      have q4 := hc 4 _ (by simp [Rx.six]; rfl)
      have q5 := hc 5 _ (by simp [Rx.six]; rfl)
      have e0 : (⟨g, 0, none⟩ : Addr).add (i * 6) = ⟨g, i * 6, none⟩ := by unfold Addr.add; split <;> simp_all
      simp only [Rx.hdr, Value.agg.injEq, Array.mk.injEq, List.cons.injEq, Value.int.injEq, Value.slice.injEq, true_and, and_true] at e
      obtain ⟨e1, e2, e3, e4, e5, e6, e7, e8⟩ := e
      rw [e1] at q0; rw [e2] at q1; rw [e3] at q2; rw [e4] at q3; rw [e5] at q4; rw [e6, e7, e8] at q5
      rw [e0]
      exact ⟨hk, a', cap', ⟨q0, q1, q2, q3, q4, q5⟩, hl⟩
    · intro j u hu
      have := hc (6 + j) u (by rw [List.getElem?_append_right (by simp [Rx.six])]; simpa [Rx.six] using hu)
      rw [show (i + 1) * 6 + j = i * 6 + (6 + j) by omega]
      exact this
theorem Rx.Hs.lt {w : World} {B : Nat → Prop} : ∀ {xs : List Rx} {cs : List Value}, Rx.Hs w B xs cs → Rx.Hs w (fun k => B k ∧ k < w.heap.size) xs cs
  | [], _, h => h
  | x :: r, _, h => by
    obtain ⟨k, f, a, n, cap, rest, e, hx, hr⟩ := h
    exact ⟨k, f, a, n, cap, rest, e, hx.lt, Rx.Hs.lt hr⟩
def Rx.Own (base : Nat) (v : Value) (xs : List Rx) (w : World) : Prop := (∃ cs, w.ownsRow base 57 6 v xs.length cs ∧ Rx.Hs w (fun k => base ≤ k ∧ some k ≠ v.ownBlock) xs cs) ∧ (xs = [] → v = .slice none 0 0)
theorem Rx.own_nil (base : Nat) (w : World) : Rx.Own base (.slice none 0 0) [] w := ⟨⟨[], World.ownsRow_nil _ _ _ _, rfl⟩, fun _ => rfl⟩
theorem Rx.Own.lt {base : Nat} {v : Value} {xs : List Rx} {w : World} (h : Rx.Own base v xs w) : ∀ k, v.ownBlock = some k → base ≤ k ∧ k < w.heap.size := by
  obtain ⟨⟨cs, h1, _⟩, _⟩ := h
  exact h1.lt
theorem Rx.Own.grown {base : Nat} {v : Value} {xs : List Rx} {w w' : World} {row : Option Nat} (h : Rx.Own base v xs w) (hg : w.grownBy w' row) (hr : ∀ k, row = some k → k < base) : Rx.Own base v xs w' := by
  obtain ⟨⟨cs, h1, h2⟩, h3⟩ := h
  have hne : v.ownBlock = none ∨ v.ownBlock ≠ row := by
    cases hv : v.ownBlock with
    | none => exact .inl rfl
    | some k => exact .inr (fun e => by have := hr k e.symm; have := h1.lt k hv; omega)
  exact ⟨⟨cs, h1.kept hg hne, h2.turn (fun y u hy hc => hg.cell hc (fun e => by have := hr _ e.symm; omega)) (fun _ h => h)⟩, h3⟩
theorem Rx.Own.up {base : Nat} {v : Value} {xs : List Rx} {w w' : World} (h : Rx.Own base v xs w) (hb : Below w.heap.size w w') : Rx.Own base v xs w' :=
  h.grown (row := none) ⟨hb.os, hb.tape, hb.output, hb.size, fun k hk _ => hb.block k hk⟩ (fun k hk => by simp at hk)
theorem Rx.Own.slice {base : Nat} {v : Value} {xs : List Rx} {w : World} (h : Rx.Own base v xs w) : ∃ a cap, v = .slice a xs.length cap ∧ Rx.InBL w (base ≤ ·) xs a 0 := by
  obtain ⟨⟨cs, h1, h2⟩, h3⟩ := h
  by_cases he : xs = []
  · subst he
    rw [h3 rfl]
    exact ⟨none, 0, rfl, by simp [Rx.InBL]⟩
  · have hl : 0 < xs.length := List.length_pos_iff.2 he
    obtain ⟨g, cap, rfl, hb, hlt⟩ := h1.form hl
    refine ⟨_, cap, rfl, ?_⟩
    refine Rx.Hs.inBL (B := (base ≤ ·)) hb (h2.turn (fun _ _ _ hc => hc) (fun k h => h.1)) ?_
    intro j u hu
    have := h1.cells (g := g) (by simp [Value.ownBlock]) j u hu
    have e0 : (⟨g, 0, none⟩ : Addr).add j = ⟨g, j, none⟩ := by unfold Addr.add; split <;> simp_all
    rw [e0] at this
    simpa using this
theorem Rx.Own.push {base : Nat} {v : Value} {xs : List Rx} {W w' : World} {cs : List Value} {y : Rx} {k : Nat} {f : Nat → Bool} {a : Option Addr} {n cap g c : Nat}
    (h2 : Rx.Hs W (fun k => base ≤ k ∧ some k ≠ v.ownBlock) xs cs)
    (hy : Rx.IsB W (fun k => base ≤ k ∧ some k ≠ v.ownBlock) y (Rx.hdr k f a n cap)) (ho : w'.ownsRow base 57 6 (.slice (some ⟨g, 0, none⟩) (xs.length + 1) c) (xs.length + 1) (cs ++ Rx.six k f a n cap)) (hg : W.grownBy w' v.ownBlock) (hat : v.ownBlock = some g ∨ g = W.heap.size) : Rx.Own base (.slice (some ⟨g, 0, none⟩) (xs.length + 1) c) (xs ++ [y]) w' := by
  refine ⟨⟨cs ++ Rx.six k f a n cap, by rw [List.length_append]; exact ho, ?_⟩, fun e => by simp at e⟩
  have := (Rx.Hs.snoc hy h2).lt
  refine this.turn (fun q u hq hc => hg.cell hc hq.1.2) (fun k hk => ⟨hk.1.1, ?_⟩)
  simp only [Value.ownBlock]
  rcases hat with e | e
  · rw [← e]; exact hk.1.2
  · intro e'
    injection e' with e'
    have := hk.2
    omega
theorem Rx.infoR : (Tryz.prog.info? 57).map (fun i => (i.zero, i.size, i.bytes)) = some (some (.agg #[.int .u8 0, .int .u64 0, .int .u64 0, .int .u64 0, .int .u64 0, .slice none 0 0]), 6, 64) := by kernel_rfl
theorem Rx.append {ops : Array Oper} {rest : List Oper} {o : Oper} {a : Act} {Q : Exit → Act → World → Prop} {W : World} (hgd : o.guard = none) (s x : Operand)
    (ho : o.op = .call { callee := .builtin .append, args := #[s, x], argTypes := #[22, 22] })
    (base : Nat) (v : Value) (xs : List Rx) (hs : a.eval s = v) (O : Rx.Own base v xs W) (B c : Nat) (hx : a.eval x = .slice (some ⟨B, 0, none⟩) 1 c)
    (k : Nat) (f : Nat → Bool) (b : Option Addr) (n cap : Nat) (hB : W.heap[B]? = some (.cells #[.int .u8 k, .int .u64 (Bs.word f 0), .int .u64 (Bs.word f 1), .int .u64 (Bs.word f 2), .int .u64 (Bs.word f 3), .slice b n cap] 57))
    (y : Rx) (hy : Rx.IsB W (fun k => base ≤ k ∧ some k ≠ v.ownBlock) y (Rx.hdr k f b n cap)) (hl : xs.length ≤ 100000) (hbase : base ≤ W.heap.size)
    (h : ∀ v' w', Rx.Own base v' (xs ++ [y]) w' → W.grownBy w' v.ownBlock → wpList Tryz.prog ops Q rest (a.put o.dst v') w') : wpList Tryz.prog ops Q (o :: rest) a W := by
  obtain ⟨iE, hiE⟩ : ∃ i, Tryz.prog.info? 57 = some i := by
    have := Rx.infoR
    cases h : Tryz.prog.info? 57 with
    | none => rw [h] at this; simp at this
    | some i => exact ⟨i, rfl⟩
  have hz := Rx.infoR
  rw [hiE] at hz
  simp at hz
  obtain ⟨hz0, hz1, hz2⟩ := hz
  obtain ⟨⟨cs, O1, O2⟩, O3⟩ := O
  refine wpList_append_lies W hgd s x 22 ho base 57 iE _ 6 64 Tryz.underlying22 hiE hz0 hz1 hz2 rfl (by decide) v xs.length cs hs O1 ⟨B, 0, none⟩ 1 c (Rx.six k f b n cap) hx rfl (World.news_of_block hB) (by simp [Rx.six, Value.oneCell']) (by decide) (by unfold maxLen; omega) (by omega) hbase _ rfl ?_
  intro g c' w' o1 o2 o3 o4
  exact h _ _ (Rx.Own.push O2 hy o1 o2 o3) o2
theorem Rx.own_one {base : Nat} {w : World} {y : Rx} {k : Nat} {f : Nat → Bool} {b : Option Addr} {n cap : Nat} (hy : Rx.IsB w (base ≤ ·) y (Rx.hdr k f b n cap)) (hb : base ≤ w.heap.size) : Rx.Own base (.slice (some ⟨w.heap.size, 0, none⟩) 1 1) [y] (w.alloc (.cells #[.int .u8 k, .int .u64 (Bs.word f 0), .int .u64 (Bs.word f 1), .int .u64 (Bs.word f 2), .int .u64 (Bs.word f 3), .slice b n cap] 57)) := by
  refine ⟨⟨Rx.six k f b n cap, ⟨rfl, .inr ⟨w.heap.size, 1, _, rfl, hb, heap_alloc_new w _, by simp, by unfold maxLen; omega, rfl, rfl⟩⟩, ?_⟩, fun e => by simp at e⟩
  refine ⟨k, f, b, n, cap, [], by simp, ?_, rfl⟩
  refine hy.lt.turn (fun q u _ hc => Bs.cell_up (Bs.below1 w _) hc) (fun k hk => ⟨hk.1, ?_⟩)
  simp only [Value.ownBlock]
  intro e
  injection e with e
  have := hk.2
  omega
open Go.RowKit
def Px.XPost (w : World) (B : Nat → Prop) (x : Rx) (e : Ending) (w' : World) : Prop := ∃ v, e = .returned v ∧ Rx.IsB w' B x v ∧ Below w.heap.size w w'
theorem Rx.isB_one (w : World) (B : Nat → Prop) (f : Nat → Bool) : Rx.IsB w B (Rx.one f) (Rx.hdr 1 f none 0 0) := ⟨by omega, none, 0, rfl, trivial⟩
theorem Rx.isB_nil (w : World) (B : Nat → Prop) : Rx.IsB w B Rx.nil (Rx.hdr 0 (fun _ => false) none 0 0) := ⟨by omega, none, 0, rfl, trivial⟩
set_option maxRecDepth 100000 in
set_option maxHeartbeats 400000 in
theorem pone_any (f : Nat → Bool) (B : Nat → Prop) (w : World) : Calls Tryz.prog 132 #[Bs.val f] w (Px.XPost w B (Rx.one f)) := by
  unfold Bs.val
  go_enter Tryz.func132, Tryz.ntmps132
  go_wp2_with fail
  exact bodyPost_ret (v := Rx.hdr 1 f none 0 0) (by simp [results, Tryz.results132, go_sem, Rx.hdr]) rfl ⟨_, rfl, Rx.isB_one _ B f, Bs.below2 _ _ _⟩
structure Rx.Nod (w : World) (b : Nat) (k : Nat) (f : Nat → Bool) (a : Option Addr) (n cap : Nat) : Prop where
  cell : Rx.Cell w ⟨b, 0, none⟩ k f a n cap
  frz : ∀ i, i < 6 → w.frozen? ⟨b, i, none⟩ = false
theorem Rx.Nod.lt {w : World} {b k : Nat} {f : Nat → Bool} {a : Option Addr} {n cap : Nat} (h : Rx.Nod w b k f a n cap) : b < w.heap.size := World.block_lt_of_cell? w _ h.cell.c0
theorem Rx.Nod.up {w w' : World} {b k : Nat} {f : Nat → Bool} {a : Option Addr} {n cap : Nat} (h : Rx.Nod w b k f a n cap) (hb : Below w.heap.size w w') : Rx.Nod w' b k f a n cap :=
  ⟨h.cell.up hb, fun i hi => by rw [hb.frozen h.lt]; exact h.frz i hi⟩
theorem Rx.Nod.grown {w w' : World} {r b k : Nat} {f : Nat → Bool} {a : Option Addr} {n cap : Nat} (h : Rx.Nod w b k f a n cap) (hg : w.grownBy w' (some r)) (hn : b ≠ r) : Rx.Nod w' b k f a n cap :=
  ⟨h.cell.grown hg hn, fun i hi => by rw [hg.frozen_far ⟨b, i, none⟩ h.lt (by simpa using hn)]; exact h.frz i hi⟩
theorem Rx.nod_new (w : World) (k : Nat) (f : Nat → Bool) (a : Option Addr) (n cap : Nat) : Rx.Nod (w.alloc (.cells #[.int .u8 k, .int .u64 (Bs.word f 0), .int .u64 (Bs.word f 1), .int .u64 (Bs.word f 2), .int .u64 (Bs.word f 3), .slice a n cap] 57)) w.heap.size k f a n cap :=
  ⟨Rx.cell_new w k f a n cap _, fun i hi => by simp [go_sem]⟩
theorem Rx.nod_zero (w : World) : Rx.Nod (w.alloc (.cells #[.int .u8 0, .int .u64 0, .int .u64 0, .int .u64 0, .int .u64 0, .slice none 0 0] 57)) w.heap.size 0 (fun _ => false) none 0 0 := by
  have := Rx.nod_new w 0 (fun _ => false) none 0 0
  simpa [Bs.word_none] using this
def Rx.wr (w : World) (b : Nat) (k : Nat) (f : Nat → Bool) (a : Option Addr) (n cap : Nat) : World := (((((w.setCell ⟨b, 0, none⟩ (.int .u8 k)).setCell ⟨b, 1, none⟩ (.int .u64 (Bs.word f 0))).setCell ⟨b, 2, none⟩ (.int .u64 (Bs.word f 1))).setCell ⟨b, 3, none⟩ (.int .u64 (Bs.word f 2))).setCell ⟨b, 4, none⟩ (.int .u64 (Bs.word f 3))).setCell ⟨b, 5, none⟩ (.slice a n cap)
theorem Rx.Nod.wr {w : World} {b k' : Nat} {f' : Nat → Bool} {a' : Option Addr} {n' cap' : Nat} (h : Rx.Nod w b k' f' a' n' cap') (k : Nat) (f : Nat → Bool) (a : Option Addr) (n cap : Nat) : Rx.Nod (Rx.wr w b k f a n cap) b k f a n cap := by
  obtain ⟨⟨c0, c1, c2, c3, c4, c5⟩, z⟩ := h
  simp only [Nat.zero_add] at c0 c1 c2 c3 c4 c5
  unfold Rx.wr
  refine ⟨⟨?_, ?_, ?_, ?_, ?_, ?_⟩, fun i hi => ?_⟩
  · simp [go_sem, c0, c1, c2, c3, c4, c5]
  · simp [go_sem, c0, c1, c2, c3, c4, c5]
  · simp [go_sem, c0, c1, c2, c3, c4, c5]
  · simp [go_sem, c0, c1, c2, c3, c4, c5]
  · simp [go_sem, c0, c1, c2, c3, c4, c5]
  · simp [go_sem, c0, c1, c2, c3, c4, c5]
  · simpa using z i hi
theorem Rx.wr_below {n0 : Nat} {w v : World} (h : Below n0 w v) {b : Nat} (hb : n0 ≤ b) (k : Nat) (f : Nat → Bool) (a : Option Addr) (n cap : Nat) : Below n0 w (Rx.wr v b k f a n cap) :=
  (((((h.setCell (p := ⟨b, 0, none⟩) hb _).setCell (p := ⟨b, 1, none⟩) hb _).setCell (p := ⟨b, 2, none⟩) hb _).setCell (p := ⟨b, 3, none⟩) hb _).setCell (p := ⟨b, 4, none⟩) hb _).setCell (p := ⟨b, 5, none⟩) hb _
theorem Rx.wr_far {w v : World} {row : Option Nat} (h : w.grownBy v row) {b : Nat} (hb : w.heap.size ≤ b) (k : Nat) (f : Nat → Bool) (a : Option Addr) (n cap : Nat) : w.grownBy (Rx.wr v b k f a n cap) row :=
  Rx.grown_far (Rx.grown_far (Rx.grown_far (Rx.grown_far (Rx.grown_far (Rx.grown_far h hb _ _) hb _ _) hb _ _) hb _ _) hb _ _) hb _ _
theorem Rx.wr_cell {w : World} {b k : Nat} {f : Nat → Bool} {a : Option Addr} {n cap : Nat} {p : Addr} {u : Value} (h : w.cell? p = some u) (hn : b ≠ p.block) : (Rx.wr w b k f a n cap).cell? p = some u :=
  Bs.cell_set (Bs.cell_set (Bs.cell_set (Bs.cell_set (Bs.cell_set (Bs.cell_set h hn) hn) hn) hn) hn) hn
theorem Rx.IsB.wr {w : World} {B : Nat → Prop} {x : Rx} {v : Value} (h : Rx.IsB w B x v) {b : Nat} (hn : ¬ B b) (k : Nat) (f : Nat → Bool) (a : Option Addr) (n cap : Nat) : Rx.IsB (Rx.wr w b k f a n cap) B x v :=
  h.turn (fun y u hy hc => Rx.wr_cell hc (fun e => hn (by rw [e]; exact hy))) (fun _ h => h)
set_option maxRecDepth 100000 in
set_option maxHeartbeats 400000 in
theorem pspan_any (lo hi : Nat) (B : Nat → Prop) (w : World) : Calls Tryz.prog 135 #[.int .u8 lo, .int .u8 hi] w (Px.XPost w B (Rx.one (Rx.rng lo hi))) := by
  have N := Rx.nod_zero w
  have A := Bs.below1 w (.cells #[.int .u8 0, .int .u64 0, .int .u64 0, .int .u64 0, .int .u64 0, .slice none 0 0] 57)
  go_enter Tryz.func135, Tryz.ntmps135
  go_wp2_with fail
  generalize w.alloc (.cells #[.int .u8 0, .int .u64 0, .int .u64 0, .int .u64 0, .int .u64 0, .slice none 0 0] 57) = W at *
  refine (rangeB_any lo hi W).mono ?_
  rintro e w1 ⟨rfl, hb⟩
  replace N := N.up hb
  replace A := Bs.below_up A hb
  clear hb
  go_wp2_with fail
  refine (pone_any (Bs.rng lo hi) B w1).mono ?_
  rintro e w2 ⟨v, rfl, hx, hb⟩
  replace N := N.up hb
  replace A := Bs.below_up A hb
  clear hb
  rw [Px.rng_eq] at hx
  obtain ⟨hk, a, cap, rfl, hl⟩ := hx
  have HX := Lib.hid (show Rx.IsB w2 B (Rx.one (Rx.rng lo hi)) (Rx.hdr 1 (Rx.rng lo hi) a 0 cap) from ⟨hk, a, cap, rfl, hl⟩)
  have HN := Lib.hid N
  obtain ⟨⟨c0, c1, c2, c3, c4, c5⟩, z⟩ := N
  simp only [Nat.zero_add] at c0 c1 c2 c3 c4 c5
  have z0 := z 0 (by decide); have z1 := z 1 (by decide); have z2 := z 2 (by decide); have z3 := z 3 (by decide); have z4 := z 4 (by decide); have z5 := z 5 (by decide)
  clear z hl
  unfold Rx.hdr
  go_wp2_with fail
  have C := (HN.out.wr 1 (Rx.rng lo hi) a 0 cap).cell
  refine bodyPost_ret (v := Rx.hdr 1 (Rx.rng lo hi) a 0 cap) (by simp [results, Tryz.results135, go_sem, c0, c1, c2, c3, c4, c5, Rx.hdr]) rfl ⟨_, rfl, ⟨hk, a, cap, rfl, trivial⟩, ?_⟩
  exact Rx.wr_below A (Nat.le_refl _) 1 (Rx.rng lo hi) a 0 cap
end Go.Proofs.YtndkgkokjjphlaaGreat
