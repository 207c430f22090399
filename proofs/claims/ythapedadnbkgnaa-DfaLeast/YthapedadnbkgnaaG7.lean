/- The program's reader of expressions: what at, sign, escaped, meant, member and item answer, walked. The document's reader of signs: what special, escape and bound answer, walked. The document's reader of signs: what escape and bound answer, walked. The document's reader of signs: expressions stay while it reads. What the document's one and several answer, walked. What the document's capped answers, walked. The program's reader of expressions: what escaped, meant, member and item answer, walked. -/
import Derived.Test.YthapedadnbkgnaaG6
import Derived.Test.YthapedadnbkgnaaShelf
import Derived.Test.YthapedadnbkgnaaG3
import Derived.Deep.AppendLies
namespace Go.Proofs.Ythapedadnbkgnaa
set_option linter.unusedVariables false
set_option linter.unusedSimpArgs false
open Go.RowKit
theorem Px.index (S : List UInt8) (c : UInt8) : decide (0 ≤ Lib.indexByte S c) = S.contains c := by
  rw [Bool.eq_iff_iff, decide_eq_true_eq]
  induction S with
  | nil => simp [Lib.indexByte]
  | cons a l ih =>
    have hg := Lib.indexByte_ge l c
    rw [List.contains_cons, Bool.or_eq_true, beq_iff_eq, ← ih, Lib.indexByte]
    by_cases h : a = c
    · simp [h]
    · have h' : ¬ c = a := fun e => h e.symm
      rw [if_neg (by simp [h])]
      constructor
      · intro h2
        split at h2 <;> rename_i h3 <;> simp only [beq_iff_eq] at h3 <;> first | (exact .inr (by omega)) | omega
      · rintro (h2 | h2)
        · exact absurd h2 h'
        · rw [if_neg (by simp; omega)]; omega
set_option maxRecDepth 100000 in
set_option maxHeartbeats 400000 in
theorem at_any (r : Nat) (t : List Int) (big : Bool) (S : ByteArray) (hS : ∀ b ∈ S.data.toList, b.toNat < 128) (w : World) (h : Px.St w r t big) : Calls Try.prog 82 #[.pointer (some ⟨r, 0, none⟩), .string S] w fun e w' => e = .returned (.bool (Px.oneOf S.data.toList t)) ∧ w' = w := by
  obtain ⟨⟨s, c0, hs⟩, c1, z0, z1, _⟩ := h
  cases t with
  | nil =>
    have e0 := Px.empty hs.nil
    clear hs
    go_enter Try.func82, Try.ntmps82
    go_wp2_with fail
    go_ret
    exact ⟨rfl, rfl⟩
  | cons n t =>
    have h1 := hs.len
    have e0 := Px.not_empty h1
    have hl := hs.max
    unfold maxLen at hl
    have HA := Lib.hid (hs.any h1 S.data.toList hS)
    clear hs hS
    have C := Lib.hid (Try.strings_IndexByte S s[0].toNat w)
    have HE := Lib.hid (Px.index S.data.toList s[0])
    go_enter Try.func82, Try.ntmps82
    go_wp2_with fail
    refine C.out.mono ?_
    rintro e w1 ⟨rfl, rfl⟩
    have e9 : ((s[0].toNat : Int)).toNat.toUInt8 = s[0] := by simp
    rw [e9]
    have HE := HE.out
    rw [HA.out] at HE
    generalize Lib.indexByte S.data.toList s[0] = d at *
    clear C HA e9
    go_wp2_with fail
    go_ret
    exact ⟨by rw [← HE]; rfl, rfl⟩
def Px.OPost (w : World) (r : Nat) (big : Bool) (o : Option (Int × List Int)) (e : Ending) (w' : World) : Prop :=
  (match o with
  | some (c, t) => e = .returned (.int .i64 c) ∧ Px.St w' r t big
  | none => e = Px.up 20) ∧ w.grownBy w' (some r)
def Px.uncons : List Int → Option (Int × List Int)
  | [] => none
  | c :: r => some (c, r)
set_option maxRecDepth 100000 in
set_option maxHeartbeats 400000 in
theorem psign_any (r : Nat) (t : List Int) (big : Bool) (w : World) (h : Px.St w r t big) : Calls Try.prog 94 #[.pointer (some ⟨r, 0, none⟩)] w (Px.OPost w r big (Px.uncons t)) := by
  obtain ⟨s, c0, hs⟩ := h.c0
  have F := Lib.hid (first_any s w hs.max)
  have H := Lib.hid h
  clear h
  have S := Lib.hid hs
  clear hs
  go_enter Try.func94, Try.ntmps94
  go_wp2_with fail
  refine F.out.mono ?_
  rintro e w1 ⟨rfl, n, hw⟩
  have hb := Rx.see_below hw
  have H1 := Lib.hid (H.out.up hb)
  have G := Lib.hid (Rx.grown_of r hb)
  replace c0 := Bs.cell_up hb c0
  have z0 := H1.out.z0
  clear F hw hb H
  cases t with
  | nil =>
    have e1 : Rn.firstL s.data.toList = (-1, 0) := Rn.firstL_nil s S.out.nil
    rw [e1]
    have N := Lib.hid (need_no 20 w1)
    go_wp2_with fail
    refine N.out.mono ?_
    rintro e w2 ⟨rfl, rfl⟩
    exact ⟨rfl, rfl, G.out⟩
  | cons m t =>
    obtain ⟨k, k0, ks, e1, T⟩ := S.out.on
    have hl := S.out.max
    unfold maxLen at hl
    have T := Lib.hid T
    rw [e1]
    have N := Lib.hid (need_yes 20 w1)
    have e2 : decide ((0 : Int) < k) = true := by simp; omega
    clear e1
    go_wp2_with fail
    refine N.out.mono ?_
    rintro e w2 ⟨rfl, rfl⟩
    go_wp2_with fail
    go_ret
    exact ⟨⟨rfl, H1.out.text T.out⟩, Rx.grown_set G.out _ _⟩
end Go.Proofs.Ythapedadnbkgnaa
namespace Go.Proofs.Ythapedadnbkgnaa
set_option linter.unusedVariables false
set_option linter.unusedSimpArgs false
open Go.RowKit
open Go.RowKit
open Go.RowKit
theorem Rx.Cell.grown {w w' : World} {r : Nat} (hg : w.grownBy w' (some r)) {x : Addr} {k : Nat} {f : Nat → Bool} {a : Option Addr} {n cap : Nat} (h : Rx.Cell w x k f a n cap) (hn : x.block ≠ r) : Rx.Cell w' x k f a n cap := by
  have hx : ∀ (y : Addr) (v : Value), y.block = x.block → w.cell? y = some v → w'.cell? y = some v := fun y v e hv => hg.cell hv (by rw [e]; simpa using hn)
  exact ⟨hx _ _ rfl h.c0, hx _ _ rfl h.c1, hx _ _ rfl h.c2, hx _ _ rfl h.c3, hx _ _ rfl h.c4, hx _ _ rfl h.c5⟩
theorem Rx.Cell.far {w : World} {r : Nat} {b : Option Addr} {L : List Int} {c : Nat} {i : Int} {bad big : Bool} (R : Rx.Rd w r b L c i bad big) {x : Addr} {k : Nat} {f : Nat → Bool} {a : Option Addr} {n cap : Nat} (h : Rx.Cell w x k f a n cap) : x.block ≠ r := fun e => by
  have h5 := h.c5
  rw [e] at h5
  have := R.only _ _ h5
  omega
mutual
theorem Rx.In.grown {w w' : World} {r : Nat} {b : Option Addr} {L : List Int} {c : Nat} {i : Int} {bad big : Bool} (R : Rx.Rd w r b L c i bad big) (hg : w.grownBy w' (some r)) : ∀ {x : Rx} {p : Addr}, Rx.In w x p → Rx.In w' x p
  | .node k f l, p, h => by
    simp only [Rx.In] at h ⊢
    obtain ⟨hk, a, cap, hc, hl⟩ := h
    exact ⟨hk, a, cap, hc.grown hg (Rx.Cell.far R hc), Rx.InL.grown R hg hl⟩
theorem Rx.InL.grown {w w' : World} {r : Nat} {b : Option Addr} {L : List Int} {c : Nat} {i : Int} {bad big : Bool} (R : Rx.Rd w r b L c i bad big) (hg : w.grownBy w' (some r)) : ∀ {l : List Rx} {a : Option Addr} {i : Nat}, Rx.InL w l a i → Rx.InL w' l a i
  | [], _, _, _ => by simp [Rx.InL]
  | y :: t, a, i, h => by
    simp only [Rx.InL] at h ⊢
    obtain ⟨⟨p, e, hp⟩, hr⟩ := h
    exact ⟨⟨p, e, Rx.In.grown R hg hp⟩, Rx.InL.grown R hg hr⟩
end
theorem Rx.Is.grown {w w' : World} {r : Nat} {b : Option Addr} {L : List Int} {c : Nat} {i : Int} {bad big : Bool} (R : Rx.Rd w r b L c i bad big) (hg : w.grownBy w' (some r)) {x : Rx} {v : Value} (h : Rx.Is w x v) : Rx.Is w' x v := by
  cases x
  obtain ⟨hk, a, cap, e, hl⟩ := h
  exact ⟨hk, a, cap, e, hl.grown R hg⟩
open Go.RowKit
theorem Rx.hdr_none (k : Nat) (a : Option Addr) (n cap : Nat) : Rx.hdr k (fun _ => false) a n cap = .agg #[.int .u8 k, .int .u64 0, .int .u64 0, .int .u64 0, .int .u64 0, .slice a n cap] := by
  simp [Rx.hdr, Bs.word_none]
open Go.RowKit
theorem Rx.add_block (x : Addr) (i : Nat) : (x.add i).block = x.block := by
  simp only [Addr.add]
  split <;> rfl
theorem Rx.Rd.far {w : World} {r : Nat} {a : Option Addr} {L : List Int} {cap : Nat} {i : Int} {bad big : Bool} (h : Rx.Rd w r a L cap i bad big) {d : Nat} (hd : d ≠ r) (hn : ∀ x, a = some x → L ≠ [] → x.block ≠ d) (j : Nat) (v : Value) : Rx.Rd (w.setCell ⟨d, j, none⟩ v) r a L cap i bad big := by
  refine ⟨Bs.cell_set h.c0 hd, Bs.cell_set h.c1 hd, Bs.cell_set h.c2 hd, Bs.cell_set h.c3 hd, by simpa using h.z1, by simpa using h.z2, by simpa using h.z3, ?_, h.ne, h.nn, h.ln, ?_⟩
  · intro q hq
    obtain ⟨x, e, hx⟩ := h.sg q hq
    exact ⟨x, e, Bs.cell_set hx (fun e' => hn x e (fun e0 => by rw [e0] at hq; simp at hq) ((Rx.add_block x q).symm.trans e'.symm))⟩
  · intro q u hq
    rw [World.cell?_setCell_other _ _ _ _ (by simp [hd])] at hq
    exact h.only q u hq
theorem Rx.St.far {w : World} {r : Nat} {a : Option Addr} {L : List Int} {cap : Nat} {t : Option (List Int)} {big : Bool} (h : Rx.St w r a L cap t big) {d : Nat} (hd : d ≠ r) (hn : ∀ x, a = some x → L ≠ [] → x.block ≠ d) (j : Nat) (v : Value) : Rx.St (w.setCell ⟨d, j, none⟩ v) r a L cap t big := by
  cases t with
  | none => obtain ⟨i, h⟩ := h; exact ⟨i, h.far hd hn j v⟩
  | some t => obtain ⟨q, h1, h2, h⟩ := h; exact ⟨q, h1, h2, h.far hd hn j v⟩
theorem Rx.grown_far {w v : World} {c : Nat} {row : Option Nat} (h : w.grownBy v row) (hc : w.heap.size ≤ c) (j : Nat) (u : Value) : w.grownBy (v.setCell ⟨c, j, none⟩ u) row :=
  ⟨h.os, h.tape, h.output, by rw [show (v.setCell ⟨c, j, none⟩ u).heap.size = v.heap.size by simp [go_sem]]; exact h.size, fun k hk hn => by rw [Below.heap_setCell _ _ _ _ (by simp; omega)]; exact h.block k hk hn⟩
end Go.Proofs.Ythapedadnbkgnaa
namespace Go.Proofs.Ythapedadnbkgnaa
set_option linter.unusedVariables false
set_option linter.unusedSimpArgs false
open Go.RowKit
theorem pass_yes (r : Nat) (u : List Int) (big : Bool) (c : Nat) (hc : c < 128) (w : World) (h : Px.St w r ((c : Int) :: u) big) : Calls Try.prog 63 #[.pointer (some ⟨r, 0, none⟩), .int .u8 c] w fun e w' => e = .returned (.bool true) ∧ Px.St w' r u big ∧ w.grownBy w' (some r) :=
  (pass_any r _ big c hc w h).mono fun e w' ⟨h1, h2, h3⟩ => ⟨by rw [h1]; simp, by simpa [Px.passed] using h2, h3⟩
theorem pass_no (r : Nat) (t : List Int) (big : Bool) (c : Nat) (hc : c < 128) (ht : ¬ t.head? = some (c : Int)) (w : World) (h : Px.St w r t big) : Calls Try.prog 63 #[.pointer (some ⟨r, 0, none⟩), .int .u8 c] w fun e w' => e = .returned (.bool false) ∧ Px.St w' r t big ∧ w.grownBy w' (some r) :=
  (pass_any r _ big c hc w h).mono fun e w' ⟨h1, h2, h3⟩ => ⟨by rw [h1]; simp [ht], by rw [Px.passed, if_neg ht] at h2; exact h2, h3⟩
theorem Px.head_is {t : List Int} {c : Int} (h : t.head? = some c) : ∃ u, t = c :: u := by
  cases t with
  | nil => simp at h
  | cons a u => simp at h; exact ⟨u, by rw [h]⟩
def Px.escS : ByteArray := ⟨#[124, 42, 43, 63, 40, 41, 91, 93, 46, 92, 45, 94]⟩
theorem Px.esc_one (c : Int) (u : List Int) : Px.oneOf Px.escS.data.toList (c :: u) = (Rx.special c || c == 45 || c == 94) := by
  rw [Bool.eq_iff_iff]
  simp [Px.oneOf, Px.escS, Rx.special]
  omega
theorem Px.opost_on {w w1 w' : World} {r : Nat} {big : Bool} {o : Option (Int × List Int)} {e : Ending} (G : w.grownBy w1 (some r)) (h : Px.OPost w1 r big o e w') : Px.OPost w r big o e w' := ⟨h.1, G.trans h.2⟩
set_option maxRecDepth 100000 in
set_option maxHeartbeats 400000 in
theorem escaped_any (r : Nat) (t : List Int) (big : Bool) (w : World) (h : Px.St w r t big) : Calls Try.prog 112 #[.pointer (some ⟨r, 0, none⟩)] w (Px.OPost w r big (Rx.esc t)) := by
  by_cases h0 : t.head? = some (110 : Int)
  · obtain ⟨u, rfl⟩ := Px.head_is h0
    have P := Lib.hid (pass_yes r u big 110 (by decide) w h)
    clear h0 h
    go_enter Try.func112, Try.ntmps112
    go_wp2_with fail
    refine P.out.mono ?_
    rintro e w1 ⟨rfl, h, G⟩
    have H := Lib.hid h; have G := Lib.hid G; clear h P
    go_wp2_with fail
    go_ret
    exact ⟨⟨rfl, H.out⟩, G.out⟩
  have P := Lib.hid (pass_no r t big 110 (by decide) h0 w h)
  clear h
  go_enter Try.func112, Try.ntmps112
  go_wp2_with fail
  refine P.out.mono ?_
  rintro e w1 ⟨rfl, h, G0⟩
  have G0 := Lib.hid G0; clear P
  by_cases h1 : t.head? = some (116 : Int)
  · obtain ⟨u, rfl⟩ := Px.head_is h1
    have P := Lib.hid (pass_yes r u big 116 (by decide) w1 h)
    clear h1 h
    go_wp2_with fail
    refine P.out.mono ?_
    rintro e w2 ⟨rfl, h, G⟩
    have H := Lib.hid h; have G := Lib.hid G; clear h P
    go_wp2_with fail
    go_ret
    exact ⟨⟨rfl, H.out⟩, G0.out.trans G.out⟩
  have P := Lib.hid (pass_no r t big 116 (by decide) h1 w1 h)
  clear h
  go_wp2_with fail
  refine P.out.mono ?_
  rintro e w2 ⟨rfl, h, G1⟩
  have G1 := Lib.hid (G0.out.trans G1); clear P G0
  by_cases h2 : t.head? = some (114 : Int)
  · obtain ⟨u, rfl⟩ := Px.head_is h2
    have P := Lib.hid (pass_yes r u big 114 (by decide) w2 h)
    clear h2 h
    go_wp2_with fail
    refine P.out.mono ?_
    rintro e w3 ⟨rfl, h, G⟩
    have H := Lib.hid h; have G := Lib.hid G; clear h P
    go_wp2_with fail
    go_ret
    exact ⟨⟨rfl, H.out⟩, G1.out.trans G.out⟩
  have P := Lib.hid (pass_no r t big 114 (by decide) h2 w2 h)
  clear h
  go_wp2_with fail
  refine P.out.mono ?_
  rintro e w3 ⟨rfl, h, G2⟩
  have G2 := Lib.hid (G1.out.trans G2); clear P G1
  have A := Lib.hid (at_any r t big Px.escS (by decide) w3 h)
  go_wp2_with fail
  refine A.out.mono ?_
  rintro e w4 ⟨rfl, rfl⟩
  have HE := Lib.hid (show Rx.esc t = if Px.oneOf Px.escS.data.toList t = true then Px.uncons t else none by
    cases t with
    | nil => rfl
    | cons c u =>
      rw [Px.esc_one]
      simp only [List.head?_cons, Option.some.injEq] at h0 h1 h2
      simp [Rx.esc, h0, h1, h2, Px.uncons])
  have H := Lib.hid h
  clear A h h0 h1 h2
  generalize Px.oneOf Px.escS.data.toList t = b at *
  cases b
  · have N := Lib.hid (need_no 20 w4)
    go_wp2_with fail
    refine N.out.mono ?_
    rintro e w5 ⟨rfl, rfl⟩
    exact ⟨rfl, by rw [HE.out]; exact rfl, G2.out⟩
  · have N := Lib.hid (need_yes 20 w4)
    go_wp2_with fail
    refine N.out.mono ?_
    rintro e w5 ⟨rfl, rfl⟩
    have S := Lib.hid (psign_any r t big w5 H.out)
    go_wp2_with fail
    refine S.out.mono ?_
    intro e w6 hP
    have HP := Lib.hid (Px.opost_on G2.out hP)
    have HE := Lib.hid (show Rx.esc t = Px.uncons t from HE.out)
    cases hu : Px.uncons t with
    | none =>
      rw [hu] at hP
      obtain ⟨rfl, _⟩ := hP
      exact ⟨rfl, by rw [HE.out, hu]; exact rfl, HP.out.2⟩
    | some p =>
      rw [hu] at hP
      obtain ⟨c, u⟩ := p
      obtain ⟨⟨rfl, _⟩, _⟩ := hP
      go_wp2_with fail
      go_ret
      rw [HE.out]; exact HP.out
def Px.mean (S : ByteArray) : List Int → Option (Int × List Int)
  | [] => none
  | c :: u => if c = 92 then Rx.esc u else if Px.oneOf S.data.toList (c :: u) = true then none else some (c, u)
set_option maxRecDepth 100000 in
set_option maxHeartbeats 400000 in
theorem meant_any (r : Nat) (t : List Int) (big : Bool) (S : ByteArray) (hS : ∀ b ∈ S.data.toList, b.toNat < 128) (w : World) (h : Px.St w r t big) : Calls Try.prog 101 #[.pointer (some ⟨r, 0, none⟩), .string S] w (Px.OPost w r big (Px.mean S t)) := by
  by_cases h0 : t.head? = some (92 : Int)
  · obtain ⟨u, rfl⟩ := Px.head_is h0
    have P := Lib.hid (pass_yes r u big 92 (by decide) w h)
    have HM := Lib.hid (show Px.mean S (92 :: u) = Rx.esc u by simp [Px.mean])
    clear h0 h hS
    go_enter Try.func101, Try.ntmps101
    go_wp2_with fail
    refine P.out.mono ?_
    rintro e w1 ⟨rfl, h, G⟩
    have E := Lib.hid (escaped_any r u big w1 h); have G := Lib.hid G; clear h P
    go_wp2_with fail
    refine E.out.mono ?_
    intro e w2 hP
    have HP := Lib.hid (Px.opost_on G.out hP)
    cases hu : Rx.esc u with
    | none =>
      rw [hu] at hP
      obtain ⟨rfl, _⟩ := hP
      exact ⟨rfl, by rw [HM.out, hu]; exact rfl, HP.out.2⟩
    | some p =>
      rw [hu] at hP
      obtain ⟨c, v⟩ := p
      obtain ⟨⟨rfl, _⟩, _⟩ := hP
      clear hu
      go_wp2_with fail
      go_ret
      rw [HM.out]; exact HP.out
  have P := Lib.hid (pass_no r t big 92 (by decide) h0 w h)
  have HM := Lib.hid (show Px.mean S t = if Px.oneOf S.data.toList t = true then none else Px.uncons t by
    cases t with
    | nil => rfl
    | cons c u =>
      simp only [List.head?_cons, Option.some.injEq] at h0
      simp [Px.mean, h0, Px.uncons])
  clear h h0
  go_enter Try.func101, Try.ntmps101
  go_wp2_with fail
  refine P.out.mono ?_
  rintro e w1 ⟨rfl, h, G⟩
  have G := Lib.hid G; clear P
  have A := Lib.hid (at_any r t big S hS w1 h)
  have H := Lib.hid h
  clear h hS
  go_wp2_with fail
  refine A.out.mono ?_
  rintro e w2 ⟨rfl, rfl⟩
  clear A
  generalize Px.oneOf S.data.toList t = b at *
  cases b
  · have N := Lib.hid (need_yes 20 w2)
    go_wp2_with fail
    refine N.out.mono ?_
    rintro e w3 ⟨rfl, rfl⟩
    have S := Lib.hid (psign_any r t big w3 H.out)
    go_wp2_with fail
    refine S.out.mono ?_
    intro e w4 hP
    have HP := Lib.hid (Px.opost_on G.out hP)
    cases hu : Px.uncons t with
    | none =>
      rw [hu] at hP
      obtain ⟨rfl, _⟩ := hP
      exact ⟨rfl, by rw [HM.out, hu]; exact rfl, HP.out.2⟩
    | some p =>
      rw [hu] at hP
      obtain ⟨c, u⟩ := p
      obtain ⟨⟨rfl, _⟩, _⟩ := hP
      clear hu
      go_wp2_with fail
      go_ret
      rw [HM.out]; exact HP.out
  · have N := Lib.hid (need_no 20 w2)
    go_wp2_with fail
    refine N.out.mono ?_
    rintro e w3 ⟨rfl, rfl⟩
    exact ⟨rfl, by rw [HM.out]; exact rfl, G.out⟩
def Px.insS : ByteArray := ⟨#[93, 92, 45, 94]⟩
theorem Px.esc_low {l : List Int} {c : Int} {u : List Int} (h : Rx.esc l = some (c, u)) : 0 ≤ c ∧ c < 128 := by
  cases l with
  | nil => simp [Rx.esc] at h
  | cons a t =>
    simp only [Rx.esc] at h
    repeat' (split at h)
    all_goals (try simp only [Option.some.injEq, Prod.mk.injEq] at h)
    · omega
    · omega
    · omega
    · rename_i hs
      simp [Rx.special] at hs
      omega
    · simp at h
theorem Px.bound_mean (t : List Int) : Rx.bound t = match Px.mean Px.insS t with
    | none => none
    | some (c, u) => if c < 128 then some (c, u) else none := by
  cases t with
  | nil => rfl
  | cons c u =>
    simp only [Rx.bound, Px.mean]
    by_cases h : c = 92
    · simp only [h, if_true]
      cases hu : Rx.esc u with
      | none => rfl
      | some p =>
        obtain ⟨d, v⟩ := p
        have := Px.esc_low hu
        simp [this]
    · simp only [h, if_false]
      have e : Px.oneOf Px.insS.data.toList (c :: u) = (c == 93 || c == 45 || c == 94) := by
        rw [Bool.eq_iff_iff]; simp [Px.oneOf, Px.insS]; omega
      rw [e]
      by_cases h2 : (c == 93 || c == 45 || c == 94) = true
      · rw [if_pos h2, if_pos (by simp only [Bool.or_eq_true, beq_iff_eq, decide_eq_true_eq] at h2 ⊢; omega)]
      · rw [if_neg h2]
        by_cases h3 : c < 128
        · rw [if_neg (by simp only [Bool.or_eq_true, beq_iff_eq, decide_eq_true_eq] at h2 ⊢; omega)]; simp [h3]
        · rw [if_pos (by simp only [Bool.or_eq_true, decide_eq_true_eq]; omega)]; simp [h3]
theorem Px.mean_pos {S : ByteArray} {t : List Int} {c : Int} {u : List Int} (ht : Rn.Signs t) (h : Px.mean S t = some (c, u)) : 0 ≤ c := by
  cases t with
  | nil => simp [Px.mean] at h
  | cons a v =>
    simp only [Px.mean] at h
    split at h
    · exact (Px.esc_low h).1
    · split at h
      · simp at h
      · simp only [Option.some.injEq, Prod.mk.injEq] at h
        rw [← h.1]; exact Px.sign_pos (ht a (by simp))
def Px.MPost (w : World) (r : Nat) (big : Bool) (o : Option (Int × List Int)) (e : Ending) (w' : World) : Prop :=
  (match o with
  | some (c, t) => (∃ n : Nat, c = n ∧ n < 128 ∧ e = .returned (.int .u8 n)) ∧ Px.St w' r t big
  | none => e = Px.up 20) ∧ w.grownBy w' (some r)
set_option maxRecDepth 100000 in
set_option maxHeartbeats 400000 in
theorem member_any (r : Nat) (t : List Int) (big : Bool) (w : World) (h : Px.St w r t big) : Calls Try.prog 113 #[.pointer (some ⟨r, 0, none⟩)] w (Px.MPost w r big (Rx.bound t)) := by
  have M := Lib.hid (meant_any r t big Px.insS (by decide) w h)
  have HB := Lib.hid (Px.bound_mean t)
  have HP0 := Lib.hid (show ∀ c u, Px.mean Px.insS t = some (c, u) → 0 ≤ c from fun c u e => Px.mean_pos (by obtain ⟨s, _, hs⟩ := h.c0; exact hs.sg) e)
  clear h
  go_enter Try.func113, Try.ntmps113
  go_wp2_with fail
  refine M.out.mono ?_
  intro e w1 hP
  clear M
  generalize Px.mean Px.insS t = o at *
  rcases o with _ | ⟨c, u⟩
  · obtain ⟨rfl, G⟩ := hP
    exact ⟨rfl, by rw [HB.out]; exact rfl, G⟩
  · obtain ⟨⟨rfl, h⟩, G⟩ := hP
    have H := Lib.hid h; have G := Lib.hid G; clear h
    have hc := HP0.out c u rfl
    clear HP0
    by_cases hl : c < 128
    · have HB := Lib.hid (show Rx.bound t = some (c, u) by rw [HB.out]; simp [hl])
      obtain ⟨n, rfl⟩ : ∃ n : Nat, c = n := ⟨c.toNat, by omega⟩
      have e1 : decide ((n : Int) < 128) = true := by simp; omega
      have w8 : IntKind.u8.wrap (n : Int) = n := by rw [IntKind.wrap_u8']; omega
      have N := Lib.hid (need_yes 20 w1)
      go_wp2_with fail
      refine N.out.mono ?_
      rintro e w2 ⟨rfl, rfl⟩
      go_wp2_with fail
      go_ret
      exact ⟨by rw [HB.out]; exact ⟨⟨n, rfl, by omega, rfl⟩, H.out⟩, G.out⟩
    · have HB := Lib.hid (show Rx.bound t = none by rw [HB.out]; simp [hl])
      have e1 : decide (c < 128) = false := by simp; omega
      have N := Lib.hid (need_no 20 w1)
      go_wp2_with fail
      refine N.out.mono ?_
      rintro e w2 ⟨rfl, rfl⟩
      exact ⟨rfl, by rw [HB.out]; exact rfl, G.out⟩
theorem Px.rng_eq (lo hi : Nat) : Bs.rng lo hi = Rx.rng lo hi := by
  funext c
  rw [Bool.eq_iff_iff]
  simp [Bs.rng, Rx.rng]
def Px.IPost (w : World) (r : Nat) (big : Bool) (o : Option ((Int × Int) × List Int)) (e : Ending) (w' : World) : Prop :=
  (match o with
  | some ((lo, hi), t) => e = .returned (Bs.val (Rx.rng lo hi)) ∧ Px.St w' r t big
  | none => e = Px.up 20) ∧ w.grownBy w' (some r)
theorem Px.St.far {w : World} {r : Nat} {t : List Int} {big : Bool} (h : Px.St w r t big) {d : Nat} (hd : d ≠ r) (j : Nat) (v : Value) : Px.St (w.setCell ⟨d, j, none⟩ v) r t big := by
  obtain ⟨⟨s, c0, hs⟩, c1, z0, z1, only⟩ := h
  refine ⟨⟨s, Bs.cell_set c0 hd, hs⟩, Bs.cell_set c1 hd, by simpa using z0, by simpa using z1, fun q u hq => ?_⟩
  rw [World.cell?_setCell_other _ _ _ _ (by simp [hd])] at hq
  exact only q u hq
theorem Px.St.far4 {w : World} {r : Nat} {t : List Int} {big : Bool} (h : Px.St w r t big) {d : Nat} (hd : d ≠ r) (x y z u : Value) : Px.St ((((w.setCell ⟨d, 0, none⟩ x).setCell ⟨d, 1, none⟩ y).setCell ⟨d, 2, none⟩ z).setCell ⟨d, 3, none⟩ u) r t big := (((h.far hd 0 x).far hd 1 y).far hd 2 z).far hd 3 u
theorem Px.grown_cell {w v : World} {r : Nat} (h : w.grownBy v (some r)) {a : Addr} {x : Value} (hc : w.cell? a = some x) (hn : a.block ≠ r) : v.cell? a = some x := h.cell hc (by simpa using hn)
theorem Px.grown_frz {w v : World} {r : Nat} (h : w.grownBy v (some r)) {a : Addr} {x : Value} (hc : w.cell? a = some x) (hn : a.block ≠ r) (hz : w.frozen? a = false) : v.frozen? a = false := by
  rw [h.frozen_far a (World.block_lt_of_cell? w _ hc) (by simpa using hn)]; exact hz
theorem Px.grown_up {w v v' : World} {r : Option Nat} (h : w.grownBy v r) (hb : Below v.heap.size v v') : w.grownBy v' r := h.trans ⟨hb.os, hb.tape, hb.output, hb.size, fun k hk _ => hb.block k hk⟩
theorem Px.box_grown {w v : World} {r b : Nat} {f : Nat → Bool} (h : w.grownBy v (some r)) (hB : Bs.Box w b f) (hn : b ≠ r) : Bs.Box v b f :=
  ⟨fun i hi => Px.grown_cell h (hB.cell i hi) hn, fun i hi => Px.grown_frz h (hB.cell i hi) hn (hB.frz i hi)⟩
set_option maxRecDepth 100000 in
set_option maxHeartbeats 400000 in
theorem item_any (r : Nat) (t : List Int) (big : Bool) (w : World) (h : Px.St w r t big) : Calls Try.prog 105 #[.pointer (some ⟨r, 0, none⟩)] w (Px.IPost w r big (Rx.item t)) := by
  have hr := h.lt
  have B0 := Bs.box_zero w 25
  have G0 := Lib.hid (World.grownBy_alloc w (.cells #[.int .u64 0, .int .u64 0, .int .u64 0, .int .u64 0] 25) (some r))
  replace h := h.up (Bs.below1 w (.cells #[.int .u64 0, .int .u64 0, .int .u64 0, .int .u64 0] 25))
  have HI := Lib.hid (show Rx.item t = _ by rw [Rx.item])
  have nr : w.heap.size ≠ r := by omega
  have lN : w.heap.size ≤ w.heap.size := Nat.le_refl _
  go_enter Try.func105, Try.ntmps105
  go_wp2_with fail
  generalize w.alloc (.cells #[.int .u64 0, .int .u64 0, .int .u64 0, .int .u64 0] 25) = W at *
  refine (member_any r t big W h).mono ?_
  intro e w1 hP
  clear h
  generalize Rx.bound t = o at *
  rcases o with _ | ⟨c, u⟩
  · obtain ⟨rfl, G⟩ := hP
    exact ⟨rfl, by rw [HI.out]; exact rfl, G0.out.trans G⟩
  obtain ⟨⟨⟨lo, rfl, hlo, rfl⟩, h⟩, G⟩ := hP
  replace B0 := Px.box_grown G B0 nr
  have G1 := Lib.hid (G0.out.trans G)
  clear G G0
  simp only at HI
  by_cases hd : u.head? = some (45 : Int)
  · obtain ⟨u', rfl⟩ := Px.head_is hd
    have HI := Lib.hid (show Rx.item t = match Rx.bound u' with
        | none => none
        | some (hi, r') => if hi < (lo : Int) then none else some (((lo : Int), hi), r') by rw [HI.out, if_pos hd]; rfl)
    have P := Lib.hid (pass_yes r u' big 45 (by decide) w1 h)
    clear h hd
    go_wp2_with fail
    refine P.out.mono ?_
    rintro e w2 ⟨rfl, h, G⟩
    replace B0 := Px.box_grown G B0 nr
    have G2 := Lib.hid (G1.out.trans G)
    clear P G G1
    go_wp2_with fail
    refine (member_any r u' big w2 h).mono ?_
    intro e w3 hP
    clear h
    generalize Rx.bound u' = o at *
    rcases o with _ | ⟨c, v⟩
    · obtain ⟨rfl, G⟩ := hP
      exact ⟨rfl, by rw [HI.out]; exact rfl, G2.out.trans G⟩
    obtain ⟨⟨⟨hi, rfl, hhi, rfl⟩, h⟩, G⟩ := hP
    replace B0 := Px.box_grown G B0 nr
    have G3 := Lib.hid (G2.out.trans G)
    clear G G2
    by_cases hle : lo ≤ hi
    · have HI := Lib.hid (show Rx.item t = some (((lo : Int), (hi : Int)), v) by rw [HI.out]; simp; omega)
      have e1 : decide ((lo : Int) ≤ hi) = true := by simp; omega
      have N := Lib.hid (need_yes 20 w3)
      have R := Lib.hid (rangeB_any lo hi w3)
      go_wp2_with fail
      refine N.out.mono ?_
      rintro e w4 ⟨rfl, rfl⟩
      clear N
      go_wp2_with fail
      refine R.out.mono ?_
      rintro e w5 ⟨rfl, hb⟩
      replace B0 := B0.up hb
      have H := Lib.hid (h.up hb)
      have G4 := Lib.hid (Px.grown_up G3.out hb)
      clear R hb h
      have z0 := B0.cell 0 (by decide); have z1 := B0.cell 1 (by decide); have z2 := B0.cell 2 (by decide); have z3 := B0.cell 3 (by decide)
      have g0 := B0.frz 0 (by decide); have g1 := B0.frz 1 (by decide); have g2 := B0.frz 2 (by decide); have g3 := B0.frz 3 (by decide)
      unfold Bs.val
      go_wp2_with fail
      refine bodyPost_ret (v := Bs.val (Bs.rng lo hi)) (by simp [results, Try.results105, go_sem, z0, z1, z2, z3, Bs.val]) rfl ⟨?_, ?_⟩
      · rw [HI.out, Px.rng_eq]
        exact ⟨rfl, H.out.far4 nr _ _ _ _⟩
      · exact Rx.grown_far (Rx.grown_far (Rx.grown_far (Rx.grown_far G4.out lN _ _) lN _ _) lN _ _) lN _ _
    · have HI := Lib.hid (show Rx.item t = none by rw [HI.out]; simp; omega)
      have e1 : decide ((lo : Int) ≤ hi) = false := by simp; omega
      have N := Lib.hid (need_no 20 w3)
      go_wp2_with fail
      refine N.out.mono ?_
      rintro e w4 ⟨rfl, rfl⟩
      exact ⟨rfl, by rw [HI.out]; exact rfl, G3.out⟩
  · have HI := Lib.hid (show Rx.item t = some (((lo : Int), (lo : Int)), u) by rw [HI.out, if_neg hd])
    have P := Lib.hid (pass_no r u big 45 (by decide) hd w1 h)
    clear h hd
    go_wp2_with fail
    refine P.out.mono ?_
    rintro e w3 ⟨rfl, h, G⟩
    replace B0 := Px.box_grown G B0 nr
    have G3 := Lib.hid (G1.out.trans G)
    clear P G G1
    have e1 : decide ((lo : Int) ≤ lo) = true := by simp
    have N := Lib.hid (need_yes 20 w3)
    have R := Lib.hid (rangeB_any lo lo w3)
    go_wp2_with fail
    refine N.out.mono ?_
    rintro e w4 ⟨rfl, rfl⟩
    clear N
    go_wp2_with fail
    refine R.out.mono ?_
    rintro e w5 ⟨rfl, hb⟩
    replace B0 := B0.up hb
    have H := Lib.hid (h.up hb)
    have G4 := Lib.hid (Px.grown_up G3.out hb)
    clear R hb h
    have z0 := B0.cell 0 (by decide); have z1 := B0.cell 1 (by decide); have z2 := B0.cell 2 (by decide); have z3 := B0.cell 3 (by decide)
    have g0 := B0.frz 0 (by decide); have g1 := B0.frz 1 (by decide); have g2 := B0.frz 2 (by decide); have g3 := B0.frz 3 (by decide)
    unfold Bs.val
    go_wp2_with fail
    refine bodyPost_ret (v := Bs.val (Bs.rng lo lo)) (by simp [results, Try.results105, go_sem, z0, z1, z2, z3, Bs.val]) rfl ⟨?_, ?_⟩
    · rw [HI.out, Px.rng_eq]
      exact ⟨rfl, H.out.far4 nr _ _ _ _⟩
    · exact Rx.grown_far (Rx.grown_far (Rx.grown_far (Rx.grown_far G4.out lN _ _) lN _ _) lN _ _) lN _ _
end Go.Proofs.Ythapedadnbkgnaa
