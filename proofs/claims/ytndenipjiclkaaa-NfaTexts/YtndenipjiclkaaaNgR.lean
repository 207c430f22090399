/- The law NfaTexts, walked. -/
import Derived.Test.YtndenipjiclkaaaNgQ
import Derived.Test.YtndenipjiclkaaaNfZ
import Derived.Test.YtndenipjiclkaaaRgF
namespace Go.Proofs.Ytndenipjiclkaaa
set_option linter.unusedVariables false
set_option linter.unusedSimpArgs false
open Go.RowKit
/-- the rules of a text, of two expressions -/
theorem Ng.two_rules {x y : Rx} (hx : x.may 1 = true) (hy : y.may 1 = true) (s : ByteArray) {rs : List Int} (h : Nf.Rise rs (Nf.frr [x, y] (Px.by s) s.size)) : rs = (if Px.mt x s = true then [0] else []) ++ (if Px.mt y s = true then [1] else []) := by
  have hw : Rx.wfL [x, y] = true := by simp [Rx.wfL, (Rx.may_iff.1 hx).1, (Rx.may_iff.1 hy).1]
  refine Nf.rise_eq (P := Nf.frr [x, y] (Px.by s) s.size) h ?_
  have key : ∀ p, Nf.frr [x, y] (Px.by s) s.size p ↔ (p = 0 ∧ Px.mt x s = true) ∨ (p = 1 ∧ Px.mt y s = true) := fun p => by
    rw [Nf.frr_go hw, Px.mt_iff s hx, Px.mt_iff s hy]
    constructor
    · rintro ⟨h, hg⟩
      have : p = 0 ∨ p = 1 := by simp at h; omega
      rcases this with rfl | rfl
      · exact .inl ⟨rfl, hg⟩
      · exact .inr ⟨rfl, hg⟩
    · rintro (⟨rfl, hg⟩ | ⟨rfl, hg⟩)
      · exact ⟨by simp, hg⟩
      · exact ⟨by simp, hg⟩
  refine ⟨?_, fun z hz => ?_, fun p => ?_⟩
  · cases Px.mt x s <;> cases Px.mt y s <;> simp
  · cases hm : Px.mt x s <;> cases hn : Px.mt y s <;> simp [hm, hn] at hz <;> omega
  · rw [key]
    cases hm : Px.mt x s <;> cases hn : Px.mt y s <;> simp <;> omega
/-- the worlds of the law's last calls -/
structure Ng.TW (w : World) (b7 b9 : Nat) (x y : Rx) (k1 : Nat) (f1 : Nat → Bool) (a1 : Option Addr) (n1 c1 : Nat) (k2 : Nat) (f2 : Nat → Bool) (a2 : Option Addr) (n2 c2 : Nat) (u : World) : Prop where
  nx : Rx.Nod u b7 k1 f1 a1 n1 c1
  ny : Rx.Nod u b9 k2 f2 a2 n2 c2
  ix : Rx.Is u x (Rx.hdr k1 f1 a1 n1 c1)
  iy : Rx.Is u y (Rx.hdr k2 f2 a2 n2 c2)
  bel : Below w.heap.size w u
theorem Ng.TW.up {w : World} {b7 b9 : Nat} {x y : Rx} {k1 : Nat} {f1 : Nat → Bool} {a1 : Option Addr} {n1 c1 : Nat} {k2 : Nat} {f2 : Nat → Bool} {a2 : Option Addr} {n2 c2 : Nat} {u u' : World} (h : Ng.TW w b7 b9 x y k1 f1 a1 n1 c1 k2 f2 a2 n2 c2 u) (hb : Below u.heap.size u u') : Ng.TW w b7 b9 x y k1 f1 a1 n1 c1 k2 f2 a2 n2 c2 u' :=
  ⟨h.nx.up hb, h.ny.up hb, h.ix.up hb, h.iy.up hb, Bs.below_up h.bel hb⟩
def Ng.relT (s : ByteArray) (h1 h2 : Value) (m1 m2 : Bool) : List (Value → World → Prop) :=
  [fun v _ => v = h1, fun v _ => v = .string s, fun v _ => v = .bool m1, fun v _ => v = h2, fun v _ => v = .string s, fun v _ => v = .bool m2, fun v _ => v = .bool m1, fun v _ => v = .bool m2]
theorem Ng.relT_up (s : ByteArray) (h1 h2 : Value) (m1 m2 : Bool) : Rg.Ups (Ng.relT s h1 h2 m1 m2) := by
  refine ⟨?_, ?_, ?_, ?_, ?_, ?_, ?_, ?_, trivial⟩
  all_goals intro v w w' h hb
  all_goals exact h
set_option maxRecDepth 100000 in
set_option maxHeartbeats 2000000 in
theorem nfaTextsLaw_any (a b s : ByteArray) (ha : a.size ≤ maxLen) (hb9 : b.size ≤ maxLen) (hs : s.size ≤ maxLen) (w : World) : Calls Try.prog 6 #[.string a, .string b, .string s] w (Bs.BPost w true) := by
  have HMA := Lib.hid ha
  have HMB := Lib.hid hb9
  have HMS := Lib.hid hs
  clear ha hb9 hs
  have hs : s.size ≤ 9223372036854775807 := by have := HMS.out; unfold maxLen at this; omega
  have AL := Lib.hid (alive7_any w)
  go_enter Try.func6, Try.ntmps6
  go_wp2_with fail
  refine AL.out.mono ?_
  rintro e w1 ⟨rfl, A1⟩
  clear AL
  by_cases h20 : 20 < s.size
  · have e1 : decide ((20 : Int) < (s.size : Int)) = true := decide_eq_true (by omega)
    have e2 : decide (20 < s.size) = true := decide_eq_true h20
    go_wp2_with fail
    go_ret
    exact ⟨rfl, A1⟩
  have e1 : decide ((20 : Int) < (s.size : Int)) = false := decide_eq_false (by omega)
  have e2 : decide (20 < s.size) = false := decide_eq_false h20
  have P := Lib.hid (Parse_any a HMA.out w1)
  go_wp2_with fail
  refine P.out.mono ?_
  rintro e v1 ⟨_, y1, rfl, hy, h1, h2, hb⟩
  obtain ⟨k1, f1, a1, n1, c1, rfl⟩ := hy.form
  have B := Bs.below1 v1 (.cells #[.int .u8 k1, .int .u64 (Bs.word f1 0), .int .u64 (Bs.word f1 1), .int .u64 (Bs.word f1 2), .int .u64 (Bs.word f1 3), .slice a1 n1 c1] 54)
  have A2 := Bs.below_up (Bs.below_up A1 hb) B
  have N1 := Rx.nod_new v1 k1 f1 a1 n1 c1
  have X1 := hy.is.up B
  have H1 := Lib.hid h1
  clear B hy h1 h2 P hb A1
  unfold Rx.hdr
  obtain ⟨cd1, hcd1⟩ : ∃ c, Px.code a = c := ⟨_, rfl⟩
  rw [hcd1] at H1 ⊢
  clear hcd1
  go_wp2_with fail
  generalize v1.alloc (.cells #[.int .u8 k1, .int .u64 (Bs.word f1 0), .int .u64 (Bs.word f1 1), .int .u64 (Bs.word f1 2), .int .u64 (Bs.word f1 3), .slice a1 n1 c1] 54) = W1 at *
  generalize v1.heap.size = b1 at *
  have P := Lib.hid (Parse_any b HMB.out W1)
  refine P.out.mono ?_
  rintro e v2 ⟨_, y2, rfl, hy, h1, h2, hb⟩
  obtain ⟨k2, f2, a2, n2, c2, rfl⟩ := hy.form
  have B := Bs.below1 v2 (.cells #[.int .u8 k2, .int .u64 (Bs.word f2 0), .int .u64 (Bs.word f2 1), .int .u64 (Bs.word f2 2), .int .u64 (Bs.word f2 3), .slice a2 n2 c2] 54)
  have hbb := Bs.below_up hb B
  have TW0 : Hid (Ng.TW w b1 v2.heap.size y1 y2 k1 f1 a1 n1 c1 k2 f2 a2 n2 c2 (v2.alloc (.cells #[.int .u8 k2, .int .u64 (Bs.word f2 0), .int .u64 (Bs.word f2 1), .int .u64 (Bs.word f2 2), .int .u64 (Bs.word f2 3), .slice a2 n2 c2] 54))) := Lib.hid ⟨N1.up hbb, Rx.nod_new v2 k2 f2 a2 n2 c2, X1.up hbb, hy.is.up B, Bs.below_up A2 hbb⟩
  have H2 := Lib.hid h1
  clear B hy h1 h2 P hb A2 hbb N1 X1
  unfold Rx.hdr
  obtain ⟨cd2, hcd2⟩ : ∃ c, Px.code b = c := ⟨_, rfl⟩
  rw [hcd2] at H2 ⊢
  clear hcd2
  by_cases hz1 : cd1 = 0
  · subst hz1
    by_cases hz2 : cd2 = 0
    · subst hz2
      have M1 := Lib.hid (H1.out rfl).2
      have M2 := Lib.hid (H2.out rfl).2
      have c0 := TW0.out.nx.cell.c0; have c1' := TW0.out.nx.cell.c1; have c2' := TW0.out.nx.cell.c2; have c3 := TW0.out.nx.cell.c3; have c4 := TW0.out.nx.cell.c4; have c5 := TW0.out.nx.cell.c5
      have d0 := TW0.out.ny.cell.c0; have d1 := TW0.out.ny.cell.c1; have d2 := TW0.out.ny.cell.c2; have d3 := TW0.out.ny.cell.c3; have d4 := TW0.out.ny.cell.c4; have d5 := TW0.out.ny.cell.c5
      simp only [Nat.zero_add] at c0 c1' c2' c3 c4 c5 d0 d1 d2 d3 d4 d5
      clear H1 H2
      go_upto_region 7 with fail
      generalize v2.alloc (.cells #[.int .u8 k2, .int .u64 (Bs.word f2 0), .int .u64 (Bs.word f2 1), .int .u64 (Bs.word f2 2), .int .u64 (Bs.word f2 3), .slice a2 n2 c2] 54) = W2 at *
      generalize v2.heap.size = b2 at *
      have B3 := Bs.below1 W2 (.cells #[.int .u8 k1, .int .u64 (Bs.word f1 0), .int .u64 (Bs.word f1 1), .int .u64 (Bs.word f1 2), .int .u64 (Bs.word f1 3), .slice a1 n1 c1, .int .u8 k2, .int .u64 (Bs.word f2 0), .int .u64 (Bs.word f2 1), .int .u64 (Bs.word f2 2), .int .u64 (Bs.word f2 3), .slice a2 n2 c2] 54)
      have G := Lib.hid (great_any [y1, y2] (by simp [maxLen]) (some ⟨W2.heap.size, 0, none⟩) 2 _ (Ng.two_in TW0.out.ix TW0.out.iy))
      have TW1 := Lib.hid (TW0.out.up B3)
      clear B3 TW0
      go_wp2_with fail
      refine G.out.mono ?_
      rintro e w4 ⟨rfl, b4⟩
      have TW2 := Lib.hid (TW1.out.up b4)
      clear G b4 TW1 c0 c1' c2' c3 c4 c5 d0 d1 d2 d3 d4 d5
      cases hg : Ng.great [y1, y2]
      · have HCO := Lib.hid (show Ng.code [y1, y2] = 0 by
          have m1 := M1.out
          have m2 := M2.out
          have s1 := (Rx.may_iff.1 m1).2.2
          have s2 := (Rx.may_iff.1 m2).2.2
          have hs : Rx.sizeL [y1, y2] ≤ 2000 := by simp only [Rx.sizeL]; omega
          simp [Ng.code, m1, m2]
          omega)
        clear hg
        have c0 := TW2.out.nx.cell.c0; have c1' := TW2.out.nx.cell.c1; have c2' := TW2.out.nx.cell.c2; have c3 := TW2.out.nx.cell.c3; have c4 := TW2.out.nx.cell.c4; have c5 := TW2.out.nx.cell.c5
        have d0 := TW2.out.ny.cell.c0; have d1 := TW2.out.ny.cell.c1; have d2 := TW2.out.ny.cell.c2; have d3 := TW2.out.ny.cell.c3; have d4 := TW2.out.ny.cell.c4; have d5 := TW2.out.ny.cell.c5
        simp only [Nat.zero_add] at c0 c1' c2' c3 c4 c5 d0 d1 d2 d3 d4 d5
        have B3 := Bs.below1 w4 (.cells #[.int .u8 k1, .int .u64 (Bs.word f1 0), .int .u64 (Bs.word f1 1), .int .u64 (Bs.word f1 2), .int .u64 (Bs.word f1 3), .slice a1 n1 c1, .int .u8 k2, .int .u64 (Bs.word f2 0), .int .u64 (Bs.word f2 1), .int .u64 (Bs.word f2 2), .int .u64 (Bs.word f2 3), .slice a2 n2 c2] 54)
        have C := Lib.hid (build_any [y1, y2] (by simp) (some ⟨w4.heap.size, 0, none⟩) 2 _ (Ng.two_in TW2.out.ix TW2.out.iy))
        have TW3 := Lib.hid (TW2.out.up B3)
        clear B3 TW2
        go_wp2_with fail
        refine C.out.mono ?_
        rintro e w5 hpo
        obtain ⟨r, rfl, MC, b5⟩ := Ng.build_yes hpo HCO.out
        have RN := Lib.hid (run_any w5 _ r _ MC s HMS.out (fun _ => True) (fun _ _ => trivial))
        have TW4 := Lib.hid (TW3.out.up b5)
        clear C MC hpo b5 c0 c1' c2' c3 c4 c5 d0 d1 d2 d3 d4 d5 TW3
        go_wp2_with fail
        refine RN.out.mono ?_
        rintro e w6 ⟨os, rs, ⟨p1, p2, rfl, R1, R2, b6⟩, h4, h5⟩
        have hrs := Ng.two_rules M1.out M2.out s h5
        have RL := Lib.hid (rule_any rs p1 p2 w6 os R1 R2 (by rw [hrs]; cases Px.mt y1 s <;> cases Px.mt y2 s <;> simp))
        have HRS := Lib.hid hrs
        have TW5 := Lib.hid (TW4.out.up b6)
        obtain ⟨q1, q2, q3, rfl⟩ := R1.form
        obtain ⟨q4, q5, q6, rfl⟩ := R2.form
        clear RN R1 R2 b6 h4 h5 TW4 hrs
        go_wp2_with fail
        refine RL.out.mono ?_
        rintro e w7 ⟨rfl, b7⟩
        have TW6 := Lib.hid (TW5.out.up b7)
        clear RL b7 TW5
        obtain ⟨rr, hrr⟩ : ∃ rr, (Nf.rule rs).1 = rr := ⟨_, rfl⟩
        obtain ⟨ok, hok⟩ : ∃ ok, (Nf.rule rs).2 = ok := ⟨_, rfl⟩
        have HRR := Lib.hid hrr
        have HOK := Lib.hid hok
        rw [hrr, hok]
        clear hrr hok
        go_upto_region 13 with fail
        refine Rg.regionW (by kernel_rfl) (by kernel_rfl) (Rg.rel (Ng.relT s (Rx.hdr k1 f1 a1 n1 c1) (Rx.hdr k2 f2 a2 n2 c2) (Px.mt y1 s) (Px.mt y2 s))) (Ng.TW w b1 b2 y1 y2 k1 f1 a1 n1 c1 k2 f2 a2 n2 c2) (fun w w' => Below w.heap.size w w') (fun i v w w' h _ hb => Rg.rel_up (Ng.relT_up _ _ _ _ _) h hb) (TW6.out.up (Below.refl _ _).drew) ⟨?_, ?_, ?_, ?_, ?_, ?_, ?_, ?_, trivial⟩ ?_
        · intro f' u hw hd
          have c0 := hw.nx.cell.c0; have c1' := hw.nx.cell.c1; have c2' := hw.nx.cell.c2; have c3 := hw.nx.cell.c3; have c4 := hw.nx.cell.c4; have c5 := hw.nx.cell.c5
          simp only [Nat.zero_add] at c0 c1' c2' c3 c4 c5
          have HU := Lib.hid hw
          clear hw hd
          simp only [Rg.step, Rg.all, Act.put, List.setIfInBounds_toArray, List.set_cons_zero, List.set_cons_succ]
          go_simp
          exact ⟨rfl, HU.out, Below.refl _ _⟩
        · intro f' u hw hd
          have HU := Lib.hid hw
          clear hw hd
          simp only [Rg.step, Rg.all, Act.put, List.setIfInBounds_toArray, List.set_cons_zero, List.set_cons_succ]
          go_simp
          exact ⟨rfl, HU.out, Below.refl _ _⟩
        · intro f' u hw hd
          have r0 : f' 0 = Rx.hdr k1 f1 a1 n1 c1 := hd _ (List.mem_cons_self ..) rfl
          have r1 : f' 1 = .string s := hd _ (List.mem_cons_of_mem _ (List.mem_cons_self ..)) rfl
          have C := Lib.hid (Matches_any y1 _ s u hw.ix HMS.out)
          have HU := Lib.hid hw
          clear hw hd
          simp only [Rg.step, Rg.all, Act.put, List.setIfInBounds_toArray, List.set_cons_zero, List.set_cons_succ]
          go_simp
          refine C.out.mono ?_
          rintro e u1 ⟨rfl, b3⟩
          exact ⟨_, rfl, rfl, HU.out.up b3, b3⟩
        · intro f' u hw hd
          have c0 := hw.ny.cell.c0; have c1' := hw.ny.cell.c1; have c2' := hw.ny.cell.c2; have c3 := hw.ny.cell.c3; have c4 := hw.ny.cell.c4; have c5 := hw.ny.cell.c5
          simp only [Nat.zero_add] at c0 c1' c2' c3 c4 c5
          have HU := Lib.hid hw
          clear hw hd
          simp only [Rg.step, Rg.all, Act.put, List.setIfInBounds_toArray, List.set_cons_zero, List.set_cons_succ]
          go_simp
          exact ⟨rfl, HU.out, Below.refl _ _⟩
        · intro f' u hw hd
          have HU := Lib.hid hw
          clear hw hd
          simp only [Rg.step, Rg.all, Act.put, List.setIfInBounds_toArray, List.set_cons_zero, List.set_cons_succ]
          go_simp
          exact ⟨rfl, HU.out, Below.refl _ _⟩
        · intro f' u hw hd
          have r3 : f' 3 = Rx.hdr k2 f2 a2 n2 c2 := hd _ (List.mem_cons_self ..) rfl
          have r4 : f' 4 = .string s := hd _ (List.mem_cons_of_mem _ (List.mem_cons_self ..)) rfl
          have C := Lib.hid (Matches_any y2 _ s u hw.iy HMS.out)
          have HU := Lib.hid hw
          clear hw hd
          simp only [Rg.step, Rg.all, Act.put, List.setIfInBounds_toArray, List.set_cons_zero, List.set_cons_succ]
          go_simp
          refine C.out.mono ?_
          rintro e u1 ⟨rfl, b3⟩
          exact ⟨_, rfl, rfl, HU.out.up b3, b3⟩
        · intro f' u hw hd
          have r2 : f' 2 = .bool (Px.mt y1 s) := hd _ (List.mem_cons_self ..) rfl
          have HU := Lib.hid hw
          clear hw hd
          simp only [Rg.step, Rg.all, Act.put, List.setIfInBounds_toArray, List.set_cons_zero, List.set_cons_succ]
          go_simp
          exact ⟨rfl, HU.out, Below.refl _ _⟩
        · intro f' u hw hd
          have r5 : f' 5 = .bool (Px.mt y2 s) := hd _ (List.mem_cons_self ..) rfl
          have HU := Lib.hid hw
          clear hw hd
          simp only [Rg.step, Rg.all, Act.put, List.setIfInBounds_toArray, List.set_cons_zero, List.set_cons_succ]
          go_simp
          exact ⟨rfl, HU.out, Below.refl _ _⟩
        · intro f' u hw hR
          have r6 : f' 6 = .bool (Px.mt y1 s) := hR 6 (by decide)
          have r7 : f' 7 = .bool (Px.mt y2 s) := hR 7 (by decide)
          have HU := Lib.hid hw
          clear hw hR
          simp only [Rg.all, Act.put, List.setIfInBounds_toArray, List.set_cons_zero, List.set_cons_succ]
          have hrs := HRS.out
          have hrr := HRR.out
          have hok := HOK.out
          rw [hrs] at hrr hok
          cases hm : Px.mt y1 s <;> cases hn : Px.mt y2 s <;> (rw [hm] at r6 hrr hok; rw [hn] at r7 hrr hok; simp [Nf.rule, Nf.least] at hrr hok; subst hrr; subst hok; clear hrs hm hn HRS HRR HOK; go_wp2_with fail; go_ret; exact ⟨rfl, HU.out.bel⟩)
      · go_wp2_with fail
        go_ret
        exact ⟨rfl, TW2.out.bel⟩
    · have e3 : (cd2 != 0) = true := by simp [hz2]
      go_wp2_with fail
      go_ret
      exact ⟨rfl, TW0.out.bel⟩
  · have e3 : (cd1 != 0) = true := by simp [hz1]
    go_wp2_with fail
    go_ret
    exact ⟨rfl, TW0.out.bel⟩
end Go.Proofs.Ytndenipjiclkaaa
