/- The law RegexParses, walked. -/
import Derived.Test.YtigdelfoipcilaaRxV
import Derived.Test.YtigdelfoipcilaaRzI
namespace Go.Proofs.Ytigdelfoipcilaa
set_option linter.unusedVariables false
set_option linter.unusedSimpArgs false
open Go.RowKit
theorem Px.one_parse {s : ByteArray} {x y : Rx} {c : Int} (h1 : c = 0 → Px.parse s = some x ∧ x.may 1 = true) (h2 : c ≠ 0 → x = Rx.nil) (h3 : c = 0 → Px.parse s = some y ∧ y.may 1 = true) (h4 : c ≠ 0 → y = Rx.nil) : x = y ∧ x.size ≤ 400 ∧ (c = 0 → x.may 1 = true) := by
  by_cases h : c = 0
  · obtain ⟨a1, a2⟩ := h1 h
    obtain ⟨b1, b2⟩ := h3 h
    rw [a1] at b1
    injection b1 with b1
    exact ⟨b1, (Rx.may_iff.1 a2).2.2, fun _ => a2⟩
  · rw [h2 h, h4 h]
    exact ⟨rfl, by simp [Rx.nil, Rx.size, Rx.sizeL], fun h' => absurd h' h⟩
set_option maxRecDepth 100000 in
set_option maxHeartbeats 2000000 in
theorem parsesLaw_any (s : ByteArray) (hmax : s.size ≤ maxLen) (w : World) : Calls Try.prog 3 #[.string s] w fun e w' => e = .returned (.bool true) ∧ Below w.heap.size w w' := by
  have hm2 := hmax
  unfold maxLen at hm2
  go_enter Try.func3, Try.ntmps3
  go_wp2_with fail
  refine (alive6_any w).mono ?_
  rintro e w1 ⟨rfl, A⟩
  by_cases h0 : 200 < s.size
  · have e0 : decide ((200 : Int) < (s.size : Int)) = true := decide_eq_true (by omega)
    go_wp2_with fail
    go_ret
    exact ⟨rfl, A⟩
  have e0 : decide ((200 : Int) < (s.size : Int)) = false := decide_eq_false (by omega)
  have P := Lib.hid (Parse_any s hmax w1)
  go_wp2_with fail
  refine P.out.mono ?_
  rintro e w2 ⟨v, x, rfl, hx, h1, h2, hb⟩
  replace A := Bs.below_up A hb
  obtain ⟨k, f, a, n, cap, rfl⟩ := hx.form
  clear P hb
  have B := Bs.below1 w2 (.cells #[.int .u8 k, .int .u64 (Bs.word f 0), .int .u64 (Bs.word f 1), .int .u64 (Bs.word f 2), .int .u64 (Bs.word f 3), .slice a n cap] 28)
  replace A := Bs.below_up A B
  have N := Rx.nod_new w2 k f a n cap
  have X := hx.is.up B
  have H12 := Lib.hid (And.intro h1 h2)
  clear B hx h1 h2
  unfold Rx.hdr at X ⊢
  have Q := Lib.hid (refParse_any s hmax (w2.alloc (.cells #[.int .u8 k, .int .u64 (Bs.word f 0), .int .u64 (Bs.word f 1), .int .u64 (Bs.word f 2), .int .u64 (Bs.word f 3), .slice a n cap] 28)))
  go_wp2_with fail
  refine Q.out.mono ?_
  generalize w2.alloc (.cells #[.int .u8 k, .int .u64 (Bs.word f 0), .int .u64 (Bs.word f 1), .int .u64 (Bs.word f 2), .int .u64 (Bs.word f 3), .slice a n cap] 28) = W at *
  generalize w2.heap.size = b at *
  rintro e w3 ⟨v, y, rfl, hy, h3, h4, hb⟩
  obtain ⟨hxy, hsz, hmy⟩ := Px.one_parse H12.out.1 H12.out.2 h3 h4
  subst hxy
  have HMY := Lib.hid hmy
  clear Q H12 h3 h4 hmy
  replace A := Bs.below_up A hb
  replace N := N.up hb
  replace X := X.up hb
  obtain ⟨k2, f2, a2, n2, cap2, rfl⟩ := hy.form
  have B := Bs.below1 w3 (.cells #[.int .u8 k2, .int .u64 (Bs.word f2 0), .int .u64 (Bs.word f2 1), .int .u64 (Bs.word f2 2), .int .u64 (Bs.word f2 3), .slice a2 n2 cap2] 28)
  replace A := Bs.below_up A B
  replace N := N.up B
  replace X := X.up B
  have N2 := Rx.nod_new w3 k2 f2 a2 n2 cap2
  have Y := hy.is.up B
  clear B hy hb
  obtain ⟨cc, hcc⟩ : ∃ cc, Px.code s = cc := ⟨_, rfl⟩
  rw [hcc] at HMY ⊢
  clear hcc
  unfold Rx.hdr at Y ⊢
  have SM := Lib.hid (refSame_any 400 x hsz (Nat.le_refl _) _ _ _ X Y)
  have c0 := N.cell.c0; have c1 := N.cell.c1; have c2 := N.cell.c2; have c3 := N.cell.c3; have c4 := N.cell.c4; have c5 := N.cell.c5
  have d0 := N2.cell.c0; have d1 := N2.cell.c1; have d2 := N2.cell.c2; have d3 := N2.cell.c3; have d4 := N2.cell.c4; have d5 := N2.cell.c5
  simp only [Nat.zero_add] at c0 c1 c2 c3 c4 c5 d0 d1 d2 d3 d4 d5
  have ec : (cc == cc) = true := beq_self_eq_true _
  go_wp2_with fail
  generalize w3.alloc (.cells #[.int .u8 k2, .int .u64 (Bs.word f2 0), .int .u64 (Bs.word f2 1), .int .u64 (Bs.word f2 2), .int .u64 (Bs.word f2 3), .slice a2 n2 cap2] 28) = V at *
  refine SM.out.mono ?_
  rintro e w4 ⟨rfl, hb⟩
  replace A := Bs.below_up A hb
  replace N := N.up hb
  replace X := X.up hb
  clear hb SM c0 c1 c2 c3 c4 c5 d0 d1 d2 d3 d4 d5 N2 Y
  have c0 := N.cell.c0; have c1 := N.cell.c1; have c2 := N.cell.c2; have c3 := N.cell.c3; have c4 := N.cell.c4; have c5 := N.cell.c5
  simp only [Nat.zero_add] at c0 c1 c2 c3 c4 c5
  by_cases hc : cc = 0
  · have HR := Lib.hid (HMY.out hc)
    subst hc
    have RT := Lib.hid (Right_any x _ _ X)
    rw [HR.out] at RT
    go_wp2_with fail
    refine RT.out.mono ?_
    rintro e w5 ⟨rfl, hb⟩
    replace A := Bs.below_up A hb
    clear hb RT c0 c1 c2 c3 c4 c5 N X
    go_wp2_with fail
    go_ret
    exact ⟨rfl, A⟩
  · have k1 : (cc == 0) = false := by simp; omega
    have k2' : (cc != 0) = true := by simp; omega
    go_wp2_with fail
    go_ret
    exact ⟨rfl, A⟩
end Go.Proofs.Ytigdelfoipcilaa
