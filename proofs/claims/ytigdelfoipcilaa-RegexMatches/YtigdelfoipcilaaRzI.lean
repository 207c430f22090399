/- The chapter's examples, walked. -/
import Derived.Test.YtigdelfoipcilaaRzF
import Derived.Test.YtigdelfoipcilaaRyQ
namespace Go.Proofs.Ytigdelfoipcilaa
set_option linter.unusedVariables false
set_option linter.unusedSimpArgs false
open Go.RowKit
theorem Px.ex1 : Px.code ⟨#[97, 124, 98, 42]⟩ = 0 := by decide +kernel
theorem Px.ex2 : Px.code ⟨#[91, 97, 45, 99, 93, 43]⟩ = 0 := by decide +kernel
theorem Px.ex3 : Px.code ⟨#[42]⟩ = 20 := by decide +kernel
theorem Px.ex4 : Px.code ⟨#[91, 93]⟩ = 20 := by decide +kernel
theorem Px.ex5 : Px.code ⟨#[91, 98, 45, 97, 93]⟩ = 20 := by decide +kernel
theorem Px.ex6 : Px.code ⟨#[97, 92, 113]⟩ = 20 := by decide +kernel
theorem Px.mx1 : (Px.parse ⟨#[97, 124, 98, 42]⟩).map (fun x => (Px.mt x ⟨#[97]⟩, Px.mt x ⟨#[]⟩, Px.mt x ⟨#[98, 98, 98]⟩, Px.mt x ⟨#[97, 98]⟩)) = some (true, true, true, false) := by decide +kernel
theorem Px.mx2 : (Px.parse ⟨#[91, 97, 45, 99, 93, 43]⟩).map (fun x => Px.mt x ⟨#[99, 97, 98]⟩) = some true := by decide +kernel
theorem Px.mt_1 {y : Rx} (h : Px.parse ⟨#[97, 124, 98, 42]⟩ = some y) : Px.mt y ⟨#[97]⟩ = true ∧ Px.mt y ⟨#[]⟩ = true ∧ Px.mt y ⟨#[98, 98, 98]⟩ = true ∧ Px.mt y ⟨#[97, 98]⟩ = false := by
  have := Px.mx1
  rw [h] at this
  simp only [Option.map_some, Option.some.injEq, Prod.mk.injEq] at this
  exact this
theorem Px.mt_2 {y : Rx} (h : Px.parse ⟨#[91, 97, 45, 99, 93, 43]⟩ = some y) : Px.mt y ⟨#[99, 97, 98]⟩ = true := by
  have := Px.mx2
  rw [h] at this
  simpa using this
theorem Px.match_is {y : Rx} {v : Value} {w : World} {s : ByteArray} {b : Bool} (hy : Rx.Is w y v) (hs : s.size ≤ maxLen) (hb : Px.mt y s = b) : Calls Try.prog 17 #[v, .string s] w (Bs.BPost w b) := hb ▸ Matches_any y v s w hy hs
set_option maxRecDepth 100000 in
set_option maxHeartbeats 2000000 in
theorem alive6_any (w : World) : Calls Try.prog 11 #[] w (Bs.BPost w true) := by
  go_enter Try.func11, Try.ntmps11
  have P := Lib.hid (Parse_any ⟨#[97, 124, 98, 42]⟩ (by decide) w)
  go_wp2_with fail
  refine P.out.mono ?_
  rintro e v1 ⟨_, y1, rfl, hy, h1, h2, A⟩
  rw [Px.ex1] at h1 h2 ⊢
  obtain ⟨k1, f1, a1, n1, c1, rfl⟩ := hy.form
  clear P h2
  have B := Bs.below1 v1 (.cells #[.int .u8 k1, .int .u64 (Bs.word f1 0), .int .u64 (Bs.word f1 1), .int .u64 (Bs.word f1 2), .int .u64 (Bs.word f1 3), .slice a1 n1 c1] 28)
  replace A := Bs.below_up A B
  have N1 := Rx.nod_new v1 k1 f1 a1 n1 c1
  have X1 := hy.is.up B
  have H1 := Lib.hid (h1 rfl).1
  clear B hy h1
  unfold Rx.hdr
  go_wp2_with fail
  generalize v1.alloc (.cells #[.int .u8 k1, .int .u64 (Bs.word f1 0), .int .u64 (Bs.word f1 1), .int .u64 (Bs.word f1 2), .int .u64 (Bs.word f1 3), .slice a1 n1 c1] 28) = W1 at *
  generalize v1.heap.size = b1 at *
  have P := Lib.hid (Parse_any ⟨#[91, 97, 45, 99, 93, 43]⟩ (by decide) W1)
  skip
  refine P.out.mono ?_
  rintro e v2 ⟨_, y2, rfl, hy, h1, h2, hb⟩
  rw [Px.ex2] at h1 h2 ⊢
  obtain ⟨k2, f2, a2, n2, c2, rfl⟩ := hy.form
  clear P h2
  replace A := Bs.below_up A hb
  replace N1 := N1.up hb
  replace X1 := X1.up hb
  clear hb
  have B := Bs.below1 v2 (.cells #[.int .u8 k2, .int .u64 (Bs.word f2 0), .int .u64 (Bs.word f2 1), .int .u64 (Bs.word f2 2), .int .u64 (Bs.word f2 3), .slice a2 n2 c2] 28)
  replace A := Bs.below_up A B
  replace N1 := N1.up B
  replace X1 := X1.up B
  have N2 := Rx.nod_new v2 k2 f2 a2 n2 c2
  have X2 := hy.is.up B
  have H2 := Lib.hid (h1 rfl).1
  clear B hy h1
  unfold Rx.hdr
  go_wp2_with fail
  generalize v2.alloc (.cells #[.int .u8 k2, .int .u64 (Bs.word f2 0), .int .u64 (Bs.word f2 1), .int .u64 (Bs.word f2 2), .int .u64 (Bs.word f2 3), .slice a2 n2 c2] 28) = W2 at *
  generalize v2.heap.size = b2 at *
  have P := Lib.hid (Parse_any ⟨#[42]⟩ (by decide) W2)
  skip
  refine P.out.mono ?_
  rintro e v3 ⟨_, y3, rfl, hy, h1, h2, hb⟩
  rw [Px.ex3] at h1 h2 ⊢
  obtain ⟨k3, f3, a3, n3, c3, rfl⟩ := hy.form
  clear P h2
  replace A := Bs.below_up A hb
  replace N1 := N1.up hb
  replace X1 := X1.up hb
  replace N2 := N2.up hb
  replace X2 := X2.up hb
  clear hb
  have B := Bs.below1 v3 (.cells #[.int .u8 k3, .int .u64 (Bs.word f3 0), .int .u64 (Bs.word f3 1), .int .u64 (Bs.word f3 2), .int .u64 (Bs.word f3 3), .slice a3 n3 c3] 28)
  replace A := Bs.below_up A B
  replace N1 := N1.up B
  replace X1 := X1.up B
  replace N2 := N2.up B
  replace X2 := X2.up B
  clear B hy h1
  unfold Rx.hdr
  go_wp2_with fail
  generalize v3.alloc (.cells #[.int .u8 k3, .int .u64 (Bs.word f3 0), .int .u64 (Bs.word f3 1), .int .u64 (Bs.word f3 2), .int .u64 (Bs.word f3 3), .slice a3 n3 c3] 28) = W3 at *
  generalize v3.heap.size = b3 at *
  have P := Lib.hid (Parse_any ⟨#[91, 93]⟩ (by decide) W3)
  skip
  refine P.out.mono ?_
  rintro e v4 ⟨_, y4, rfl, hy, h1, h2, hb⟩
  rw [Px.ex4] at h1 h2 ⊢
  obtain ⟨k4, f4, a4, n4, c4, rfl⟩ := hy.form
  clear P h2
  replace A := Bs.below_up A hb
  replace N1 := N1.up hb
  replace X1 := X1.up hb
  replace N2 := N2.up hb
  replace X2 := X2.up hb
  clear hb
  have B := Bs.below1 v4 (.cells #[.int .u8 k4, .int .u64 (Bs.word f4 0), .int .u64 (Bs.word f4 1), .int .u64 (Bs.word f4 2), .int .u64 (Bs.word f4 3), .slice a4 n4 c4] 28)
  replace A := Bs.below_up A B
  replace N1 := N1.up B
  replace X1 := X1.up B
  replace N2 := N2.up B
  replace X2 := X2.up B
  clear B hy h1
  unfold Rx.hdr
  go_wp2_with fail
  generalize v4.alloc (.cells #[.int .u8 k4, .int .u64 (Bs.word f4 0), .int .u64 (Bs.word f4 1), .int .u64 (Bs.word f4 2), .int .u64 (Bs.word f4 3), .slice a4 n4 c4] 28) = W4 at *
  generalize v4.heap.size = b4 at *
  have P := Lib.hid (Parse_any ⟨#[91, 98, 45, 97, 93]⟩ (by decide) W4)
  skip
  refine P.out.mono ?_
  rintro e v5 ⟨_, y5, rfl, hy, h1, h2, hb⟩
  rw [Px.ex5] at h1 h2 ⊢
  obtain ⟨k5, f5, a5, n5, c5, rfl⟩ := hy.form
  clear P h2
  replace A := Bs.below_up A hb
  replace N1 := N1.up hb
  replace X1 := X1.up hb
  replace N2 := N2.up hb
  replace X2 := X2.up hb
  clear hb
  have B := Bs.below1 v5 (.cells #[.int .u8 k5, .int .u64 (Bs.word f5 0), .int .u64 (Bs.word f5 1), .int .u64 (Bs.word f5 2), .int .u64 (Bs.word f5 3), .slice a5 n5 c5] 28)
  replace A := Bs.below_up A B
  replace N1 := N1.up B
  replace X1 := X1.up B
  replace N2 := N2.up B
  replace X2 := X2.up B
  clear B hy h1
  unfold Rx.hdr
  go_wp2_with fail
  generalize v5.alloc (.cells #[.int .u8 k5, .int .u64 (Bs.word f5 0), .int .u64 (Bs.word f5 1), .int .u64 (Bs.word f5 2), .int .u64 (Bs.word f5 3), .slice a5 n5 c5] 28) = W5 at *
  generalize v5.heap.size = b5 at *
  have P := Lib.hid (Parse_any ⟨#[97, 92, 113]⟩ (by decide) W5)
  skip
  refine P.out.mono ?_
  rintro e v6 ⟨_, y6, rfl, hy, h1, h2, hb⟩
  rw [Px.ex6] at h1 h2 ⊢
  obtain ⟨k6, f6, a6, n6, c6, rfl⟩ := hy.form
  clear P h2
  replace A := Bs.below_up A hb
  replace N1 := N1.up hb
  replace X1 := X1.up hb
  replace N2 := N2.up hb
  replace X2 := X2.up hb
  clear hb
  have B := Bs.below1 v6 (.cells #[.int .u8 k6, .int .u64 (Bs.word f6 0), .int .u64 (Bs.word f6 1), .int .u64 (Bs.word f6 2), .int .u64 (Bs.word f6 3), .slice a6 n6 c6] 28)
  replace A := Bs.below_up A B
  replace N1 := N1.up B
  replace X1 := X1.up B
  replace N2 := N2.up B
  replace X2 := X2.up B
  clear B hy h1
  unfold Rx.hdr
  go_upto_region 7 with fail
  generalize v6.alloc (.cells #[.int .u8 k6, .int .u64 (Bs.word f6 0), .int .u64 (Bs.word f6 1), .int .u64 (Bs.word f6 2), .int .u64 (Bs.word f6 3), .slice a6 n6 c6] 28) = W6 at *
  generalize v6.heap.size = b6 at *
  have M1 := Lib.hid (Px.mt_1 H1.out)
  have M2 := Lib.hid (Px.mt_2 H2.out)
  clear H1 H2
  have d0 := N1.cell.c0; have d1 := N1.cell.c1; have d2 := N1.cell.c2; have d3 := N1.cell.c3; have d4 := N1.cell.c4; have d5 := N1.cell.c5
  simp only [Nat.zero_add] at d0 d1 d2 d3 d4 d5
  have P := Lib.hid (Px.match_is (s := ⟨#[97]⟩) X1 (by decide) M1.out.1)
  unfold Rx.hdr at P
  go_wp2_with fail
  refine P.out.mono ?_
  rintro e u1 ⟨rfl, hb⟩
  replace A := Bs.below_up A hb
  replace N1 := N1.up hb
  replace X1 := X1.up hb
  replace N2 := N2.up hb
  replace X2 := X2.up hb
  clear hb P d0 d1 d2 d3 d4 d5
  have d0 := N1.cell.c0; have d1 := N1.cell.c1; have d2 := N1.cell.c2; have d3 := N1.cell.c3; have d4 := N1.cell.c4; have d5 := N1.cell.c5
  simp only [Nat.zero_add] at d0 d1 d2 d3 d4 d5
  have P := Lib.hid (Px.match_is (s := ⟨#[]⟩) X1 (by decide) M1.out.2.1)
  unfold Rx.hdr at P
  go_wp2_with fail
  refine P.out.mono ?_
  rintro e u2 ⟨rfl, hb⟩
  replace A := Bs.below_up A hb
  replace N1 := N1.up hb
  replace X1 := X1.up hb
  replace N2 := N2.up hb
  replace X2 := X2.up hb
  clear hb P d0 d1 d2 d3 d4 d5
  have d0 := N1.cell.c0; have d1 := N1.cell.c1; have d2 := N1.cell.c2; have d3 := N1.cell.c3; have d4 := N1.cell.c4; have d5 := N1.cell.c5
  simp only [Nat.zero_add] at d0 d1 d2 d3 d4 d5
  have P := Lib.hid (Px.match_is (s := ⟨#[98, 98, 98]⟩) X1 (by decide) M1.out.2.2.1)
  unfold Rx.hdr at P
  go_wp2_with fail
  refine P.out.mono ?_
  rintro e u3 ⟨rfl, hb⟩
  replace A := Bs.below_up A hb
  replace N1 := N1.up hb
  replace X1 := X1.up hb
  replace N2 := N2.up hb
  replace X2 := X2.up hb
  clear hb P d0 d1 d2 d3 d4 d5
  have d0 := N1.cell.c0; have d1 := N1.cell.c1; have d2 := N1.cell.c2; have d3 := N1.cell.c3; have d4 := N1.cell.c4; have d5 := N1.cell.c5
  simp only [Nat.zero_add] at d0 d1 d2 d3 d4 d5
  have P := Lib.hid (Px.match_is (s := ⟨#[97, 98]⟩) X1 (by decide) M1.out.2.2.2)
  unfold Rx.hdr at P
  go_wp2_with fail
  refine P.out.mono ?_
  rintro e u4 ⟨rfl, hb⟩
  replace A := Bs.below_up A hb
  replace N1 := N1.up hb
  replace X1 := X1.up hb
  replace N2 := N2.up hb
  replace X2 := X2.up hb
  clear hb P d0 d1 d2 d3 d4 d5
  have d0 := N2.cell.c0; have d1 := N2.cell.c1; have d2 := N2.cell.c2; have d3 := N2.cell.c3; have d4 := N2.cell.c4; have d5 := N2.cell.c5
  simp only [Nat.zero_add] at d0 d1 d2 d3 d4 d5
  have P := Lib.hid (Px.match_is (s := ⟨#[99, 97, 98]⟩) X2 (by decide) M2.out)
  unfold Rx.hdr at P
  go_wp2_with fail
  refine P.out.mono ?_
  rintro e u5 ⟨rfl, hb⟩
  replace A := Bs.below_up A hb
  replace N1 := N1.up hb
  replace X1 := X1.up hb
  replace N2 := N2.up hb
  replace X2 := X2.up hb
  clear hb P d0 d1 d2 d3 d4 d5
  go_wp2_with fail
  go_ret
  exact ⟨rfl, A⟩
end Go.Proofs.Ytigdelfoipcilaa
