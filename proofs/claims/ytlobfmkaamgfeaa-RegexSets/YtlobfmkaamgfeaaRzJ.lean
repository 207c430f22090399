/- The law RegexSets, walked. -/
import Derived.Test.YtlobfmkaamgfeaaRzH
import Derived.Test.YtlobfmkaamgfeaaRzI
import Derived.Deep.DeepCutAuto
namespace Go.Proofs.Ytlobfmkaamgfeaa
set_option linter.unusedVariables false
set_option linter.unusedSimpArgs false
open Go.RowKit
theorem Sr.below_drewN (w : World) : ∀ n, Below w.heap.size w (w.drewN n)
  | 0 => Below.refl _ _
  | n + 1 => by
    have h := Sr.below_drewN w n
    exact h.drew
theorem Px.setsOf_nil : Px.setsOf Rx.nil = [] := rfl
set_option maxRecDepth 100000 in
set_option maxHeartbeats 2000000 in
theorem setsLaw_any (s : ByteArray) (w : World) (hm : s.size ≤ maxLen) : Calls Try.prog 6 #[.string s] w (Bs.BPost w true) := by
  have hmax := hm
  unfold maxLen at hm
  go_enter Try.func6, Try.ntmps6
  go_wp2_with fail
  refine (alive6_any w).mono ?_
  rintro e w1 ⟨rfl, A⟩
  by_cases h2 : 200 < s.size
  · have e2 : decide ((200 : Int) < (s.size : Int)) = true := decide_eq_true (by omega)
    go_wp2_with fail
    go_ret
    exact ⟨rfl, A⟩
  have e2 : decide ((200 : Int) < (s.size : Int)) = false := decide_eq_false (by omega)
  have P := Lib.hid (Parse_any s hmax w1)
  go_wp2_with fail
  refine P.out.mono ?_
  rintro e w2 ⟨_, y, rfl, hy, h1, h2, hb⟩
  replace A := Bs.below_up A hb
  obtain ⟨k, f, a, n, cap, rfl⟩ := hy.form
  clear P hb
  have B := Bs.below1 w2 (.cells #[.int .u8 k, .int .u64 (Bs.word f 0), .int .u64 (Bs.word f 1), .int .u64 (Bs.word f 2), .int .u64 (Bs.word f 3), .slice a n cap] 28)
  replace A := Bs.below_up A B
  have N := Rx.nod_new w2 k f a n cap
  have X := hy.is.up B
  have H1 := Lib.hid h1
  have H2 := Lib.hid h2
  clear B hy h1 h2 e2
  have c0 := N.cell.c0; have c1 := N.cell.c1; have c2 := N.cell.c2; have c3 := N.cell.c3; have c4 := N.cell.c4; have c5 := N.cell.c5
  simp only [Nat.zero_add] at c0 c1 c2 c3 c4 c5
  have ST := Lib.hid (Sets_any y _ _ X)
  unfold Rx.hdr at ST X ⊢
  obtain ⟨cc, hcc⟩ : ∃ cc, Px.code s = cc := ⟨_, rfl⟩
  rw [hcc] at H1 H2 ⊢
  clear hcc
  go_wp2_with fail
  generalize w2.alloc (.cells #[.int .u8 k, .int .u64 (Bs.word f 0), .int .u64 (Bs.word f 1), .int .u64 (Bs.word f 2), .int .u64 (Bs.word f 3), .slice a n cap] 28) = W at *
  generalize w2.heap.size = b at *
  refine ST.out.mono ?_
  rintro e w3 ⟨a1, cap1, rfl, R1, hb⟩
  replace A := Bs.below_up A hb
  replace N := N.up hb
  replace X := X.up hb
  clear hb ST c0 c1 c2 c3 c4 c5
  by_cases hc : cc = 0
  · obtain ⟨_, hmay⟩ := H1.out hc
    have HS := Lib.hid (Px.setsOf_yes hmay)
    have hw := Rx.may_iff.1 hmay
    have hle := Rx.sets_le y
    have RS := Lib.hid (refSets_any 400 y hw.2.2 (by omega) hw.1 _ _ X)
    have hsz := hw.2.2
    rw [HS.out] at R1 ⊢
    obtain ⟨fs, hfs⟩ : ∃ fs, Rx.sets y = fs := ⟨_, rfl⟩
    rw [hfs] at R1 RS hle ⊢
    clear hfs HS hmay hw H1 H2
    subst hc
    have c0 := N.cell.c0; have c1 := N.cell.c1; have c2 := N.cell.c2; have c3 := N.cell.c3; have c4 := N.cell.c4; have c5 := N.cell.c5
    simp only [Nat.zero_add] at c0 c1 c2 c3 c4 c5
    have R1 := Lib.hid R1
    go_wp2_with fail
    refine RS.out.mono ?_
    rintro e w4 ⟨rv, rfl, O, hb⟩
    replace A := Bs.below_up A hb
    have R1 := Lib.hid (R1.out.up hb)
    obtain ⟨a2, cap2, rfl, R2⟩ := O.slice
    have R2 := Lib.hid R2
    clear c0 c1 c2 c3 c4 c5 RS hb O N X
    obtain ⟨m, hm2⟩ : ∃ m, fs.length = m := ⟨_, rfl⟩
    have HM := Lib.hid hm2
    rw [hm2] at hle ⊢
    clear hm2
    go_wp2_with fail
    go_loopw [7] (fun i wr => ∃ q : Nat, q ≤ m ∧ i = .int .i64 q ∧ Bs.Row wr a1 fs ∧ Bs.Row wr a2 fs ∧ Below w.heap.size w wr) (fun i _ => m - (intOf i).toNat)
    case atStart => exact ⟨0, by omega, rfl, R1.out, R2.out, A⟩
    case round =>
      clear R1 R2 A
      obtain ⟨q, hq, rfl, R1, R2, A⟩ := hrel
      by_cases hlt : q < m
      · have hlt' : q < fs.length := by rw [HM.out]; exact hlt
        obtain ⟨p1, rfl, x0, x1, x2, x3⟩ := R1 q hlt'
        obtain ⟨p2, rfl, z0, z1, z2, z3⟩ := R2 q hlt'
        have HR1 := Lib.hid R1
        have HR2 := Lib.hid R2
        have HA := Lib.hid A
        have Q := fun w => Bs.eq_run fs[q] fs[q] w
        simp only [Bs.same_refl] at Q
        clear R1 R2 A
        generalize fs[q] = g at *
        go_wp2_with fail
        go_quiet (fail)
        go_wp2_with fail
        exact ⟨⟨q + 1, by omega, by go_num, HR1.out.up (Sr.below_drewN _ _), HR2.out.up (Sr.below_drewN _ _), Bs.below_up HA.out (Sr.below_drewN _ _)⟩, by simp [intOf]; omega⟩
      · go_wp2_with fail
        go_ret
        exact ⟨rfl, A⟩
  · have hy := H2.out hc
    subst hy
    rw [Px.setsOf_nil] at *
    have ec : (cc == 0) = false := by simpa using hc
    clear H1 H2
    go_wp2_with fail
    go_ret
    exact ⟨rfl, A⟩
end Go.Proofs.Ytlobfmkaamgfeaa
