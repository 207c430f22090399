/- The law NfaBuilds, walked. -/
import Derived.Test.YtnbbepgjpfhjdaaG30
import Derived.Test.YtnbbepgjpfhjdaaG6
namespace Go.Proofs.Ytnbbepgjpfhjdaa
set_option linter.unusedVariables false
set_option linter.unusedSimpArgs false
open Go.RowKit
theorem Nr.only (P : Nat → Nat → Prop) (k : Nat) (p : Nat) : (∃ k' : Nat, (k : Int) = k' ∧ P k' p) ↔ P k p :=
  ⟨fun ⟨k', e, h⟩ => by
    have : k = k' := by omega
    rw [this]
    exact h, fun h => ⟨k, rfl, h⟩⟩
set_option maxRecDepth 100000 in
set_option maxHeartbeats 4000000 in
theorem nfaBuildsLaw_any (l : List Rx) (hln : l.length ≤ maxLen) (al : Option Addr) (cap : Nat) (w : World) (hl : Rx.InL w l al 0) (i : Int) : Calls Try.prog 3 #[.slice al l.length cap, .int .i64 i] w (Bs.BPost w true) := by
  obtain ⟨n, hn⟩ : ∃ n, l.length = n := ⟨_, rfl⟩
  have HN := Lib.hid hn
  have HLN := Lib.hid hln
  have HL := Lib.hid hl
  rw [hn] at hln ⊢
  clear hn hl
  have AL := Lib.hid (alive7_any w)
  go_enter Try.func3, Try.ntmps3
  go_wp2_with fail
  refine AL.out.mono ?_
  rintro e w1 ⟨rfl, A⟩
  replace HL := Lib.hid (HL.out.up A)
  have G := Lib.hid (great_any l HLN.out al cap w1 HL.out)
  rw [HN.out] at G
  clear AL
  go_wp2_with fail
  refine G.out.mono ?_
  rintro e w2 ⟨rfl, b1⟩
  replace A := Bs.below_up A b1
  replace HL := Lib.hid (HL.out.up b1)
  clear G b1
  cases hg : Ng.great l
  case true =>
    clear hg
    go_wp2_with fail
    go_ret
    exact ⟨rfl, A⟩
  case false =>
    have hl40 : n ≤ 40 := by rw [← HN.out]; exact Nr.great_len hg
    have HL10 := Lib.hid (show l.length ≤ 1000 by rw [HN.out]; omega)
    clear hg
    have C := Lib.hid (build_any l HL10.out al cap w2 HL.out)
    rw [HN.out] at C
    go_wp2_with fail
    refine C.out.mono ?_
    rintro e w3 hpo
    by_cases hcd : Ng.code l = 0
    · obtain ⟨r, rfl, MC, b1⟩ := Ng.build_yes hpo hcd
      replace A := Bs.below_up A b1
      replace HL := Lib.hid (HL.out.up b1)
      have HM1 := Lib.hid MC
      have RB := Lib.hid (refBuild_any l HL10.out al cap w3 HL.out)
      rw [HN.out] at RB
      clear C hpo MC b1
      go_wp2_with fail
      refine RB.out.mono ?_
      rintro e w4 hpo
      obtain ⟨r2, vS, vA, v2, v3, As, Ls, so, sr, rfl, MC2, b1⟩ := Nr.build_yes hpo hcd
      replace A := Bs.below_up A b1
      replace HM1 := Lib.hid (HM1.out.up b1)
      have HLO := Lib.hid (show Nf.onesL l ≤ 2000 by
        have := (Ng.fits_of hcd).sz
        have h9 := Nh.onesL_take l l.length
        rw [List.take_length] at h9
        omega)
      have HLL := Lib.hid (show l.length ≤ 1000 from HL10.out)
      clear RB hpo b1 HL
      obtain ⟨aS, cS, hvS, hbr⟩ := MC2.os.slice
      obtain ⟨nS, hnS⟩ : ∃ nS, (Rx.setsL l).length = nS := ⟨_, rfl⟩
      have HNS := Lib.hid (show Nf.onesL l = nS by rw [← Nf.setsL_len]; exact hnS)
      rw [hnS] at hvS
      subst hvS
      have HBR := Lib.hid hbr
      have hnS2 : nS ≤ 2000 := by have := HLO.out; have := HNS.out; omega
      have HM2 := Lib.hid MC2
      clear hbr hnS MC2
      obtain ⟨g1, g2, g3, rfl⟩ := HM2.out.r2.form
      obtain ⟨j1, j2, j3, rfl⟩ := HM2.out.r3.form
      go_upto_region 9 with fail
      refine Rg.regionU (by kernel_rfl) 115 (by kernel_rfl) (by kernel_rfl) (by decide) (by exact Nat.le_refl 115) (Rg.rel [fun v _ => v = .int .i64 0, fun v _ => v = .bool false, fun v _ => v = .bool false, fun v _ => v = .pointer (some ⟨r, 0, none⟩), fun v _ => v = .bool false, fun v _ => v = .bool false, fun v _ => v = .bool false, fun v _ => v = .pointer (some ⟨r, 0, none⟩), fun v _ => v = .int .i64 nS, fun v _ => v = .pointer (some ⟨r2, 0, none⟩), fun v _ => v = .pointer (some ⟨r2, 0, none⟩), fun v _ => v = .pointer (some ⟨r2, 0, none⟩), fun v _ => v = .slice aS nS cS, fun v _ => v = .int .i64 nS, fun v _ => v = .bool false, fun v _ => v = .bool false, fun v _ => v = .bool false, fun v _ => v = .pointer (some ⟨r, 0, none⟩), fun v u => Nr.SP2 (v) (u) (fun p => ∃ r, Nf.rfst l r p) (Nf.remp l), fun v _ => v = .pointer (some ⟨r2, 0, none⟩), fun v _ => v = .pointer (some ⟨r2, 0, none⟩), fun v _ => v = .pointer (some ⟨r2, 2, none⟩), fun v u => Nr.SP2 (v) (u) (fun p => ∃ r, Nf.rfst l r p) (Nf.remp l), fun v _ => v = .bool true, fun v _ => v = .bool false]) (fun u => Below w4.heap.size w4 u) (fun w w' => Below w.heap.size w w') (fun i v wa wb h _ hb => Rg.rel_up (show Rg.Ups [fun v _ => v = .int .i64 0, fun v _ => v = .bool false, fun v _ => v = .bool false, fun v _ => v = .pointer (some ⟨r, 0, none⟩), fun v _ => v = .bool false, fun v _ => v = .bool false, fun v _ => v = .bool false, fun v _ => v = .pointer (some ⟨r, 0, none⟩), fun v _ => v = .int .i64 nS, fun v _ => v = .pointer (some ⟨r2, 0, none⟩), fun v _ => v = .pointer (some ⟨r2, 0, none⟩), fun v _ => v = .pointer (some ⟨r2, 0, none⟩), fun v _ => v = .slice aS nS cS, fun v _ => v = .int .i64 nS, fun v _ => v = .bool false, fun v _ => v = .bool false, fun v _ => v = .bool false, fun v _ => v = .pointer (some ⟨r, 0, none⟩), fun v u => Nr.SP2 (v) (u) (fun p => ∃ r, Nf.rfst l r p) (Nf.remp l), fun v _ => v = .pointer (some ⟨r2, 0, none⟩), fun v _ => v = .pointer (some ⟨r2, 0, none⟩), fun v _ => v = .pointer (some ⟨r2, 2, none⟩), fun v u => Nr.SP2 (v) (u) (fun p => ∃ r, Nf.rfst l r p) (Nf.remp l), fun v _ => v = .bool true, fun v _ => v = .bool false] from ⟨fun v w w' h hb => h, fun v w w' h hb => h, fun v w w' h hb => h, fun v w w' h hb => h, fun v w w' h hb => h, fun v w w' h hb => h, fun v w w' h hb => h, fun v w w' h hb => h, fun v w w' h hb => h, fun v w w' h hb => h, fun v w w' h hb => h, fun v w w' h hb => h, fun v w w' h hb => h, fun v w w' h hb => h, fun v w w' h hb => h, fun v w w' h hb => h, fun v w w' h hb => h, fun v w w' h hb => h, fun v w w' h hb => Nr.SP2.up h hb, fun v w w' h hb => h, fun v w w' h hb => h, fun v w w' h hb => h, fun v w w' h hb => Nr.SP2.up h hb, fun v w w' h hb => h, fun v w w' h hb => h, trivial⟩) h hb) (Below.refl _ _).drew (Rg.guards [(2, false), (6, false), (16, false)] (by kernel_rfl) (fun p hp v w h => by
        simp only [List.mem_cons, List.not_mem_nil, or_false] at hp
        rcases hp with rfl | rfl | rfl <;> exact h)) ⟨?_, ?_, ?_, ?_, ?_, ?_, ?_, ?_, ?_, ?_, ?_, ?_, ?_, ?_, ?_, ?_, ?_, ?_, ?_, ?_, ?_, ?_, ?_, ?_, ?_, trivial⟩ ?_
      · intro fv u hw hd
        have HW := Lib.hid hw
        clear hw hd
        simp only [Rg.step, Rg.all, Act.put, List.setIfInBounds_toArray, List.set_cons_zero, List.set_cons_succ]
        go_simp
        exact ⟨rfl, HW.out, Below.refl _ _⟩
      · intro fv u hw hd
        have r0 : fv 0 = .int .i64 0 := hd _ (List.mem_cons_self ..)
        have HW := Lib.hid hw
        clear hw hd
        simp only [Rg.step, Rg.all, Act.put, List.setIfInBounds_toArray, List.set_cons_zero, List.set_cons_succ]
        go_simp
        exact ⟨rfl, HW.out, Below.refl _ _⟩
      · intro fv u hw hd
        have r1 : fv 1 = .bool false := hd _ (List.mem_cons_self ..)
        have HW := Lib.hid hw
        clear hw hd
        simp only [Rg.step, Rg.all, Act.put, List.setIfInBounds_toArray, List.set_cons_zero, List.set_cons_succ]
        go_simp
        exact ⟨rfl, HW.out, Below.refl _ _⟩
      · intro fv u hw hd
        have HW := Lib.hid hw
        clear hw hd
        simp only [Rg.step, Rg.all, Act.put, List.setIfInBounds_toArray, List.set_cons_zero, List.set_cons_succ]
        go_simp
        exact ⟨rfl, HW.out, Below.refl _ _⟩
      · intro fv u hw hd
        have r3 : fv 3 = .pointer (some ⟨r, 0, none⟩) := hd _ (List.mem_cons_self ..)
        have HW := Lib.hid hw
        clear hw hd
        simp only [Rg.step, Rg.all, Act.put, List.setIfInBounds_toArray, List.set_cons_zero, List.set_cons_succ]
        go_simp
        exact ⟨rfl, HW.out, Below.refl _ _⟩
      · intro fv u hw hd
        have r2 : fv 2 = .bool false := hd _ (List.mem_cons_self ..)
        have r4 : fv 4 = .bool false := hd _ (List.mem_cons_of_mem _ (List.mem_cons_self ..))
        have HW := Lib.hid hw
        clear hw hd
        simp only [Rg.step, Rg.all, Act.put, List.setIfInBounds_toArray, List.set_cons_zero, List.set_cons_succ]
        go_simp
        exact ⟨rfl, HW.out, Below.refl _ _⟩
      · intro fv u hw hd
        have r5 : fv 5 = .bool false := hd _ (List.mem_cons_self ..)
        have HW := Lib.hid hw
        clear hw hd
        simp only [Rg.step, Rg.all, Act.put, List.setIfInBounds_toArray, List.set_cons_zero, List.set_cons_succ]
        go_simp
        exact ⟨rfl, HW.out, Below.refl _ _⟩
      · intro fv u hw hd
        have HW := Lib.hid hw
        clear hw hd
        simp only [Rg.step, Rg.all, Act.put, List.setIfInBounds_toArray, List.set_cons_zero, List.set_cons_succ]
        go_simp
        exact ⟨rfl, HW.out, Below.refl _ _⟩
      · intro fv u hw hd
        have r7 : fv 7 = .pointer (some ⟨r, 0, none⟩) := hd _ (List.mem_cons_self ..)
        have C := Lib.hid (ones_any u _ r l (HM1.out.up hw))
        rw [HNS.out] at C
        have HW := Lib.hid hw
        clear hw hd
        simp only [Rg.step, Rg.all, Act.put, List.setIfInBounds_toArray, List.set_cons_zero, List.set_cons_succ]
        go_simp
        refine C.out.mono ?_
        rintro e u1 ⟨rfl, rfl⟩
        exact ⟨_, rfl, rfl, HW.out, Below.refl _ _⟩
      · intro fv u hw hd
        have HW := Lib.hid hw
        clear hw hd
        simp only [Rg.step, Rg.all, Act.put, List.setIfInBounds_toArray, List.set_cons_zero, List.set_cons_succ]
        go_simp
        exact ⟨rfl, HW.out, Below.refl _ _⟩
      · intro fv u hw hd
        have r9 : fv 9 = .pointer (some ⟨r2, 0, none⟩) := hd _ (List.mem_cons_self ..)
        have HW := Lib.hid hw
        clear hw hd
        simp only [Rg.step, Rg.all, Act.put, List.setIfInBounds_toArray, List.set_cons_zero, List.set_cons_succ]
        go_simp
        exact ⟨rfl, HW.out, Below.refl _ _⟩
      · intro fv u hw hd
        have r10 : fv 10 = .pointer (some ⟨r2, 0, none⟩) := hd _ (List.mem_cons_self ..)
        have HW := Lib.hid hw
        clear hw hd
        simp only [Rg.step, Rg.all, Act.put, List.setIfInBounds_toArray, List.set_cons_zero, List.set_cons_succ]
        go_simp
        exact ⟨rfl, HW.out, Below.refl _ _⟩
      · intro fv u hw hd
        have r11 : fv 11 = .pointer (some ⟨r2, 0, none⟩) := hd _ (List.mem_cons_self ..)
        have c0 := (HM2.out.up hw).c0
        have HW := Lib.hid hw
        clear hw hd
        simp only [Rg.step, Rg.all, Act.put, List.setIfInBounds_toArray, List.set_cons_zero, List.set_cons_succ]
        go_simp
        exact ⟨rfl, HW.out, Below.refl _ _⟩
      · intro fv u hw hd
        have r12 : fv 12 = .slice aS nS cS := hd _ (List.mem_cons_self ..)
        have HW := Lib.hid hw
        clear hw hd
        simp only [Rg.step, Rg.all, Act.put, List.setIfInBounds_toArray, List.set_cons_zero, List.set_cons_succ]
        go_simp
        exact ⟨rfl, HW.out, Below.refl _ _⟩
      · intro fv u hw hd
        have r8 : fv 8 = .int .i64 nS := hd _ (List.mem_cons_self ..)
        have r13 : fv 13 = .int .i64 nS := hd _ (List.mem_cons_of_mem _ (List.mem_cons_self ..))
        have HW := Lib.hid hw
        clear hw hd
        simp only [Rg.step, Rg.all, Act.put, List.setIfInBounds_toArray, List.set_cons_zero, List.set_cons_succ]
        go_simp
        exact ⟨rfl, HW.out, Below.refl _ _⟩
      · intro fv u hw hd
        have r6 : fv 6 = .bool false := hd _ (List.mem_cons_self ..)
        have r14 : fv 14 = .bool false := hd _ (List.mem_cons_of_mem _ (List.mem_cons_self ..))
        have HW := Lib.hid hw
        clear hw hd
        simp only [Rg.step, Rg.all, Act.put, List.setIfInBounds_toArray, List.set_cons_zero, List.set_cons_succ]
        go_simp
        exact ⟨rfl, HW.out, Below.refl _ _⟩
      · intro fv u hw hd
        have r15 : fv 15 = .bool false := hd _ (List.mem_cons_self ..)
        have HW := Lib.hid hw
        clear hw hd
        simp only [Rg.step, Rg.all, Act.put, List.setIfInBounds_toArray, List.set_cons_zero, List.set_cons_succ]
        go_simp
        exact ⟨rfl, HW.out, Below.refl _ _⟩
      · intro fv u hw hd
        have HW := Lib.hid hw
        clear hw hd
        simp only [Rg.step, Rg.all, Act.put, List.setIfInBounds_toArray, List.set_cons_zero, List.set_cons_succ]
        go_simp
        exact ⟨rfl, HW.out, Below.refl _ _⟩
      · intro fv u hw hd
        have r17 : fv 17 = .pointer (some ⟨r, 0, none⟩) := hd _ (List.mem_cons_self ..)
        have C := Lib.hid (start_any u _ r l (HM1.out.up hw) (fun _ => True) (fun _ _ => trivial))
        have HW := Lib.hid hw
        clear hw hd
        simp only [Rg.step, Rg.all, Act.put, List.setIfInBounds_toArray, List.set_cons_zero, List.set_cons_succ]
        go_simp
        refine C.out.mono ?_
        rintro e u1 ⟨os, rs, ⟨v3, v4, rfl, R3, R4, b3⟩, h6, h7⟩
        exact ⟨_, rfl, ⟨v3, v4, os, rs, rfl, R3, R4, h6, h7⟩, Bs.below_up HW.out b3, b3⟩
      · intro fv u hw hd
        have HW := Lib.hid hw
        clear hw hd
        simp only [Rg.step, Rg.all, Act.put, List.setIfInBounds_toArray, List.set_cons_zero, List.set_cons_succ]
        go_simp
        exact ⟨rfl, HW.out, Below.refl _ _⟩
      · intro fv u hw hd
        have r19 : fv 19 = .pointer (some ⟨r2, 0, none⟩) := hd _ (List.mem_cons_self ..)
        have HW := Lib.hid hw
        clear hw hd
        simp only [Rg.step, Rg.all, Act.put, List.setIfInBounds_toArray, List.set_cons_zero, List.set_cons_succ]
        go_simp
        exact ⟨rfl, HW.out, Below.refl _ _⟩
      · intro fv u hw hd
        have r20 : fv 20 = .pointer (some ⟨r2, 0, none⟩) := hd _ (List.mem_cons_self ..)
        have HW := Lib.hid hw
        clear hw hd
        simp only [Rg.step, Rg.all, Act.put, List.setIfInBounds_toArray, List.set_cons_zero, List.set_cons_succ]
        go_simp
        exact ⟨rfl, HW.out, Below.refl _ _⟩
      · intro fv u hw hd
        have r21 : fv 21 = .pointer (some ⟨r2, 2, none⟩) := hd _ (List.mem_cons_self ..)
        have c2 := (HM2.out.up hw).c2
        have c3 := (HM2.out.up hw).c3
        have HR2 := Lib.hid (HM2.out.up hw).r2
        have HR3 := Lib.hid (HM2.out.up hw).r3
        have HW := Lib.hid hw
        clear hw hd
        simp only [Rg.step, Rg.all, Act.put, List.setIfInBounds_toArray, List.set_cons_zero, List.set_cons_succ]
        go_simp
        exact ⟨⟨_, _, so, sr, rfl, HR2.out, HR3.out, HM2.out.sp.so, HM2.out.sp.sr⟩, HW.out, Below.refl _ _⟩
      · intro fv u hw hd
        have r18 : Nr.SP2 ((fv 18)) (u) (fun p => ∃ r, Nf.rfst l r p) (Nf.remp l) := hd _ (List.mem_cons_self ..)
        have r22 : Nr.SP2 ((fv 22)) (u) (fun p => ∃ r, Nf.rfst l r p) (Nf.remp l) := hd _ (List.mem_cons_of_mem _ (List.mem_cons_self ..))
        obtain ⟨x1, y1, os1, rs1, e1, q1, q2, q3, q4⟩ := r18
        obtain ⟨x2, y2, os2, rs2, e2, q5, q6, q7, q8⟩ := r22
        have e3 := Nf.rise_eq q7 q3
        have e4 := Nf.rise_eq q8 q4
        subst e3
        subst e4
        have g1 : os2.length ≤ 1000000 := by have := Nr.row_len q3 (m := 2000) (fun p h => by obtain ⟨k', h⟩ := h; have := (Ng.rfst_lt _ _ _ h).2; have := HLO.out; omega); omega
        have g2 : rs2.length ≤ 1000000 := by have := Nr.row_len q4 (m := 1000) (fun p h => by have := Ng.remp_lt _ _ h; have := HLL.out; omega); omega
        have C := Lib.hid (refSameF_any os2 rs2 x1 y1 x2 y2 u q1 q2 q5 q6 g1 g2)
        obtain ⟨i1', i2', i3', rfl⟩ := q1.form
        obtain ⟨i4', i5', i6', rfl⟩ := q2.form
        obtain ⟨i7', i8', i9', rfl⟩ := q5.form
        obtain ⟨j1', j2', j3', rfl⟩ := q6.form
        clear q1 q2 q3 q4 q5 q6 q7 q8 g1 g2
        have HW := Lib.hid hw
        clear hw hd
        simp only [Rg.step, Rg.all, Act.put, List.setIfInBounds_toArray, List.set_cons_zero, List.set_cons_succ]
        go_simp
        refine C.out.mono ?_
        rintro e u1 ⟨rfl, b3⟩
        exact ⟨_, rfl, rfl, Bs.below_up HW.out b3, b3⟩
      · intro fv u hw hd
        have r23 : fv 23 = .bool true := hd _ (List.mem_cons_self ..)
        have HW := Lib.hid hw
        clear hw hd
        simp only [Rg.step, Rg.all, Act.put, List.setIfInBounds_toArray, List.set_cons_zero, List.set_cons_succ]
        go_simp
        exact ⟨rfl, HW.out, Below.refl _ _⟩
      · intro fv u hw hR o ho
        have r16 : fv 16 = .bool false := hR 16 (by decide)
        have r24 : fv 24 = .bool false := hR 24 (by decide)
        simp at ho
        subst ho
        have HW := Lib.hid hw
        clear hw hR
        simp only [Rg.step, Rg.all, Act.put, List.setIfInBounds_toArray, List.set_cons_zero, List.set_cons_succ]
        generalize fv 0 = t0 at *
        generalize fv 1 = t1 at *
        generalize fv 2 = t2 at *
        generalize fv 3 = t3 at *
        generalize fv 4 = t4 at *
        generalize fv 5 = t5 at *
        generalize fv 6 = t6 at *
        generalize fv 7 = t7 at *
        generalize fv 8 = t8 at *
        generalize fv 9 = t9 at *
        generalize fv 10 = t10 at *
        generalize fv 11 = t11 at *
        generalize fv 12 = t12 at *
        generalize fv 13 = t13 at *
        generalize fv 14 = t14 at *
        generalize fv 15 = t15 at *
        generalize fv 17 = t17 at *
        generalize fv 18 = t18 at *
        generalize fv 19 = t19 at *
        generalize fv 20 = t20 at *
        generalize fv 21 = t21 at *
        generalize fv 22 = t22 at *
        generalize fv 23 = t23 at *
        go_simp
        go_wp2_with fail
        replace HM1 := Lib.hid (HM1.out.up HW.out)
        replace HM2 := Lib.hid (HM2.out.up HW.out)
        replace HBR := Lib.hid (HBR.out.up HW.out)
        replace A := Bs.below_up A HW.out
        go_loopw [9] (fun i wr => ∃ k : Nat, k ≤ nS ∧ i = .int .i64 k ∧ Hid (Below u.heap.size u wr)) (fun i _ => nS - (intOf i).toNat)
        case atStart => exact ⟨0, by omega, rfl, Lib.hid (Below.refl _ _)⟩
        case round =>
          obtain ⟨k, hk, rfl, HBW⟩ := hrel
          replace HM1 := Lib.hid (HM1.out.up HBW.out)
          replace HM2 := Lib.hid (HM2.out.up HBW.out)
          have c0 := HM2.out.c0
          by_cases hkl : k < nS
          · have hks : k < (Rx.setsL l).length := by rw [Nf.setsL_len, HNS.out]; exact hkl
            obtain ⟨pS, rfl, q0, q1, q2, q3⟩ := Nr.row_set (HBR.out.up HBW.out) k hks
            have hsa : Ng.setAt l k = (Rx.setsL l)[k] := by unfold Ng.setAt; rw [if_pos (by omega), Int.toNat_natCast, List.getD_eq_getElem?_getD, List.getElem?_eq_getElem hks]; rfl
            rw [← hsa] at q0 q1 q2 q3
            have Q0 := Lib.hid q0; have Q1 := Lib.hid q1; have Q2 := Lib.hid q2; have Q3 := Lib.hid q3
            have hkL : k < Ls.length := by rw [HM2.out.sp.len, HNS.out]; exact hkl
            have hka : k < As.length := by rw [HM2.out.la]; exact hkL
            obtain ⟨hR1, hR2⟩ := HM2.out.ra k hka hkL
            obtain ⟨hA1, hA2⟩ := HM2.out.sp.af k hkL
            obtain ⟨aA, nA, cA, rfl⟩ : ∃ a n c, vA = .slice a n c := by
              rcases HM2.out.oa.2 with ⟨e, _⟩ | ⟨g, c, cur, e, _⟩
              · exact ⟨_, _, _, e⟩
              · exact ⟨_, _, _, e⟩
            obtain ⟨pA, rfl, hq0, hq1, hnA⟩ := Nr.front_cells HM2.out.oa k hka
            obtain ⟨b1, b2, b3, e1⟩ := hR1.form
            obtain ⟨d1, d2, d3, e2⟩ := hR2.form
            rw [e1] at hR1 hq0
            rw [e2] at hR2 hq1
            have HF1 := Lib.hid hR1; have HF2 := Lib.hid hR2
            have HA0 := Lib.hid hq0; have HA1 := Lib.hid hq1
            have HY1 := Lib.hid hA1; have HY2 := Lib.hid hA2
            have i1 : (0 : Int) ≤ (k : Int) := by omega
            have i2 : (k : Int) < (nS : Int) := by omega
            have i3 : (k : Int) < (nA : Int) := by omega
            clear q0 q1 q2 q3 hsa hR1 hR2 hA1 hA2 e1 e2 hq0 hq1 hnA
            go_upto_region 14 with fail
            clear c0
            refine Rg.regionU (by kernel_rfl) 115 (by kernel_rfl) (by kernel_rfl) (by decide) (by exact Nat.le_refl 115) (Rg.rel [fun v _ => v = .pointer (some ⟨r, 0, none⟩), fun v _ => v = .int .i64 k, fun v _ => v = Bs.val (Ng.setAt l k), fun v _ => v = .pointer (some ⟨r2, 0, none⟩), fun v _ => v = .pointer (some ⟨r2, 0, none⟩), fun v _ => v = .pointer (some ⟨r2, 0, none⟩), fun v _ => v = .slice (some pS) nS cS, fun v _ => v = .int .i64 k, fun v _ => v = .pointer (some (pS.add (k * 4))), fun v _ => v = Bs.val (Ng.setAt l k), fun v _ => v = .bool false, fun v _ => v = .bool false, fun v _ => v = .pointer (some ⟨r, 0, none⟩), fun v _ => v = .int .i64 k, fun v u => Nr.SP2 (v) (u) (fun p => Nf.folA l k p) (fun q => Nf.rlst l q k), fun v _ => v = .pointer (some ⟨r2, 0, none⟩), fun v _ => v = .pointer (some ⟨r2, 0, none⟩), fun v _ => v = .pointer (some ⟨r2, 1, none⟩), fun v _ => v = .slice (some pA) nA cA, fun v _ => v = .int .i64 k, fun v _ => v = .pointer (some (pA.add (k * 2))), fun v u => Nr.SP2 (v) (u) (fun p => Nf.folA l k p) (fun q => Nf.rlst l q k), fun v _ => v = .bool true, fun v _ => v = .bool false]) (fun u => Below wr.heap.size wr u) (fun w w' => Below w.heap.size w w') (fun i v wa wb h _ hb => Rg.rel_up (show Rg.Ups [fun v _ => v = .pointer (some ⟨r, 0, none⟩), fun v _ => v = .int .i64 k, fun v _ => v = Bs.val (Ng.setAt l k), fun v _ => v = .pointer (some ⟨r2, 0, none⟩), fun v _ => v = .pointer (some ⟨r2, 0, none⟩), fun v _ => v = .pointer (some ⟨r2, 0, none⟩), fun v _ => v = .slice (some pS) nS cS, fun v _ => v = .int .i64 k, fun v _ => v = .pointer (some (pS.add (k * 4))), fun v _ => v = Bs.val (Ng.setAt l k), fun v _ => v = .bool false, fun v _ => v = .bool false, fun v _ => v = .pointer (some ⟨r, 0, none⟩), fun v _ => v = .int .i64 k, fun v u => Nr.SP2 (v) (u) (fun p => Nf.folA l k p) (fun q => Nf.rlst l q k), fun v _ => v = .pointer (some ⟨r2, 0, none⟩), fun v _ => v = .pointer (some ⟨r2, 0, none⟩), fun v _ => v = .pointer (some ⟨r2, 1, none⟩), fun v _ => v = .slice (some pA) nA cA, fun v _ => v = .int .i64 k, fun v _ => v = .pointer (some (pA.add (k * 2))), fun v u => Nr.SP2 (v) (u) (fun p => Nf.folA l k p) (fun q => Nf.rlst l q k), fun v _ => v = .bool true, fun v _ => v = .bool false] from ⟨fun v w w' h hb => h, fun v w w' h hb => h, fun v w w' h hb => h, fun v w w' h hb => h, fun v w w' h hb => h, fun v w w' h hb => h, fun v w w' h hb => h, fun v w w' h hb => h, fun v w w' h hb => h, fun v w w' h hb => h, fun v w w' h hb => h, fun v w w' h hb => h, fun v w w' h hb => h, fun v w w' h hb => h, fun v w w' h hb => Nr.SP2.up h hb, fun v w w' h hb => h, fun v w w' h hb => h, fun v w w' h hb => h, fun v w w' h hb => h, fun v w w' h hb => h, fun v w w' h hb => h, fun v w w' h hb => Nr.SP2.up h hb, fun v w w' h hb => h, fun v w w' h hb => h, trivial⟩) h hb) (Below.refl _ _).drew (Rg.guards [(11, false)] (by kernel_rfl) (fun p hp v w h => by rw [List.mem_singleton.1 hp] at h ⊢; exact h)) ⟨?_, ?_, ?_, ?_, ?_, ?_, ?_, ?_, ?_, ?_, ?_, ?_, ?_, ?_, ?_, ?_, ?_, ?_, ?_, ?_, ?_, ?_, ?_, ?_, trivial⟩ ?_
            · intro fv u hw hd
              have HW := Lib.hid hw
              clear hw hd
              simp only [Rg.step, Rg.all, Act.put, List.setIfInBounds_toArray, List.set_cons_zero, List.set_cons_succ]
              go_simp
              exact ⟨rfl, HW.out, Below.refl _ _⟩
            · intro fv u hw hd
              have HW := Lib.hid hw
              clear hw hd
              simp only [Rg.step, Rg.all, Act.put, List.setIfInBounds_toArray, List.set_cons_zero, List.set_cons_succ]
              go_simp
              exact ⟨rfl, HW.out, Below.refl _ _⟩
            · intro fv u hw hd
              have r0 : fv 0 = .pointer (some ⟨r, 0, none⟩) := hd _ (List.mem_cons_self ..)
              have r1 : fv 1 = .int .i64 k := hd _ (List.mem_cons_of_mem _ (List.mem_cons_self ..))
              have C := Lib.hid (set_any u _ r l (HM1.out.up hw) k)
              have HW := Lib.hid hw
              clear hw hd
              simp only [Rg.step, Rg.all, Act.put, List.setIfInBounds_toArray, List.set_cons_zero, List.set_cons_succ]
              go_simp
              refine C.out.mono ?_
              rintro e u1 ⟨rfl, b3⟩
              exact ⟨_, rfl, rfl, Bs.below_up HW.out b3, b3⟩
            · intro fv u hw hd
              have HW := Lib.hid hw
              clear hw hd
              simp only [Rg.step, Rg.all, Act.put, List.setIfInBounds_toArray, List.set_cons_zero, List.set_cons_succ]
              go_simp
              exact ⟨rfl, HW.out, Below.refl _ _⟩
            · intro fv u hw hd
              have r3 : fv 3 = .pointer (some ⟨r2, 0, none⟩) := hd _ (List.mem_cons_self ..)
              have HW := Lib.hid hw
              clear hw hd
              simp only [Rg.step, Rg.all, Act.put, List.setIfInBounds_toArray, List.set_cons_zero, List.set_cons_succ]
              go_simp
              exact ⟨rfl, HW.out, Below.refl _ _⟩
            · intro fv u hw hd
              have r4 : fv 4 = .pointer (some ⟨r2, 0, none⟩) := hd _ (List.mem_cons_self ..)
              have HW := Lib.hid hw
              clear hw hd
              simp only [Rg.step, Rg.all, Act.put, List.setIfInBounds_toArray, List.set_cons_zero, List.set_cons_succ]
              go_simp
              exact ⟨rfl, HW.out, Below.refl _ _⟩
            · intro fv u hw hd
              have r5 : fv 5 = .pointer (some ⟨r2, 0, none⟩) := hd _ (List.mem_cons_self ..)
              have c0 := (HM2.out.up hw).c0
              have HW := Lib.hid hw
              clear hw hd
              simp only [Rg.step, Rg.all, Act.put, List.setIfInBounds_toArray, List.set_cons_zero, List.set_cons_succ]
              go_simp
              exact ⟨rfl, HW.out, Below.refl _ _⟩
            · intro fv u hw hd
              have HW := Lib.hid hw
              clear hw hd
              simp only [Rg.step, Rg.all, Act.put, List.setIfInBounds_toArray, List.set_cons_zero, List.set_cons_succ]
              go_simp
              exact ⟨rfl, HW.out, Below.refl _ _⟩
            · intro fv u hw hd
              have r6 : fv 6 = .slice (some pS) nS cS := hd _ (List.mem_cons_self ..)
              have r7 : fv 7 = .int .i64 k := hd _ (List.mem_cons_of_mem _ (List.mem_cons_self ..))
              have HW := Lib.hid hw
              clear hw hd
              simp only [Rg.step, Rg.all, Act.put, List.setIfInBounds_toArray, List.set_cons_zero, List.set_cons_succ]
              go_simp
              exact ⟨rfl, HW.out, Below.refl _ _⟩
            · intro fv u hw hd
              have r8 : fv 8 = .pointer (some (pS.add (k * 4))) := hd _ (List.mem_cons_self ..)
              have x0 := Bs.cell_up hw Q0.out; have x1 := Bs.cell_up hw Q1.out; have x2 := Bs.cell_up hw Q2.out; have x3 := Bs.cell_up hw Q3.out
              have HW := Lib.hid hw
              clear hw hd
              simp only [Rg.step, Rg.all, Act.put, List.setIfInBounds_toArray, List.set_cons_zero, List.set_cons_succ]
              go_simp
              exact ⟨rfl, HW.out, Below.refl _ _⟩
            · intro fv u hw hd
              have r2 : fv 2 = Bs.val (Ng.setAt l k) := hd _ (List.mem_cons_self ..)
              have r9 : fv 9 = Bs.val (Ng.setAt l k) := hd _ (List.mem_cons_of_mem _ (List.mem_cons_self ..))
              have E := Bs.eq_run (Ng.setAt l k) (Ng.setAt l k) u
              rw [Bs.same_refl] at E
              unfold Bs.val at r2 r9
              have HW := Lib.hid hw
              clear hw hd
              simp only [Rg.step, Rg.all, Act.put, List.setIfInBounds_toArray, List.set_cons_zero, List.set_cons_succ]
              go_simp
              exact ⟨rfl, HW.out, Below.refl _ _⟩
            · intro fv u hw hd
              have r10 : fv 10 = .bool false := hd _ (List.mem_cons_self ..)
              have HW := Lib.hid hw
              clear hw hd
              simp only [Rg.step, Rg.all, Act.put, List.setIfInBounds_toArray, List.set_cons_zero, List.set_cons_succ]
              go_simp
              exact ⟨rfl, HW.out, Below.refl _ _⟩
            · intro fv u hw hd
              have HW := Lib.hid hw
              clear hw hd
              simp only [Rg.step, Rg.all, Act.put, List.setIfInBounds_toArray, List.set_cons_zero, List.set_cons_succ]
              go_simp
              exact ⟨rfl, HW.out, Below.refl _ _⟩
            · intro fv u hw hd
              have HW := Lib.hid hw
              clear hw hd
              simp only [Rg.step, Rg.all, Act.put, List.setIfInBounds_toArray, List.set_cons_zero, List.set_cons_succ]
              go_simp
              exact ⟨rfl, HW.out, Below.refl _ _⟩
            · intro fv u hw hd
              have r12 : fv 12 = .pointer (some ⟨r, 0, none⟩) := hd _ (List.mem_cons_self ..)
              have r13 : fv 13 = .int .i64 k := hd _ (List.mem_cons_of_mem _ (List.mem_cons_self ..))
              have C := Lib.hid (after_any u _ r l (HM1.out.up hw) k (fun _ => True) (fun _ _ => trivial))
              have HW := Lib.hid hw
              clear hw hd
              simp only [Rg.step, Rg.all, Act.put, List.setIfInBounds_toArray, List.set_cons_zero, List.set_cons_succ]
              go_simp
              refine C.out.mono ?_
              rintro e u1 ⟨os, rs, ⟨v3, v4, rfl, R3, R4, b3⟩, h6, h7⟩
              exact ⟨_, rfl, ⟨v3, v4, os, rs, rfl, R3, R4, h6.congr (Nr.only (Nf.folA l) k), h7.congr (Nr.only (fun k q => Nf.rlst l q k) k)⟩, Bs.below_up HW.out b3, b3⟩
            · intro fv u hw hd
              have HW := Lib.hid hw
              clear hw hd
              simp only [Rg.step, Rg.all, Act.put, List.setIfInBounds_toArray, List.set_cons_zero, List.set_cons_succ]
              go_simp
              exact ⟨rfl, HW.out, Below.refl _ _⟩
            · intro fv u hw hd
              have r15 : fv 15 = .pointer (some ⟨r2, 0, none⟩) := hd _ (List.mem_cons_self ..)
              have HW := Lib.hid hw
              clear hw hd
              simp only [Rg.step, Rg.all, Act.put, List.setIfInBounds_toArray, List.set_cons_zero, List.set_cons_succ]
              go_simp
              exact ⟨rfl, HW.out, Below.refl _ _⟩
            · intro fv u hw hd
              have r16 : fv 16 = .pointer (some ⟨r2, 0, none⟩) := hd _ (List.mem_cons_self ..)
              have HW := Lib.hid hw
              clear hw hd
              simp only [Rg.step, Rg.all, Act.put, List.setIfInBounds_toArray, List.set_cons_zero, List.set_cons_succ]
              go_simp
              exact ⟨rfl, HW.out, Below.refl _ _⟩
            · intro fv u hw hd
              have r17 : fv 17 = .pointer (some ⟨r2, 1, none⟩) := hd _ (List.mem_cons_self ..)
              have c1 := (HM2.out.up hw).c1
              have HW := Lib.hid hw
              clear hw hd
              simp only [Rg.step, Rg.all, Act.put, List.setIfInBounds_toArray, List.set_cons_zero, List.set_cons_succ]
              go_simp
              exact ⟨rfl, HW.out, Below.refl _ _⟩
            · intro fv u hw hd
              have HW := Lib.hid hw
              clear hw hd
              simp only [Rg.step, Rg.all, Act.put, List.setIfInBounds_toArray, List.set_cons_zero, List.set_cons_succ]
              go_simp
              exact ⟨rfl, HW.out, Below.refl _ _⟩
            · intro fv u hw hd
              have r18 : fv 18 = .slice (some pA) nA cA := hd _ (List.mem_cons_self ..)
              have r19 : fv 19 = .int .i64 k := hd _ (List.mem_cons_of_mem _ (List.mem_cons_self ..))
              have HW := Lib.hid hw
              clear hw hd
              simp only [Rg.step, Rg.all, Act.put, List.setIfInBounds_toArray, List.set_cons_zero, List.set_cons_succ]
              go_simp
              exact ⟨rfl, HW.out, Below.refl _ _⟩
            · intro fv u hw hd
              have r20 : fv 20 = .pointer (some (pA.add (k * 2))) := hd _ (List.mem_cons_self ..)
              have x0 := Bs.cell_up hw HA0.out; have x1 := Bs.cell_up hw HA1.out
              have HG1 := Lib.hid (HF1.out.up hw)
              have HG2 := Lib.hid (HF2.out.up hw)
              have HW := Lib.hid hw
              clear hw hd
              simp only [Rg.step, Rg.all, Act.put, List.setIfInBounds_toArray, List.set_cons_zero, List.set_cons_succ]
              go_simp
              exact ⟨⟨_, _, _, _, rfl, HG1.out, HG2.out, HY1.out, HY2.out⟩, HW.out, Below.refl _ _⟩
            · intro fv u hw hd
              have r14 : Nr.SP2 ((fv 14)) (u) (fun p => Nf.folA l k p) (fun q => Nf.rlst l q k) := hd _ (List.mem_cons_self ..)
              have r21 : Nr.SP2 ((fv 21)) (u) (fun p => Nf.folA l k p) (fun q => Nf.rlst l q k) := hd _ (List.mem_cons_of_mem _ (List.mem_cons_self ..))
              obtain ⟨x1, y1, os1, rs1, e1, q1, q2, q3, q4⟩ := r14
              obtain ⟨x2, y2, os2, rs2, e2, q5, q6, q7, q8⟩ := r21
              have e3 := Nf.rise_eq q7 q3
              have e4 := Nf.rise_eq q8 q4
              subst e3
              subst e4
              have g1 : os2.length ≤ 1000000 := by have := Nr.row_len q3 (m := 2000) (fun p h => by have := (Nf.folA_lt _ _ _ h).2; have := HLO.out; omega); omega
              have g2 : rs2.length ≤ 1000000 := by have := Nr.row_len q4 (m := 1000) (fun p h => by have := (Ng.rlst_lt _ _ _ h).1; have := HLL.out; omega); omega
              have C := Lib.hid (refSameF_any os2 rs2 x1 y1 x2 y2 u q1 q2 q5 q6 g1 g2)
              obtain ⟨i1', i2', i3', rfl⟩ := q1.form
              obtain ⟨i4', i5', i6', rfl⟩ := q2.form
              obtain ⟨i7', i8', i9', rfl⟩ := q5.form
              obtain ⟨j1', j2', j3', rfl⟩ := q6.form
              clear q1 q2 q3 q4 q5 q6 q7 q8 g1 g2
              have HW := Lib.hid hw
              clear hw hd
              simp only [Rg.step, Rg.all, Act.put, List.setIfInBounds_toArray, List.set_cons_zero, List.set_cons_succ]
              go_simp
              refine C.out.mono ?_
              rintro e u1 ⟨rfl, b3⟩
              exact ⟨_, rfl, rfl, Bs.below_up HW.out b3, b3⟩
            · intro fv u hw hd
              have r22 : fv 22 = .bool true := hd _ (List.mem_cons_self ..)
              have HW := Lib.hid hw
              clear hw hd
              simp only [Rg.step, Rg.all, Act.put, List.setIfInBounds_toArray, List.set_cons_zero, List.set_cons_succ]
              go_simp
              exact ⟨rfl, HW.out, Below.refl _ _⟩
            · intro fv u hw hR o ho
              have r11 : fv 11 = .bool false := hR 11 (by decide)
              have r23 : fv 23 = .bool false := hR 23 (by decide)
              simp at ho
              subst ho
              have HW := Lib.hid hw
              clear hw hR
              simp only [Rg.step, Rg.all, Act.put, List.setIfInBounds_toArray, List.set_cons_zero, List.set_cons_succ]
              generalize fv 0 = t0 at *
              generalize fv 1 = t1 at *
              generalize fv 2 = t2 at *
              generalize fv 3 = t3 at *
              generalize fv 4 = t4 at *
              generalize fv 5 = t5 at *
              generalize fv 6 = t6 at *
              generalize fv 7 = t7 at *
              generalize fv 8 = t8 at *
              generalize fv 9 = t9 at *
              generalize fv 10 = t10 at *
              generalize fv 12 = t12 at *
              generalize fv 13 = t13 at *
              generalize fv 14 = t14 at *
              generalize fv 15 = t15 at *
              generalize fv 16 = t16 at *
              generalize fv 17 = t17 at *
              generalize fv 18 = t18 at *
              generalize fv 19 = t19 at *
              generalize fv 20 = t20 at *
              generalize fv 21 = t21 at *
              generalize fv 22 = t22 at *
              go_simp
              go_wp2_with fail
              go_roundw
              case rel => exact ⟨k + 1, by omega, by go_num, Lib.hid (Bs.below_up HBW.out HW.out)⟩
              case measure => simp [intOf]; omega
          · have HIX := Lib.hid (show (Nf.onesL l : Int) = nS by rw [HNS.out])
            by_cases hi0 : i < 0
            · have e1 : decide (i < 0) = true := decide_eq_true hi0
              have HSN := Lib.hid (Ng.setAt_none (l := l) (i := i) (by
                cases h : Ng.hasAt l i with
                | false => rfl
                | true => obtain ⟨k', e, _⟩ := Ng.hasAt_iff.1 h; omega))
              have HNO := Lib.hid (show ∀ k' : Nat, i = k' → ¬ k' < Nf.onesL l from fun k' e => by omega)
              have CS := Lib.hid (set_any wr _ r l HM1.out i)
              rw [HSN.out, Bs.val_none] at CS
              go_wp2_with fail
              refine CS.out.mono ?_
              rintro e v1 ⟨rfl, b1⟩
              have E : (Op.equalIn 10000 44 (.agg #[.int .u64 0, .int .u64 0, .int .u64 0, .int .u64 0]) (.agg #[.int .u64 0, .int .u64 0, .int .u64 0, .int .u64 0])).run Try.prog v1 = .ok true v1 := by
                have h := Bs.eq_none (fun _ => false) v1
                rw [Bs.same_refl] at h
                simp only [Bs.word_none] at h
                exact h
              have CA := Lib.hid (after_any v1 _ r l (HM1.out.up b1) i (fun _ => True) (fun _ _ => trivial))
              have hbb := Bs.below_up HBW.out b1
              clear CS b1 c0
              go_wp2_with fail
              refine CA.out.mono ?_
              rintro e v2 ⟨os, rs, ⟨x1, y1, rfl, R3, R4, b3⟩, h6, h7⟩
              have h8 : os = [] := Nf.rise_eq h6 (Nf.rise_nil (fun p h => by obtain ⟨k', e, h⟩ := h; exact HNO.out k' e (Nf.folA_lt _ _ _ h).1))
              have h9 : rs = [] := Nf.rise_eq h7 (Nf.rise_nil (fun p h => by obtain ⟨k', e, h⟩ := h; exact HNO.out k' e (Ng.rlst_lt _ _ _ h).2))
              subst h8
              subst h9
              have CD := Lib.hid (dead_any [] [] x1 y1 v2 R3 R4)
              obtain ⟨i1, i2, i3, rfl⟩ := R3.form
              obtain ⟨i4, i5, i6, rfl⟩ := R4.form
              have hbc := Bs.below_up hbb b3
              clear CA R3 R4 b3 h6 h7 hbb
              go_wp2_with fail
              refine CD.out.mono ?_
              rintro e v3 ⟨rfl, b4⟩
              have hbd := Bs.below_up hbc b4
              clear CD b4 hbc
              go_wp2_with fail
              go_ret
              exact ⟨rfl, Bs.below_up A hbd⟩
            · have e1 : decide (i < 0) = false := decide_eq_false hi0
              by_cases hin : (nS : Int) ≤ i
              · have e2 : decide ((nS : Int) ≤ i) = true := decide_eq_true hin
                have HSN := Lib.hid (Ng.setAt_none (l := l) (i := i) (by
                  cases h : Ng.hasAt l i with
                  | false => rfl
                  | true => obtain ⟨k', e, _⟩ := Ng.hasAt_iff.1 h; have := HNS.out; omega))
                have HNO := Lib.hid (show ∀ k' : Nat, i = k' → ¬ k' < Nf.onesL l from fun k' e => by have := HNS.out; omega)
                have CS := Lib.hid (set_any wr _ r l HM1.out i)
                rw [HSN.out, Bs.val_none] at CS
                go_wp2_with fail
                refine CS.out.mono ?_
                rintro e v1 ⟨rfl, b1⟩
                have E : (Op.equalIn 10000 44 (.agg #[.int .u64 0, .int .u64 0, .int .u64 0, .int .u64 0]) (.agg #[.int .u64 0, .int .u64 0, .int .u64 0, .int .u64 0])).run Try.prog v1 = .ok true v1 := by
                  have h := Bs.eq_none (fun _ => false) v1
                  rw [Bs.same_refl] at h
                  simp only [Bs.word_none] at h
                  exact h
                have CA := Lib.hid (after_any v1 _ r l (HM1.out.up b1) i (fun _ => True) (fun _ _ => trivial))
                have hbb := Bs.below_up HBW.out b1
                clear CS b1 c0
                go_wp2_with fail
                refine CA.out.mono ?_
                rintro e v2 ⟨os, rs, ⟨x1, y1, rfl, R3, R4, b3⟩, h6, h7⟩
                have h8 : os = [] := Nf.rise_eq h6 (Nf.rise_nil (fun p h => by obtain ⟨k', e, h⟩ := h; exact HNO.out k' e (Nf.folA_lt _ _ _ h).1))
                have h9 : rs = [] := Nf.rise_eq h7 (Nf.rise_nil (fun p h => by obtain ⟨k', e, h⟩ := h; exact HNO.out k' e (Ng.rlst_lt _ _ _ h).2))
                subst h8
                subst h9
                have CD := Lib.hid (dead_any [] [] x1 y1 v2 R3 R4)
                obtain ⟨i1, i2, i3, rfl⟩ := R3.form
                obtain ⟨i4, i5, i6, rfl⟩ := R4.form
                have hbc := Bs.below_up hbb b3
                clear CA R3 R4 b3 h6 h7 hbb
                go_wp2_with fail
                refine CD.out.mono ?_
                rintro e v3 ⟨rfl, b4⟩
                have hbd := Bs.below_up hbc b4
                clear CD b4 hbc
                go_wp2_with fail
                go_ret
                exact ⟨rfl, Bs.below_up A hbd⟩
              · have e2 : decide ((nS : Int) ≤ i) = false := decide_eq_false hin
                go_wp2_with fail
                go_ret
                exact ⟨rfl, Bs.below_up A HBW.out⟩
    · obtain ⟨rfl, b1⟩ := Ng.build_no hpo hcd
      replace A := Bs.below_up A b1
      have RB := Lib.hid (refBuild_any l HL10.out al cap w3 (HL.out.up b1))
      rw [HN.out] at RB
      have hcb : Ng.code l < 1000 := by unfold Ng.code; split <;> (try split) <;> omega
      clear C hpo b1
      go_wp2_with fail
      refine RB.out.mono ?_
      rintro e w4 hpo
      obtain ⟨rfl, b1⟩ := Nr.build_no hpo hcd
      replace A := Bs.below_up A b1
      obtain ⟨cd, hcd2⟩ : ∃ cd, Ng.code l = cd := ⟨_, rfl⟩
      rw [hcd2] at hcd hcb ⊢
      clear RB hpo b1 hcd2
      have e3 : ((cd : Int) != 0) = true := by simp; omega
      have e4 : ((cd : Int) == 0) = false := by simp; omega
      go_wp2_with fail
      go_ret
      exact ⟨rfl, A⟩
end Go.Proofs.Ytnbbepgjpfhjdaa
