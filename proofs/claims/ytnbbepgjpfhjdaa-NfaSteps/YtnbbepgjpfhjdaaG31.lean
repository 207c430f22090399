/- The law NfaSteps, walked. An expression that comes in, opened to its tree. Rows of expressions, and fronts, that come in, opened. -/
import Derived.Test.YtnbbepgjpfhjdaaG25
import Derived.Test.YtnbbepgjpfhjdaaG26
import Derived.Test.YtnbbepgjpfhjdaaG30
import Derived.Test.YtnbbepgjpfhjdaaG3
import Derived.Deep.Slices
import Derived.ChangeSame
import Derived.OpenShut
import Derived.WideKeyArr2
import Derived.Laws.IdiomArrays
import Derived.Test.YtnbbepgjpfhjdaaG5
namespace Go.Proofs.Ytnbbepgjpfhjdaa
set_option linter.unusedVariables false
set_option linter.unusedSimpArgs false
open Go.RowKit
theorem Nr.build_yes {w w' : World} {l : List Rx} {e : Ending} (h : Nr.BPost w l e w') (hc : Ng.code l = 0) : ∃ r vS vA v2 v3 As Ls so sr, e = .returned (.tuple #[.pointer (some ⟨r, 0, none⟩), .int .i64 0]) ∧ Nr.Mc w' r l vS vA v2 v3 As Ls so sr ∧ Below w.heap.size w w' := by
  unfold Nr.BPost at h
  rw [if_pos hc] at h
  exact h
theorem Nr.build_no {w w' : World} {l : List Rx} {e : Ending} (h : Nr.BPost w l e w') (hc : Ng.code l ≠ 0) : e = .returned (.tuple #[.pointer none, .int .i64 (Ng.code l)]) ∧ Below w.heap.size w w' := by
  unfold Nr.BPost at h
  rw [if_neg hc] at h
  exact h
/-- a front's value -/
def Nr.SP2 (v : Value) (u : World) (P R : Nat → Prop) : Prop := ∃ x y os rs, v = .agg #[x, y] ∧ Nf.Row u (fun _ => True) x os ∧ Nf.Row u (fun _ => True) y rs ∧ Nf.Rise os P ∧ Nf.Rise rs R
theorem Nr.SP2.up {v : Value} {u u' : World} {P R : Nat → Prop} (h : Nr.SP2 v u P R) (hb : Below u.heap.size u u') : Nr.SP2 v u' P R := by
  obtain ⟨x, y, os, rs, e, h1, h2, h3, h4⟩ := h
  exact ⟨x, y, os, rs, e, h1.up hb, h2.up hb, h3, h4⟩
theorem Nr.rule_le (fr : List Int) : ∀ y ∈ fr, (Nf.rule fr).1 ≤ y := by
  intro y hy
  cases fr with
  | nil => simp at hy
  | cons x r =>
    simp only [Nf.rule]
    have h := Nf.least_le r x
    simp only [List.mem_cons] at hy
    rcases hy with rfl | hy
    · exact h.1
    · exact h.2 y hy
theorem Nr.rule_ok (fr : List Int) : (Nf.rule fr).2 = decide ((0 : Int) < (fr.length : Int)) := by
  cases fr with
  | nil => rfl
  | cons x r => simp [Nf.rule]
theorem Nr.great_len {l : List Rx} (h : Ng.great l = false) : l.length ≤ 40 := by
  unfold Ng.great at h
  simp at h
  omega
set_option maxRecDepth 100000 in
set_option maxHeartbeats 3000000 in
theorem nfaStepsLaw_any (l : List Rx) (hln : l.length ≤ maxLen) (al : Option Addr) (cap : Nat) (w : World) (hl : Rx.InL w l al 0) (fo fr : List Int) (p1 p2 : Value) (h1 : Nf.Row w (fun _ => True) p1 fo) (h2 : Nf.Row w (fun _ => True) p2 fr) (c : Nat) (hc : c < 256) : Calls Try.prog 5 #[.slice al l.length cap, .agg #[p1, p2], .int .u8 c] w (Bs.BPost w true) := by
  obtain ⟨a1, n1, c1, rfl⟩ := h1.form
  obtain ⟨a2, n2, c2, rfl⟩ := h2.form
  have HN1 : Hid (n1 = fo.length) := Lib.hid h1.at.1
  have HN2 : Hid (n2 = fr.length) := Lib.hid h2.at.1
  obtain ⟨n, hn⟩ : ∃ n, l.length = n := ⟨_, rfl⟩
  have HN := Lib.hid hn
  have HLN := Lib.hid hln
  have B0 := Bs.below1 w (.cells #[.slice a1 n1 c1, .slice a2 n2 c2] 37)
  have HFB := Lib.hid (Nf.fb_new w (.slice a1 n1 c1) (.slice a2 n2 c2) 37)
  have HL := Lib.hid (hl.up B0)
  have HR1 := Lib.hid (h1.up B0)
  have HR2 := Lib.hid (h2.up B0)
  have A := B0
  rw [hn] at hln ⊢
  clear hn hl h1 h2 B0
  go_enter Try.func5, Try.ntmps5
  go_upto_region 1 with fail
  generalize w.alloc (.cells #[.slice a1 n1 c1, .slice a2 n2 c2] 37) = W at *
  have AL := Lib.hid (alive7_any W)
  go_wp2_with fail
  refine AL.out.mono ?_
  rintro e w1 ⟨rfl, b1⟩
  replace A := Bs.below_up A b1
  replace HFB := Lib.hid (HFB.out.up b1); replace HL := Lib.hid (HL.out.up b1); replace HR1 := Lib.hid (HR1.out.up b1); replace HR2 := Lib.hid (HR2.out.up b1)
  have G := Lib.hid (great_any l HLN.out al cap w1 HL.out)
  rw [HN.out] at G
  clear AL b1
  go_wp2_with fail
  refine G.out.mono ?_
  rintro e w2 ⟨rfl, b1⟩
  replace A := Bs.below_up A b1
  replace HFB := Lib.hid (HFB.out.up b1); replace HL := Lib.hid (HL.out.up b1); replace HR1 := Lib.hid (HR1.out.up b1); replace HR2 := Lib.hid (HR2.out.up b1)
  clear G b1
  have f0 := HFB.out.c0; have f1 := HFB.out.c1
  cases hg : Ng.great l
  case true =>
    clear hg
    go_wp2_with fail
    go_ret
    exact ⟨rfl, A⟩
  case false =>
    have hl40 : n ≤ 40 := by rw [← HN.out]; exact Nr.great_len hg
    have HL10 := Lib.hid (show l.length ≤ 1000 by rw [HN.out]; omega)
    clear hg
    by_cases h1 : 100 < n1
    · have e1 : decide ((100 : Int) < (n1 : Int)) = true := decide_eq_true (by omega)
      go_wp2_with fail
      go_ret
      exact ⟨rfl, A⟩
    have e1 : decide ((100 : Int) < (n1 : Int)) = false := decide_eq_false (by omega)
    by_cases h2 : 100 < n2
    · have e2 : decide ((100 : Int) < (n2 : Int)) = true := decide_eq_true (by omega)
      go_wp2_with fail
      go_ret
      exact ⟨rfl, A⟩
    have e2 : decide ((100 : Int) < (n2 : Int)) = false := decide_eq_false (by omega)
    have C := Lib.hid (build_any l HL10.out al cap w2 HL.out)
    rw [HN.out] at C
    go_wp2_with fail
    clear f0 f1 e1 e2
    refine C.out.mono ?_
    rintro e w3 hpo
    by_cases hcd : Ng.code l = 0
    · obtain ⟨r, rfl, MC, b1⟩ := Ng.build_yes hpo hcd
      replace A := Bs.below_up A b1
      replace HFB := Lib.hid (HFB.out.up b1); replace HL := Lib.hid (HL.out.up b1); replace HR1 := Lib.hid (HR1.out.up b1); replace HR2 := Lib.hid (HR2.out.up b1)
      have HM1 := Lib.hid MC
      have RB := Lib.hid (refBuild_any l HL10.out al cap w3 HL.out)
      rw [HN.out] at RB
      clear C hpo MC b1
      go_wp2_with fail
      refine RB.out.mono ?_
      rintro e w4 hpo
      obtain ⟨r2, vS, vA, v2, v3, As, Ls, so, sr, rfl, MC2, b1⟩ := Nr.build_yes hpo hcd
      replace A := Bs.below_up A b1
      replace HFB := Lib.hid (HFB.out.up b1); replace HR1 := Lib.hid (HR1.out.up b1); replace HR2 := Lib.hid (HR2.out.up b1)
      replace HM1 := Lib.hid (HM1.out.up b1)
      have HM2 := Lib.hid MC2
      have hlo : Nf.onesL l ≤ 2000 := by
        have := (Ng.fits_of hcd).sz
        have h9 := Nh.onesL_take l l.length
        rw [List.take_length] at h9
        omega
      have hll : l.length ≤ 1000 := HL10.out
      have RL := Lib.hid (rule_any fr (.slice a1 n1 c1) (.slice a2 n2 c2) w4 fo HR1.out HR2.out (by have := HN2.out; omega))
      have f0 := HFB.out.c0; have f1 := HFB.out.c1
      clear RB hpo MC2 b1 HL
      rw [HN.out] at hll
      go_wp2_with fail
      clear f0 f1
      refine RL.out.mono ?_
      rintro e w5 ⟨rfl, b1⟩
      replace A := Bs.below_up A b1
      replace HFB := Lib.hid (HFB.out.up b1); replace HR1 := Lib.hid (HR1.out.up b1); replace HR2 := Lib.hid (HR2.out.up b1)
      replace HM1 := Lib.hid (HM1.out.up b1); replace HM2 := Lib.hid (HM2.out.up b1)
      have HRU := Lib.hid (Nr.rule_le fr)
      have HOK := Lib.hid (show ((Nf.rule fr).2 == decide (0 < n2)) = true by rw [Nr.rule_ok, HN2.out]; simp)
      clear RL b1
      rw [← HN.out] at hll
      obtain ⟨rl, hrl⟩ : ∃ rl, Nf.rule fr = rl := ⟨_, rfl⟩
      rw [hrl] at HRU HOK ⊢
      clear hrl
      obtain ⟨mn, ok⟩ := rl
      go_wp2_with fail
      go_loopw [13] (fun i wr => ∃ j : Nat, j ≤ n2 ∧ i = .int .i64 j ∧ wr = w5) (fun i _ => n2 - (intOf i).toNat)
      case atStart => exact ⟨0, by omega, rfl, rfl⟩
      case round =>
        obtain ⟨j, hj, rfl, rfl⟩ := hrel
        have f1 := HFB.out.c1
        by_cases hjl : j < n2
        · have hjf : j < fr.length := by rw [← HN2.out]; exact hjl
          obtain ⟨pF, rfl, hpc⟩ := HR2.out.at.2 j hjf
          have hmn : mn ≤ fr[j] := HRU.out _ (List.getElem_mem hjf)
          generalize fr[j] = z at *
          have i1 : (0 : Int) ≤ (j : Int) := by omega
          have i2 : (j : Int) < (n2 : Int) := by omega
          have e3 : decide (z < mn) = false := decide_eq_false (by omega)
          go_wp2_with fail
          go_roundw
          case rel => exact ⟨j + 1, by omega, by go_num, trivial⟩
          case measure => simp [intOf]; omega
        · go_upto_region 17 with fail
          clear f1
          refine Rg.regionU (by kernel_rfl) 83 (by kernel_rfl) (by kernel_rfl) (by decide) (by exact Nat.le_refl 83) (Rg.rel [fun v _ => v = .bool ok, fun v _ => v = .pointer (some ⟨w.heap.size, 1, none⟩), fun v _ => v = .slice a2 n2 c2, fun v _ => v = .int .i64 n2, fun v _ => v = .bool (decide ((0 : Int) < (n2 : Int))), fun v _ => v = .bool true, fun v _ => v = .bool true, fun v _ => v = .pointer (some ⟨r, 0, none⟩), fun v _ => v = .agg #[.slice a1 n1 c1, .slice a2 n2 c2], fun v _ => v = .int .u8 c, fun v u => Nr.SP2 (v) (u) (fun p => ∃ k : Nat, (k : Int) ∈ fo ∧ Nf.onL l k c ∧ Nf.folA l k p) (fun q => ∃ k : Nat, (k : Int) ∈ fo ∧ Nf.onL l k c ∧ Nf.rlst l q k), fun v _ => v = .pointer (some ⟨r2, 0, none⟩), fun v _ => v = .agg #[.slice a1 n1 c1, .slice a2 n2 c2], fun v _ => v = .int .u8 c, fun v u => Nr.SP2 (v) (u) (fun p => ∃ k : Nat, (k : Int) ∈ fo ∧ Nf.onL l k c ∧ Nf.folA l k p) (fun q => ∃ k : Nat, (k : Int) ∈ fo ∧ Nf.onL l k c ∧ Nf.rlst l q k), fun v _ => v = .bool true, fun v _ => v = .bool true]) (fun u => Below wr.heap.size wr u) (fun w w' => Below w.heap.size w w') (fun i v wa wb h _ hb => Rg.rel_up (show Rg.Ups [fun v _ => v = .bool ok, fun v _ => v = .pointer (some ⟨w.heap.size, 1, none⟩), fun v _ => v = .slice a2 n2 c2, fun v _ => v = .int .i64 n2, fun v _ => v = .bool (decide ((0 : Int) < (n2 : Int))), fun v _ => v = .bool true, fun v _ => v = .bool true, fun v _ => v = .pointer (some ⟨r, 0, none⟩), fun v _ => v = .agg #[.slice a1 n1 c1, .slice a2 n2 c2], fun v _ => v = .int .u8 c, fun v u => Nr.SP2 (v) (u) (fun p => ∃ k : Nat, (k : Int) ∈ fo ∧ Nf.onL l k c ∧ Nf.folA l k p) (fun q => ∃ k : Nat, (k : Int) ∈ fo ∧ Nf.onL l k c ∧ Nf.rlst l q k), fun v _ => v = .pointer (some ⟨r2, 0, none⟩), fun v _ => v = .agg #[.slice a1 n1 c1, .slice a2 n2 c2], fun v _ => v = .int .u8 c, fun v u => Nr.SP2 (v) (u) (fun p => ∃ k : Nat, (k : Int) ∈ fo ∧ Nf.onL l k c ∧ Nf.folA l k p) (fun q => ∃ k : Nat, (k : Int) ∈ fo ∧ Nf.onL l k c ∧ Nf.rlst l q k), fun v _ => v = .bool true, fun v _ => v = .bool true] from ⟨fun v w w' h hb => h, fun v w w' h hb => h, fun v w w' h hb => h, fun v w w' h hb => h, fun v w w' h hb => h, fun v w w' h hb => h, fun v w w' h hb => h, fun v w w' h hb => h, fun v w w' h hb => h, fun v w w' h hb => h, fun v w w' h hb => Nr.SP2.up h hb, fun v w w' h hb => h, fun v w w' h hb => h, fun v w w' h hb => h, fun v w w' h hb => Nr.SP2.up h hb, fun v w w' h hb => h, fun v w w' h hb => h, trivial⟩) h hb) (Below.refl _ _).drew (Rg.guards [(6, true)] (by kernel_rfl) (fun p hp v w h => by rw [List.mem_singleton.1 hp] at h ⊢; exact h)) ⟨?_, ?_, ?_, ?_, ?_, ?_, ?_, ?_, ?_, ?_, ?_, ?_, ?_, ?_, ?_, ?_, ?_, trivial⟩ ?_
          · intro fv u hw hd
            have HW := Lib.hid hw
            clear hw hd
            simp only [Rg.step, Rg.all, Act.put, List.setIfInBounds_toArray, List.set_cons_zero, List.set_cons_succ]
            go_simp
            exact ⟨rfl, HW.out, Below.refl _ _⟩
          · intro fv u hw hd
            have HW := Lib.hid hw
            clear hw hd
            simp only [Rg.step, Rg.all, Act.put, List.setIfInBounds_toArray, List.set_cons_zero, List.set_cons_succ]
            go_simp
            exact ⟨rfl, HW.out, Below.refl _ _⟩
          · intro fv u hw hd
            have r1 : fv 1 = .pointer (some ⟨w.heap.size, 1, none⟩) := hd _ (List.mem_cons_self ..)
            have f1 := (HFB.out.up hw).c1
            have HW := Lib.hid hw
            clear hw hd
            simp only [Rg.step, Rg.all, Act.put, List.setIfInBounds_toArray, List.set_cons_zero, List.set_cons_succ]
            go_simp
            exact ⟨rfl, HW.out, Below.refl _ _⟩
          · intro fv u hw hd
            have r2 : fv 2 = .slice a2 n2 c2 := hd _ (List.mem_cons_self ..)
            have HW := Lib.hid hw
            clear hw hd
            simp only [Rg.step, Rg.all, Act.put, List.setIfInBounds_toArray, List.set_cons_zero, List.set_cons_succ]
            go_simp
            exact ⟨rfl, HW.out, Below.refl _ _⟩
          · intro fv u hw hd
            have r3 : fv 3 = .int .i64 n2 := hd _ (List.mem_cons_self ..)
            have HW := Lib.hid hw
            clear hw hd
            simp only [Rg.step, Rg.all, Act.put, List.setIfInBounds_toArray, List.set_cons_zero, List.set_cons_succ]
            go_simp
            exact ⟨rfl, HW.out, Below.refl _ _⟩
          · intro fv u hw hd
            have r0 : fv 0 = .bool ok := hd _ (List.mem_cons_self ..)
            have r4 : fv 4 = .bool (decide ((0 : Int) < (n2 : Int))) := hd _ (List.mem_cons_of_mem _ (List.mem_cons_self ..))
            have HW := Lib.hid hw
            clear hw hd
            simp only [Rg.step, Rg.all, Act.put, List.setIfInBounds_toArray, List.set_cons_zero, List.set_cons_succ]
            go_simp
            exact ⟨(by rw [HOK.out]; exact rfl), HW.out, Below.refl _ _⟩
          · intro fv u hw hd
            have r5 : fv 5 = .bool true := hd _ (List.mem_cons_self ..)
            have HW := Lib.hid hw
            clear hw hd
            simp only [Rg.step, Rg.all, Act.put, List.setIfInBounds_toArray, List.set_cons_zero, List.set_cons_succ]
            go_simp
            exact ⟨rfl, HW.out, Below.refl _ _⟩
          · intro fv u hw hd
            have HW := Lib.hid hw
            clear hw hd
            simp only [Rg.step, Rg.all, Act.put, List.setIfInBounds_toArray, List.set_cons_zero, List.set_cons_succ]
            go_simp
            exact ⟨rfl, HW.out, Below.refl _ _⟩
          · intro fv u hw hd
            have f0 := (HFB.out.up hw).c0
            have f1 := (HFB.out.up hw).c1
            have HW := Lib.hid hw
            clear hw hd
            simp only [Rg.step, Rg.all, Act.put, List.setIfInBounds_toArray, List.set_cons_zero, List.set_cons_succ]
            go_simp
            exact ⟨rfl, HW.out, Below.refl _ _⟩
          · intro fv u hw hd
            have HW := Lib.hid hw
            clear hw hd
            simp only [Rg.step, Rg.all, Act.put, List.setIfInBounds_toArray, List.set_cons_zero, List.set_cons_succ]
            go_simp
            exact ⟨rfl, HW.out, Below.refl _ _⟩
          · intro fv u hw hd
            have r7 : fv 7 = .pointer (some ⟨r, 0, none⟩) := hd _ (List.mem_cons_self ..)
            have r8 : fv 8 = .agg #[.slice a1 n1 c1, .slice a2 n2 c2] := hd _ (List.mem_cons_of_mem _ (List.mem_cons_self ..))
            have r9 : fv 9 = .int .u8 c := hd _ (List.mem_cons_of_mem _ (List.mem_cons_of_mem _ (List.mem_cons_self ..)))
            have C := Lib.hid (step_any u _ r l (HM1.out.up hw) fo (.slice a1 n1 c1) (.slice a2 n2 c2) (HR1.out.up hw) ⟨_, _, _, rfl⟩ (by have := HN1.out; omega) c hc (fun _ => True) (fun _ _ => trivial))
            have HW := Lib.hid hw
            clear hw hd
            simp only [Rg.step, Rg.all, Act.put, List.setIfInBounds_toArray, List.set_cons_zero, List.set_cons_succ]
            go_simp
            refine C.out.mono ?_
            rintro e u1 ⟨os, rs, ⟨v3, v4, rfl, R3, R4, b3⟩, h6, h7⟩
            exact ⟨_, rfl, ⟨v3, v4, os, rs, rfl, R3, R4, h6, h7⟩, Bs.below_up HW.out b3, b3⟩
          · intro fv u hw hd
            have HW := Lib.hid hw
            clear hw hd
            simp only [Rg.step, Rg.all, Act.put, List.setIfInBounds_toArray, List.set_cons_zero, List.set_cons_succ]
            go_simp
            exact ⟨rfl, HW.out, Below.refl _ _⟩
          · intro fv u hw hd
            have f0 := (HFB.out.up hw).c0
            have f1 := (HFB.out.up hw).c1
            have HW := Lib.hid hw
            clear hw hd
            simp only [Rg.step, Rg.all, Act.put, List.setIfInBounds_toArray, List.set_cons_zero, List.set_cons_succ]
            go_simp
            exact ⟨rfl, HW.out, Below.refl _ _⟩
          · intro fv u hw hd
            have HW := Lib.hid hw
            clear hw hd
            simp only [Rg.step, Rg.all, Act.put, List.setIfInBounds_toArray, List.set_cons_zero, List.set_cons_succ]
            go_simp
            exact ⟨rfl, HW.out, Below.refl _ _⟩
          · intro fv u hw hd
            have r11 : fv 11 = .pointer (some ⟨r2, 0, none⟩) := hd _ (List.mem_cons_self ..)
            have r12 : fv 12 = .agg #[.slice a1 n1 c1, .slice a2 n2 c2] := hd _ (List.mem_cons_of_mem _ (List.mem_cons_self ..))
            have r13 : fv 13 = .int .u8 c := hd _ (List.mem_cons_of_mem _ (List.mem_cons_of_mem _ (List.mem_cons_self ..)))
            have C := Lib.hid (refStep_any u r2 l (HM2.out.up hw) hlo hll fo (.slice a1 n1 c1) (.slice a2 n2 c2) (HR1.out.up hw) ⟨_, _, _, rfl⟩ (by have := HN1.out; omega) c hc)
            have HW := Lib.hid hw
            clear hw hd
            simp only [Rg.step, Rg.all, Act.put, List.setIfInBounds_toArray, List.set_cons_zero, List.set_cons_succ]
            go_simp
            refine C.out.mono ?_
            rintro e u1 ⟨os, rs, ⟨v3, v4, rfl, R3, R4, b3⟩, h6, h7⟩
            exact ⟨_, rfl, ⟨v3, v4, os, rs, rfl, R3.mono (fun _ _ => trivial), R4.mono (fun _ _ => trivial), h6, h7⟩, Bs.below_up HW.out b3, b3⟩
          · intro fv u hw hd
            have r10 : Nr.SP2 ((fv 10)) (u) (fun p => ∃ k : Nat, (k : Int) ∈ fo ∧ Nf.onL l k c ∧ Nf.folA l k p) (fun q => ∃ k : Nat, (k : Int) ∈ fo ∧ Nf.onL l k c ∧ Nf.rlst l q k) := hd _ (List.mem_cons_self ..)
            have r14 : Nr.SP2 ((fv 14)) (u) (fun p => ∃ k : Nat, (k : Int) ∈ fo ∧ Nf.onL l k c ∧ Nf.folA l k p) (fun q => ∃ k : Nat, (k : Int) ∈ fo ∧ Nf.onL l k c ∧ Nf.rlst l q k) := hd _ (List.mem_cons_of_mem _ (List.mem_cons_self ..))
            obtain ⟨x1, y1, os1, rs1, e1, q1, q2, q3, q4⟩ := r10
            obtain ⟨x2, y2, os2, rs2, e2, q5, q6, q7, q8⟩ := r14
            have e3 := Nf.rise_eq q7 q3
            have e4 := Nf.rise_eq q8 q4
            subst e3
            subst e4
            have g1 : os2.length ≤ 1000000 := by have := Nr.row_len q3 (m := 2000) (fun p h => by obtain ⟨k', _, _, h⟩ := h; have := (Nf.folA_lt _ _ _ h).2; omega); omega
            have g2 : rs2.length ≤ 1000000 := by have := Nr.row_len q4 (m := 1000) (fun p h => by obtain ⟨k', _, _, h⟩ := h; have := (Ng.rlst_lt _ _ _ h).1; omega); omega
            have C := Lib.hid (refSameF_any os2 rs2 x1 y1 x2 y2 u q1 q2 q5 q6 g1 g2)
            obtain ⟨i1, i2, i3, rfl⟩ := q1.form
            obtain ⟨i4, i5, i6, rfl⟩ := q2.form
            obtain ⟨i7, i8, i9, rfl⟩ := q5.form
            obtain ⟨j1, j2, j3, rfl⟩ := q6.form
            clear q1 q2 q3 q4 q5 q6 q7 q8 g1 g2
            have HW := Lib.hid hw
            clear hw hd
            simp only [Rg.step, Rg.all, Act.put, List.setIfInBounds_toArray, List.set_cons_zero, List.set_cons_succ]
            go_simp
            refine C.out.mono ?_
            rintro e u1 ⟨rfl, b3⟩
            exact ⟨_, rfl, rfl, Bs.below_up HW.out b3, b3⟩
          · intro fv u hw hd
            have r6 : fv 6 = .bool true := hd _ (List.mem_cons_self ..)
            have r15 : fv 15 = .bool true := hd _ (List.mem_cons_of_mem _ (List.mem_cons_self ..))
            have HW := Lib.hid hw
            clear hw hd
            simp only [Rg.step, Rg.all, Act.put, List.setIfInBounds_toArray, List.set_cons_zero, List.set_cons_succ]
            go_simp
            exact ⟨rfl, HW.out, Below.refl _ _⟩
          · intro fv u hw hR o ho
            have r16 : fv 16 = .bool true := hR 16 (by decide)
            simp at ho
            subst ho
            have HW := Lib.hid hw
            clear hw hR
            simp only [Rg.step, Rg.all, Act.put, List.setIfInBounds_toArray, List.set_cons_zero, List.set_cons_succ]
            generalize fv 0 = t0 at *
            generalize fv 1 = t1 at *
            generalize fv 2 = t2 at *
            generalize fv 3 = t3 at *
            generalize fv 4 = t4 at *
            generalize fv 5 = t5 at *
            generalize fv 6 = t6 at *
            generalize fv 7 = t7 at *
            generalize fv 8 = t8 at *
            generalize fv 9 = t9 at *
            generalize fv 10 = t10 at *
            generalize fv 11 = t11 at *
            generalize fv 12 = t12 at *
            generalize fv 13 = t13 at *
            generalize fv 14 = t14 at *
            generalize fv 15 = t15 at *
            go_simp
            go_wp2_with fail
            go_ret
            exact ⟨rfl, Bs.below_up A HW.out⟩
    · obtain ⟨rfl, b1⟩ := Ng.build_no hpo hcd
      replace A := Bs.below_up A b1
      have RB := Lib.hid (refBuild_any l HL10.out al cap w3 (HL.out.up b1))
      rw [HN.out] at RB
      have hcb : Ng.code l < 1000 := by unfold Ng.code; split <;> (try split) <;> omega
      clear C hpo b1
      go_wp2_with fail
      refine RB.out.mono ?_
      rintro e w4 hpo
      obtain ⟨rfl, b1⟩ := Nr.build_no hpo hcd
      replace A := Bs.below_up A b1
      obtain ⟨cd, hcd2⟩ : ∃ cd, Ng.code l = cd := ⟨_, rfl⟩
      rw [hcd2] at hcd hcb ⊢
      clear RB hpo b1 hcd2
      have e3 : ((cd : Int) != 0) = true := by simp; omega
      have e4 : ((cd : Int) == 0) = false := by simp; omega
      go_wp2_with fail
      go_ret
      exact ⟨rfl, A⟩
end Go.Proofs.Ytnbbepgjpfhjdaa
namespace Go.Proofs.Ytnbbepgjpfhjdaa
set_option linter.unusedVariables false
set_option linter.unusedSimpArgs false
open Go.ChangeShapes Go.WideShapes Go.Deep Go.RowKit
theorem Rx.add_zero (a : Addr) : a.add 0 = a := by unfold Addr.add; rw [if_pos rfl]
theorem Rx.add_form (a : Addr) (n : Nat) (h : n ≠ 0) : a.add n = ⟨a.block, a.off + n, none⟩ := by unfold Addr.add; rw [if_neg h]
theorem Rx.word_nat {x : Int} (h : (Lit.int .u64 x).wf = true) : ∃ n : Nat, x = n ∧ n < 18446744073709551616 := by
  simp [Lit.wf, IntKind.min, IntKind.max, IntKind.signed, IntKind.bits] at h
  exact ⟨x.toNat, by omega, by omega⟩
theorem Rx.byte_nat {x : Int} (h : (Lit.int .u8 x).wf = true) : ∃ n : Nat, x = n ∧ n < 256 := by
  simp [Lit.wf, IntKind.min, IntKind.max, IntKind.signed, IntKind.bits] at h
  exact ⟨x.toNat, by omega, by omega⟩
theorem Rx.reg_cells : Try.prog.cellsOf 54 = 6 := by kernel_rfl
theorem Rx.one_byte : Try.prog.cellsOf 5 = 1 := by kernel_rfl
theorem Rx.set_cells : Try.prog.cellsOf 44 = 4 := by kernel_rfl
theorem Rx.one_row : Try.prog.cellsOf 22 = 1 := by kernel_rfl
/-- four cells that read as a set are a set's words -/
theorem Rx.set_open {H : Type} {enc : TypeId × Value → H} {W : World} {base : Nat} {spare : Nat → Bool} {held : Bool} {fuel : Nat} {v0 v1 v2 v3 : Value} {x : DataW H × List MemPlace}
    (h : DataW.trod enc Try.prog W base spare held fuel 44 [v0, v1, v2, v3] = some x) : ∃ f : Nat → Bool, v0 = .int .u64 (Bs.word f 0) ∧ v1 = .int .u64 (Bs.word f 1) ∧ v2 = .int .u64 (Bs.word f 2) ∧ v3 = .int .u64 (Bs.word f 3) := by
  obtain ⟨y0, y1, y2, y3, n, _, g0, g1, g2, g3⟩ := trod_array4 Try.underlying44 Bs.arrKey.one h
  obtain ⟨k0, e0, _, w0⟩ := DataW.trod_int Try.underlying42 g0
  obtain ⟨k1, e1, _, w1⟩ := DataW.trod_int Try.underlying42 g1
  obtain ⟨k2, e2, _, w2⟩ := DataW.trod_int Try.underlying42 g2
  obtain ⟨k3, e3, _, w3⟩ := DataW.trod_int Try.underlying42 g3
  simp at e0 e1 e2 e3
  obtain ⟨n0, rfl, l0⟩ := Rx.word_nat w0
  obtain ⟨n1, rfl, l1⟩ := Rx.word_nat w1
  obtain ⟨n2, rfl, l2⟩ := Rx.word_nat w2
  obtain ⟨n3, rfl, l3⟩ := Rx.word_nat w3
  obtain ⟨f, rfl, rfl, rfl, rfl⟩ := Bs.of_words n0 n1 n2 n3 l0 l1 l2 l3
  exact ⟨f, e0, e1, e2, e3⟩
set_option maxRecDepth 100000 in
/-- six cells that read as an expression are one's -/
theorem Rx.reg_open {H : Type} {enc : TypeId × Value → H} {W : World} {base : Nat} {spare : Nat → Bool} {held : Bool} : ∀ (fuel : Nat) (cs : List Value) (x : DataW H × List MemPlace), DataW.trod enc Try.prog W base spare held fuel 54 cs = some x →
    ∃ (y : Rx) (k : Nat) (f : Nat → Bool) (a : Option Addr) (n cap : Nat), cs = [.int .u8 k, .int .u64 (Bs.word f 0), .int .u64 (Bs.word f 1), .int .u64 (Bs.word f 2), .int .u64 (Bs.word f 3), .slice a n cap] ∧ Rx.Is W y (Rx.hdr k f a n cap) := by
  intro fuel
  induction fuel using Nat.strongRecOn with
  | _ fuel ih =>
    intro cs x h
    obtain ⟨ys, n', hfu, _, hcl, hyl, hf⟩ := DataW.trod_struct Try.underlying54 h
    rw [Rx.reg_cells] at hcl
    match cs, hcl with
    | [v0, v1, v2, v3, v4, v5], _ =>
      have hy : ys.length = 3 := hyl
      have g0 := hf 0 _ rfl
      change DataW.trod enc Try.prog W base spare held n' 5 (([v0, v1, v2, v3, v4, v5].drop 0).take (Try.prog.cellsOf 5)) = _ at g0
      rw [Rx.one_byte, List.getElem?_eq_getElem (by omega)] at g0
      have g1 := hf 1 _ rfl
      change DataW.trod enc Try.prog W base spare held n' 44 (([v0, v1, v2, v3, v4, v5].drop 1).take (Try.prog.cellsOf 44)) = _ at g1
      rw [Rx.set_cells, List.getElem?_eq_getElem (by omega)] at g1
      have g2 := hf 2 _ rfl
      change DataW.trod enc Try.prog W base spare held n' 22 (([v0, v1, v2, v3, v4, v5].drop 5).take (Try.prog.cellsOf 22)) = _ at g2
      rw [Rx.one_row, List.getElem?_eq_getElem (by omega)] at g2
      obtain ⟨k0, e0, _, w0⟩ := DataW.trod_int Try.underlying5 g0
      simp at e0
      subst e0
      obtain ⟨k, rfl, hk⟩ := Rx.byte_nat w0
      obtain ⟨f, rfl, rfl, rfl, rfl⟩ := Rx.set_open g1
      rcases DataW.trod_slice Try.underlying22 g2 with ⟨hcs, _⟩ | ⟨b, len, cap, elems, rest, n2, hfu2, hcs, _, _, hl, hm, hlen, hel, _, _⟩
      · simp at hcs
        subst hcs
        exact ⟨.node k f [], k, f, none, 0, 0, rfl, hk, none, 0, rfl, by simp [Rx.InL]⟩
      · simp at hcs
        subst hcs
        have key : ∀ i, ∃ y : Rx, i < len → Rx.In W y (b.add (i * 6)) := by
          intro i
          by_cases hil : i < len
          · have he := hel i hil
            rw [Rx.reg_cells, List.getElem?_eq_getElem (by omega)] at he
            obtain ⟨cs', hc, ht⟩ := Option.bind_eq_some_iff.1 he
            obtain ⟨y, k1, f1, a1, n1, cap1, hcs', hy1⟩ := ih n2 (by omega) cs' _ ht
            subst hcs'
            obtain ⟨_, _, hat⟩ := World.cells?_some hc
            have a0 := hat 0 (by decide)
            rw [Rx.add_zero] at a0
            have q1 := hat 1 (by decide)
            have q2 := hat 2 (by decide)
            have q3 := hat 3 (by decide)
            have q4 := hat 4 (by decide)
            have q5 := hat 5 (by decide)
            rw [Rx.add_form _ _ (by decide)] at q1 q2 q3 q4 q5
            refine ⟨y, fun _ => ?_⟩
            obtain ⟨k2, f2, l2⟩ := y
            obtain ⟨hk2, a2, cap2, e2, hl2⟩ := hy1
            simp only [Rx.In]
            refine ⟨hk2, a2, cap2, ?_, hl2⟩
            simp only [Rx.hdr, Value.agg.injEq] at e2
            simp at e2
            obtain ⟨e3, e4, e5, e6, e7, e8, e9, e10⟩ := e2
            refine ⟨?_, ?_, ?_, ?_, ?_, ?_⟩
            · rw [a0]; simp [e3]
            · rw [q1]; simp [e4]
            · rw [q2]; simp [e5]
            · rw [q3]; simp [e6]
            · rw [q4]; simp [e7]
            · rw [q5]; simp [e8, e9, e10]
          · exact ⟨Rx.nil, fun h => absurd h hil⟩
        obtain ⟨os, hos⟩ := Classical.skolem.1 key
        refine ⟨.node k f (List.ofFn (fun i : Fin len => os i)), k, f, some b, len, cap, rfl, hk, some b, cap, by simp, ?_⟩
        refine Rx.InL.of fun j hj => ?_
        have hjl : j < len := by simpa using hj
        refine ⟨b, rfl, ?_⟩
        rw [List.getElem_ofFn, Nat.zero_add]
        exact hos j hjl
end Go.Proofs.Ytnbbepgjpfhjdaa
namespace Go.Proofs.Ytnbbepgjpfhjdaa
set_option linter.unusedVariables false
set_option linter.unusedSimpArgs false
open Go.ChangeShapes Go.WideShapes Go.Deep Go.RowKit
set_option maxRecDepth 100000 in
/-- a slice that reads as expressions is one of some -/
theorem Rx.regs_open {H : Type} {enc : TypeId × Value → H} {W : World} {base : Nat} {spare : Nat → Bool} {held : Bool} {fuel : Nat} {a : Option Addr} {len cap : Nat} {x : DataW H × List MemPlace}
    (h : DataW.trod enc Try.prog W base spare held fuel 22 [.slice a len cap] = some x) : ∃ l : List Rx, l.length = len ∧ len ≤ maxLen ∧ Rx.InL W l a 0 := by
  rcases DataW.trod_slice Try.underlying22 h with ⟨hcs, _⟩ | ⟨b, len, cap, elems, rest, n2, hfu2, hcs, _, _, hl, hm, hlen, hel, _, _⟩
  · simp at hcs
    obtain ⟨rfl, rfl, rfl⟩ := hcs
    exact ⟨[], rfl, by unfold maxLen; omega, by simp [Rx.InL]⟩
  · simp at hcs
    obtain ⟨rfl, rfl, rfl⟩ := hcs
    have key : ∀ i, ∃ y : Rx, i < len → Rx.In W y (b.add (i * 6)) := by
      intro i
      by_cases hil : i < len
      · have he := hel i hil
        rw [Rx.reg_cells, List.getElem?_eq_getElem (by omega)] at he
        obtain ⟨cs', hc, ht⟩ := Option.bind_eq_some_iff.1 he
        obtain ⟨y, k1, f1, a1, n1, cap1, hcs', hy1⟩ := Rx.reg_open n2 cs' _ ht
        subst hcs'
        obtain ⟨_, _, hat⟩ := World.cells?_some hc
        have a0 := hat 0 (by decide)
        rw [Rx.add_zero] at a0
        have q1 := hat 1 (by decide)
        have q2 := hat 2 (by decide)
        have q3 := hat 3 (by decide)
        have q4 := hat 4 (by decide)
        have q5 := hat 5 (by decide)
        rw [Rx.add_form _ _ (by decide)] at q1 q2 q3 q4 q5
        refine ⟨y, fun _ => ?_⟩
        obtain ⟨k2, f2, l2⟩ := y
        obtain ⟨hk2, a2, cap2, e2, hl2⟩ := hy1
        simp only [Rx.In]
        refine ⟨hk2, a2, cap2, ?_, hl2⟩
        simp only [Rx.hdr, Value.agg.injEq] at e2
        simp at e2
        obtain ⟨e3, e4, e5, e6, e7, e8, e9, e10⟩ := e2
        refine ⟨?_, ?_, ?_, ?_, ?_, ?_⟩
        · rw [a0]; simp [e3]
        · rw [q1]; simp [e4]
        · rw [q2]; simp [e5]
        · rw [q3]; simp [e6]
        · rw [q4]; simp [e7]
        · rw [q5]; simp [e8, e9, e10]
      · exact ⟨Rx.nil, fun h => absurd h hil⟩
    obtain ⟨os, hos⟩ := Classical.skolem.1 key
    refine ⟨List.ofFn (fun i : Fin len => os i), by simp, Nat.le_trans hl hm, ?_⟩
    refine Rx.InL.of fun j hj => ?_
    have hjl : j < len := by simpa using hj
    refine ⟨b, rfl, ?_⟩
    rw [List.getElem_ofFn, Nat.zero_add]
    exact hos j hjl
theorem Nf.front_cells : Try.prog.cellsOf 37 = 2 := by kernel_rfl
theorem Nf.ints_cells : Try.prog.cellsOf 35 = 1 := by kernel_rfl
/-- a slice that reads as numbers is one of some -/
theorem Nf.row_open {H : Type} {enc : TypeId × Value → H} {W : World} {base : Nat} {spare : Nat → Bool} {held : Bool} {fuel : Nat} {v : Value} {x : DataW H × List MemPlace}
    (h : DataW.trod enc Try.prog W base spare held fuel 35 [v] = some x) : ∃ l : List Int, Nf.Row W (fun _ => True) v l := by
  rcases open_ints Try.underlying35 Try.underlying3 (by kernel_rfl) h with ⟨hcs, _⟩ | ⟨a, l, c, zs, hcs, _, hl, hm, hz, _, hcell, hwz⟩
  · simp at hcs
    subst hcs
    exact ⟨[], none, 0, rfl, Nat.le_refl _, fun _ => rfl, fun i hi => by simp at hi, fun x e => by simp at e⟩
  · simp at hcs
    subst hcs
    have hz' : l ≤ zs.length := by
      have h0 := hz
      split at h0 <;> omega
    have hlz : (zs.take l).length = l := by rw [List.length_take]; omega
    refine ⟨zs.take l, some a, c, by rw [hlz], by rw [hlz]; exact hl, fun e => by simp at e, fun i hi => ?_, fun x e _ => trivial⟩
    rw [hlz] at hi
    refine ⟨a, rfl, ?_⟩
    have h1 := hcell i (by omega)
    rw [List.getD_eq_getElem?_getD, List.getElem?_eq_getElem (by omega)] at h1
    rw [List.getElem_take]
    exact h1
set_option maxRecDepth 100000 in
/-- a front that comes in by value -/
theorem Nf.front_val {H : Type} {enc : TypeId × Value → H} {W W' : World} {r : Reach} {b0 base : Nat} {spare : Nat → Bool} {held : Bool} {v : Value} {d : DataW H} {ps : List MemPlace}
    (hv : Value.okWide Try.prog W' r b0 37 v) (h : DataW.Trod enc Try.prog W base spare held 37 v d ps) : ∃ p1 p2 fo fr, v = .agg #[p1, p2] ∧ Nf.Row W (fun _ => True) p1 fo ∧ Nf.Row W (fun _ => True) p2 fr := by
  simp only [Value.okWide, Try.underlying37] at hv
  obtain ⟨xs, rfl, hxs, _⟩ := hv
  obtain ⟨fuel, hf⟩ := h
  have e : (Value.agg xs).cells.toList = xs.toList := rfl
  rw [e] at hf
  obtain ⟨ys, n', hfu, _, hcl, hyl, hf2⟩ := DataW.trod_struct Try.underlying37 hf
  rw [Nf.front_cells] at hcl
  obtain ⟨cs, hcs⟩ : ∃ cs, xs.toList = cs := ⟨_, rfl⟩
  rw [hcs] at hcl hf2
  match cs, hcl with
  | [v0, v1], _ =>
    have hy : ys.length = 2 := hyl
    have g0 := hf2 0 _ rfl
    change DataW.trod enc Try.prog W base spare held n' 35 (([v0, v1].drop 0).take (Try.prog.cellsOf 35)) = _ at g0
    rw [Nf.ints_cells, List.getElem?_eq_getElem (by omega)] at g0
    have g1 := hf2 1 _ rfl
    change DataW.trod enc Try.prog W base spare held n' 35 (([v0, v1].drop 1).take (Try.prog.cellsOf 35)) = _ at g1
    rw [Nf.ints_cells, List.getElem?_eq_getElem (by omega)] at g1
    obtain ⟨fo, h0⟩ := Nf.row_open (v := v0) g0
    obtain ⟨fr, h1⟩ := Nf.row_open (v := v1) g1
    exact ⟨v0, v1, fo, fr, by congr 1; exact Array.ext' (by rw [hcs]), h0, h1⟩
end Go.Proofs.Ytnbbepgjpfhjdaa
