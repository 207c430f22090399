/- The law NfaRuns, walked. An expression that comes in, opened to its tree. Rows of expressions, and fronts, that come in, opened. -/
import Derived.Test.YtnbbepgjpfhjdaaG32
import Derived.Test.YtnbbepgjpfhjdaaG6
import Derived.Test.YtnbbepgjpfhjdaaG33
import Derived.Test.YtnbbepgjpfhjdaaG3
import Derived.Deep.Slices
import Derived.ChangeSame
import Derived.OpenShut
import Derived.WideKeyArr2
import Derived.Laws.IdiomArrays
import Derived.Test.YtnbbepgjpfhjdaaG5
namespace Go.Proofs.Ytnbbepgjpfhjdaa
set_option linter.unusedVariables false
set_option linter.unusedSimpArgs false
open Go.RowKit
theorem Nr.fro_lt {l : List Rx} {s : Nat → Nat} {q p : Nat} (h : Nf.fro l s q p) : p < Nf.onesL l := by
  cases q with
  | zero => obtain ⟨r, h⟩ := h; exact (Ng.rfst_lt _ _ _ h).2
  | succ q => obtain ⟨_, _, _, h⟩ := h; exact (Nf.folA_lt _ _ _ h).2
theorem Nr.frr_lt {l : List Rx} {s : Nat → Nat} {q p : Nat} (h : Nf.frr l s q p) : p < l.length := by
  cases q with
  | zero => exact Ng.remp_lt _ _ h
  | succ q => obtain ⟨_, _, _, h⟩ := h; exact (Ng.rlst_lt _ _ _ h).1
theorem Nr.by_px (s : ByteArray) : Tb.by s = Px.by s := by
  funext i
  simp only [Tb.by, Px.by]
  split
  · rename_i h
    have h' : i < s.data.toList.length := by simpa using h
    rw [List.getD_eq_getElem?_getD, List.getElem?_eq_getElem h']
    simp only [Option.getD_some, Array.getElem_toList]
    rfl
  · rename_i h
    have h' : s.data.toList.length ≤ i := by
      have : ¬ i < s.data.toList.length := by simpa using h
      omega
    rw [List.getD_eq_getElem?_getD, List.getElem?_eq_none h']
    rfl
theorem Ng.code_size {l : List Rx} (h : Ng.code l = 0) : ∀ y ∈ l, y.size ≤ 400 := by
  intro y hy
  have hm : y.may 1 = true := by
    cases hm : y.may 1 with
    | true => rfl
    | false =>
      unfold Ng.code at h
      rw [if_pos (by rw [Bool.or_eq_true]; exact .inr (List.any_eq_true.2 ⟨y, hy, by simp [hm]⟩))] at h
      omega
  exact (Rx.may_iff.1 hm).2.2
def Nr.hit (l : List Rx) (s : ByteArray) (k : Nat) : Bool := match l[k]? with
  | some x => Rx.sp (Tb.by s) s.size x 0 s.size
  | none => false
theorem Nr.hit_get {l : List Rx} {s : ByteArray} {k : Nat} (h : k < l.length) : Nr.hit l s k = Rx.sp (Tb.by s) s.size l[k] 0 s.size := by
  unfold Nr.hit
  rw [List.getElem?_eq_getElem h]
theorem Nr.frr_hit {l : List Rx} (hw : Rx.wfL l = true) (s : ByteArray) (r : Nat) : Nf.frr l (Px.by s) s.size r ↔ Nr.hit l s r = true := by
  rw [Nf.frr_go hw]
  constructor
  · rintro ⟨h, hg⟩
    rw [Nr.hit_get h, Nr.by_px]
    exact (Rx.sp_iff _ _ _ (Rx.wfL_all.1 hw _ (List.getElem_mem h)) 0 s.size (by omega)).2 hg
  · intro h
    have hl : r < l.length := by
      unfold Nr.hit at h
      cases e : l[r]? with
      | none => rw [e] at h; simp at h
      | some x => exact (List.getElem?_eq_some_iff.1 e).1
    refine ⟨hl, ?_⟩
    rw [Nr.hit_get hl, Nr.by_px] at h
    exact (Rx.sp_iff _ _ _ (Rx.wfL_all.1 hw _ (List.getElem_mem hl)) 0 s.size (by omega)).1 h
structure Nr.From (l : List Rx) (s : ByteArray) (k : Nat) (mn : Int) (ok : Bool) : Prop where
  no : ok = false → mn = 0 ∧ ∀ j, k ≤ j → Nr.hit l s j = false
  yes : ok = true → ∃ m : Nat, mn = m ∧ k ≤ m ∧ Nr.hit l s m = true ∧ ∀ j, k ≤ j → j < m → Nr.hit l s j = false
theorem Nr.From.hit {l : List Rx} {s : ByteArray} {k : Nat} {mn : Int} {ok : Bool} (h : Nr.hit l s k = true) : Nr.From l s k k true := ⟨fun e => by simp at e, fun _ => ⟨k, rfl, by omega, h, fun j h1 h2 => by omega⟩⟩
theorem Nr.From.miss {l : List Rx} {s : ByteArray} {k : Nat} {mn : Int} {ok : Bool} (H : Nr.From l s (k + 1) mn ok) (h : Nr.hit l s k = false) : Nr.From l s k mn ok := by
  have two : ∀ j, k ≤ j → j = k ∨ k + 1 ≤ j := fun j hj => by omega
  refine ⟨fun e => ⟨(H.no e).1, fun j hj => ?_⟩, fun e => ?_⟩
  · rcases two j hj with rfl | hj
    · exact h
    · exact (H.no e).2 j hj
  · obtain ⟨m, h1, h2, h3, h4⟩ := H.yes e
    refine ⟨m, h1, by omega, h3, fun j hj hm => ?_⟩
    rcases two j hj with rfl | hj
    · exact h
    · exact h4 j hj hm
theorem Nr.from_end (l : List Rx) (s : ByteArray) (k : Nat) (h : l.length ≤ k) : Nr.From l s k 0 false := ⟨fun _ => ⟨rfl, fun j hj => by
  unfold Nr.hit
  rw [List.getElem?_eq_none (by omega)]⟩, fun e => by simp at e⟩
theorem Nr.rule_from {l : List Rx} (hw : Rx.wfL l = true) {s : ByteArray} {fr : List Int} (h : Nf.Rise fr (Nf.frr l (Px.by s) s.size)) {mn : Int} {ok : Bool} (H : Nr.From l s 0 mn ok) : Nf.rule fr = (mn, ok) := by
  cases ok with
  | false =>
    obtain ⟨h1, h2⟩ := H.no rfl
    have : fr = [] := by
      cases fr with
      | nil => rfl
      | cons x r =>
        have h0 := h.nn x (by simp)
        obtain ⟨k, rfl⟩ : ∃ k : Nat, x = k := ⟨x.toNat, by omega⟩
        have h3 := (h.is k).1 (by simp)
        rw [Nr.frr_hit hw, h2 k (by omega)] at h3
        simp at h3
    rw [this, h1]
    rfl
  | true =>
    obtain ⟨m, rfl, _, h3, h4⟩ := H.yes rfl
    have hm := (h.is m).2 ((Nr.frr_hit hw s m).2 h3)
    cases fr with
    | nil => simp at hm
    | cons x r =>
      simp only [Nf.rule]
      have h5 := Nr.rule_le (x :: r) m hm
      simp only [Nf.rule] at h5
      have h6 : Nf.least x r ∈ x :: r := by
        rcases Nf.least_mem r x with e | e
        · rw [e]; simp
        · exact List.mem_cons_of_mem _ e
      have h0 := h.nn _ h6
      obtain ⟨k, hk⟩ : ∃ k : Nat, Nf.least x r = k := ⟨(Nf.least x r).toNat, by omega⟩
      rw [hk] at h5 h6 ⊢
      have h7 := (h.is k).1 h6
      rw [Nr.frr_hit hw] at h7
      have : ¬ k < m := fun hlt => by rw [h4 k (by omega) hlt] at h7; simp at h7
      have : k = m := by omega
      rw [this]
set_option maxRecDepth 100000 in
set_option maxHeartbeats 4000000 in
theorem nfaRunsLaw_any (l : List Rx) (hln : l.length ≤ maxLen) (al : Option Addr) (cap : Nat) (w : World) (hl : Rx.InL w l al 0) (s : ByteArray) (hs : s.size ≤ maxLen) : Calls Try.prog 4 #[.slice al l.length cap, .string s] w (Bs.BPost w true) := by
  have HMS := Lib.hid hs
  have hs : s.size ≤ 9223372036854775807 := by have := HMS.out; unfold maxLen at this; omega
  obtain ⟨n, hn⟩ : ∃ n, l.length = n := ⟨_, rfl⟩
  have HN := Lib.hid hn
  have HLN := Lib.hid hln
  have HL := Lib.hid hl
  rw [hn] at hln ⊢
  clear hn hl
  have AL := Lib.hid (alive7_any w)
  go_enter Try.func4, Try.ntmps4
  go_wp2_with fail
  refine AL.out.mono ?_
  rintro e w1 ⟨rfl, A⟩
  replace HL := Lib.hid (HL.out.up A)
  have G := Lib.hid (great_any l HLN.out al cap w1 HL.out)
  rw [HN.out] at G
  clear AL
  go_wp2_with fail
  refine G.out.mono ?_
  rintro e w2 ⟨rfl, b1⟩
  replace A := Bs.below_up A b1
  replace HL := Lib.hid (HL.out.up b1)
  clear G b1
  cases hg : Ng.great l
  case true =>
    clear hg
    go_wp2_with fail
    go_ret
    exact ⟨rfl, A⟩
  case false =>
    have hl40 : n ≤ 40 := by rw [← HN.out]; exact Nr.great_len hg
    have HL10 := Lib.hid (show l.length ≤ 1000 by rw [HN.out]; omega)
    clear hg
    by_cases h20 : 20 < s.size
    · have e1 : decide ((20 : Int) < (s.size : Int)) = true := decide_eq_true (by omega)
      have e2 : decide (20 < s.size) = true := decide_eq_true h20
      go_wp2_with fail
      go_ret
      exact ⟨rfl, A⟩
    have e1 : decide ((20 : Int) < (s.size : Int)) = false := decide_eq_false (by omega)
    have e2 : decide (20 < s.size) = false := decide_eq_false h20
    have C := Lib.hid (build_any l HL10.out al cap w2 HL.out)
    rw [HN.out] at C
    go_wp2_with fail
    clear e1 e2
    refine C.out.mono ?_
    rintro e w3 hpo
    by_cases hcd : Ng.code l = 0
    · obtain ⟨r, rfl, MC, b1⟩ := Ng.build_yes hpo hcd
      replace A := Bs.below_up A b1
      replace HL := Lib.hid (HL.out.up b1)
      have HM1 := Lib.hid MC
      have RB := Lib.hid (refBuild_any l HL10.out al cap w3 HL.out)
      rw [HN.out] at RB
      clear C hpo MC b1
      go_wp2_with fail
      refine RB.out.mono ?_
      rintro e w4 hpo
      obtain ⟨r2, vS, vA, v2, v3, As, Ls, so, sr, rfl, MC2, b1⟩ := Nr.build_yes hpo hcd
      replace A := Bs.below_up A b1
      replace HL := Lib.hid (HL.out.up b1)
      replace HM1 := Lib.hid (HM1.out.up b1)
      have HM2 := Lib.hid MC2
      have HWF := Lib.hid (Ng.fits_of hcd).wf
      have HSZ := Lib.hid (Ng.code_size hcd)
      have HLO := Lib.hid (show Nf.onesL l ≤ 2000 by
        have := (Ng.fits_of hcd).sz
        have h9 := Nh.onesL_take l l.length
        rw [List.take_length] at h9
        omega)
      have HLL := Lib.hid (show l.length ≤ 1000 from HL10.out)
      clear RB hpo b1 MC2
      have RN := Lib.hid (run_any w4 _ r l HM1.out s HMS.out (fun _ => True) (fun _ _ => trivial))
      go_wp2_with fail
      refine RN.out.mono ?_
      rintro e w5 ⟨fo, fr, ⟨p1, p2, rfl, X1, X2, b1⟩, h6, h7⟩
      have HY1 := Lib.hid h6
      have HY2 := Lib.hid h7
      obtain ⟨b1', b2, b3, rfl⟩ := X1.form
      obtain ⟨d1, d2, d3, rfl⟩ := X2.form
      have HB2 : Hid (b2 = fo.length) := Lib.hid X1.at.1
      have HD2 : Hid (d2 = fr.length) := Lib.hid X2.at.1
      have hfo : fo.length ≤ 2000 := Nr.row_len h6 (fun p h => by have := Nr.fro_lt h; have := HLO.out; omega)
      have hfr : fr.length ≤ 1000 := Nr.row_len h7 (fun p h => by have := Nr.frr_lt h; have := HLL.out; omega)
      have FB0 := Nf.fb_new w5 (.slice b1' b2 b3) (.slice d1 d2 d3) 37
      have BW := Bs.below1 w5 (.cells #[.slice b1' b2 b3, .slice d1 d2 d3] 37)
      have hbb := Bs.below_up b1 BW
      replace A := Bs.below_up A hbb
      replace HL := Lib.hid (HL.out.up hbb)
      replace HM2 := Lib.hid (HM2.out.up hbb)
      have HX1 := Lib.hid (X1.up BW)
      have HX2 := Lib.hid (X2.up BW)
      have HFB := Lib.hid FB0
      clear RN X1 X2 b1 h6 h7 FB0 BW hbb
      go_upto_region 12 with fail
      generalize hW9 : w5.alloc (.cells #[.slice b1' b2 b3, .slice d1 d2 d3] 37) = W at *
      generalize hb9 : w5.heap.size = b9 at *
      clear hW9 hb9
      have RL := Lib.hid (rule_any fr (.slice b1' b2 b3) (.slice d1 d2 d3) W fo HX1.out HX2.out (by omega))
      have x0 := HFB.out.c0; have x1 := HFB.out.c1
      go_wp2_with fail
      clear x0 x1
      refine RL.out.mono ?_
      rintro e w6 ⟨rfl, b1⟩
      replace A := Bs.below_up A b1
      replace HL := Lib.hid (HL.out.up b1)
      replace HM2 := Lib.hid (HM2.out.up b1)
      replace HX1 := Lib.hid (HX1.out.up b1)
      replace HX2 := Lib.hid (HX2.out.up b1)
      replace HFB := Lib.hid (HFB.out.up b1)
      have HRU := Lib.hid (fun (mn : Int) (ok : Bool) (H : Nr.From l s 0 mn ok) => Nr.rule_from HWF.out HY2.out H)
      clear RL b1
      obtain ⟨rl, hrl⟩ : ∃ rl, Nf.rule fr = rl := ⟨_, rfl⟩
      rw [hrl] at HRU ⊢
      clear hrl
      obtain ⟨rl1, rl2⟩ := rl
      have i9 : IntKind.i64.wrap ((n : Int) - 1) = (n : Int) - 1 := IntWalk.i64_in _ (by omega)
      go_wp2_with fail
      go_loopw [12, 13, 14] (fun m b i wr => ∃ (k : Nat) (mn : Int) (ok : Bool), k ≤ n ∧ i = .int .i64 ((k : Int) - 1) ∧ m = .int .i64 mn ∧ b = .bool ok ∧ Hid (Nr.From l s k mn ok) ∧ Hid (Below w6.heap.size w6 wr)) (fun _ _ i _ => (intOf i + 1).toNat)
      case atStart => exact ⟨n, 0, false, by omega, rfl, rfl, rfl, Lib.hid (Nr.from_end l s n (by rw [HN.out]; omega)), Lib.hid (Below.refl _ _)⟩
      case round =>
        obtain ⟨k, mn, ok, hk, rfl, rfl, rfl, HFR, HBW⟩ := hrel
        cases k with
        | zero =>
          have hpair := HRU.out mn ok HFR.out
          simp only [Prod.mk.injEq] at hpair
          obtain ⟨hp1, hp2⟩ := hpair
          subst hp1
          subst hp2
          replace HM2 := Lib.hid (HM2.out.up HBW.out)
          replace HX1 := Lib.hid (HX1.out.up HBW.out)
          replace HX2 := Lib.hid (HX2.out.up HBW.out)
          replace HFB := Lib.hid (HFB.out.up HBW.out)
          have HDE := Lib.hid (show ((fo.isEmpty && fr.isEmpty) == ((b2 : Int) + (d2 : Int) == 0)) = true by
            rw [HB2.out, HD2.out]
            cases fo <;> cases fr <;> simp <;> omega)
          have hb2 : b2 ≤ 2000 := by have := HB2.out; omega
          have hd2 : d2 ≤ 1000 := by have := HD2.out; omega
          go_upto_region 20 with fail
          refine Rg.regionU (by kernel_rfl) 91 (by kernel_rfl) (by kernel_rfl) (by decide) (by exact Nat.le_refl 91) (Rg.rel [fun v u => Nr.SP2 (v) (u) (Nf.fro l (Px.by s) s.size) (Nf.frr l (Px.by s) s.size), fun v _ => v = .pointer (some ⟨r2, 0, none⟩), fun v _ => v = .string s, fun v u => Nr.SP2 (v) (u) (Nf.fro l (Px.by s) s.size) (Nf.frr l (Px.by s) s.size), fun v _ => v = .bool true, fun v _ => v = .bool true, fun v _ => v = .int .i64 rl1, fun v _ => v = .int .i64 rl1, fun v _ => v = .bool true, fun v _ => v = .bool true, fun v _ => v = .bool true, fun v _ => v = .bool rl2, fun v _ => v = .bool rl2, fun v _ => v = .bool true, fun v _ => v = .bool true, fun v _ => v = .bool true, fun v _ => v = .agg #[.slice b1' b2 b3, .slice d1 d2 d3], fun v _ => v = .bool (fo.isEmpty && fr.isEmpty), fun v _ => v = .pointer (some ⟨b9, 0, none⟩), fun v _ => v = .slice b1' b2 b3, fun v _ => v = .int .i64 b2, fun v _ => v = .pointer (some ⟨b9, 1, none⟩), fun v _ => v = .slice d1 d2 d3, fun v _ => v = .int .i64 d2, fun v _ => v = .int .i64 ((b2 : Int) + (d2 : Int)), fun v _ => v = .bool ((b2 : Int) + (d2 : Int) == 0), fun v _ => v = .bool true, fun v _ => v = .bool true]) (fun u => Below wr.heap.size wr u) (fun w w' => Below w.heap.size w w') (fun i v wa wb h _ hb => Rg.rel_up (show Rg.Ups [fun v u => Nr.SP2 (v) (u) (Nf.fro l (Px.by s) s.size) (Nf.frr l (Px.by s) s.size), fun v _ => v = .pointer (some ⟨r2, 0, none⟩), fun v _ => v = .string s, fun v u => Nr.SP2 (v) (u) (Nf.fro l (Px.by s) s.size) (Nf.frr l (Px.by s) s.size), fun v _ => v = .bool true, fun v _ => v = .bool true, fun v _ => v = .int .i64 rl1, fun v _ => v = .int .i64 rl1, fun v _ => v = .bool true, fun v _ => v = .bool true, fun v _ => v = .bool true, fun v _ => v = .bool rl2, fun v _ => v = .bool rl2, fun v _ => v = .bool true, fun v _ => v = .bool true, fun v _ => v = .bool true, fun v _ => v = .agg #[.slice b1' b2 b3, .slice d1 d2 d3], fun v _ => v = .bool (fo.isEmpty && fr.isEmpty), fun v _ => v = .pointer (some ⟨b9, 0, none⟩), fun v _ => v = .slice b1' b2 b3, fun v _ => v = .int .i64 b2, fun v _ => v = .pointer (some ⟨b9, 1, none⟩), fun v _ => v = .slice d1 d2 d3, fun v _ => v = .int .i64 d2, fun v _ => v = .int .i64 ((b2 : Int) + (d2 : Int)), fun v _ => v = .bool ((b2 : Int) + (d2 : Int) == 0), fun v _ => v = .bool true, fun v _ => v = .bool true] from ⟨fun v w w' h hb => Nr.SP2.up h hb, fun v w w' h hb => h, fun v w w' h hb => h, fun v w w' h hb => Nr.SP2.up h hb, fun v w w' h hb => h, fun v w w' h hb => h, fun v w w' h hb => h, fun v w w' h hb => h, fun v w w' h hb => h, fun v w w' h hb => h, fun v w w' h hb => h, fun v w w' h hb => h, fun v w w' h hb => h, fun v w w' h hb => h, fun v w w' h hb => h, fun v w w' h hb => h, fun v w w' h hb => h, fun v w w' h hb => h, fun v w w' h hb => h, fun v w w' h hb => h, fun v w w' h hb => h, fun v w w' h hb => h, fun v w w' h hb => h, fun v w w' h hb => h, fun v w w' h hb => h, fun v w w' h hb => h, fun v w w' h hb => h, fun v w w' h hb => h, trivial⟩) h hb) (Below.refl _ _).drew (Rg.guards [(5, true), (10, true), (15, true)] (by kernel_rfl) (fun p hp v w h => by
            simp only [List.mem_cons, List.not_mem_nil, or_false] at hp
            rcases hp with rfl | rfl | rfl <;> exact h)) ⟨?_, ?_, ?_, ?_, ?_, ?_, ?_, ?_, ?_, ?_, ?_, ?_, ?_, ?_, ?_, ?_, ?_, ?_, ?_, ?_, ?_, ?_, ?_, ?_, ?_, ?_, ?_, ?_, trivial⟩ ?_
          · intro fv u hw hd
            have x0 := (HFB.out.up hw).c0
            have x1 := (HFB.out.up hw).c1
            have HG1 := Lib.hid (HX1.out.up hw)
            have HG2 := Lib.hid (HX2.out.up hw)
            have HW := Lib.hid hw
            clear hw hd
            simp only [Rg.step, Rg.all, Act.put, List.setIfInBounds_toArray, List.set_cons_zero, List.set_cons_succ]
            go_simp
            exact ⟨⟨_, _, _, _, rfl, HG1.out, HG2.out, HY1.out, HY2.out⟩, HW.out, Below.refl _ _⟩
          · intro fv u hw hd
            have HW := Lib.hid hw
            clear hw hd
            simp only [Rg.step, Rg.all, Act.put, List.setIfInBounds_toArray, List.set_cons_zero, List.set_cons_succ]
            go_simp
            exact ⟨rfl, HW.out, Below.refl _ _⟩
          · intro fv u hw hd
            have HW := Lib.hid hw
            clear hw hd
            simp only [Rg.step, Rg.all, Act.put, List.setIfInBounds_toArray, List.set_cons_zero, List.set_cons_succ]
            go_simp
            exact ⟨rfl, HW.out, Below.refl _ _⟩
          · intro fv u hw hd
            have r1 : fv 1 = .pointer (some ⟨r2, 0, none⟩) := hd _ (List.mem_cons_self ..)
            have r2 : fv 2 = .string s := hd _ (List.mem_cons_of_mem _ (List.mem_cons_self ..))
            have C := Lib.hid (refRun_any u _ l (HM2.out.up hw) HLO.out HLL.out s HMS.out)
            have HW := Lib.hid hw
            clear hw hd
            simp only [Rg.step, Rg.all, Act.put, List.setIfInBounds_toArray, List.set_cons_zero, List.set_cons_succ]
            go_simp
            refine C.out.mono ?_
            rintro e u1 ⟨os, rs, ⟨v3, v4, rfl, R3, R4, b3⟩, h6, h7⟩
            exact ⟨_, rfl, ⟨v3, v4, os, rs, rfl, R3, R4, h6, h7⟩, Bs.below_up HW.out b3, b3⟩
          · intro fv u hw hd
            have r0 : Nr.SP2 ((fv 0)) (u) (Nf.fro l (Px.by s) s.size) (Nf.frr l (Px.by s) s.size) := hd _ (List.mem_cons_self ..)
            have r3 : Nr.SP2 ((fv 3)) (u) (Nf.fro l (Px.by s) s.size) (Nf.frr l (Px.by s) s.size) := hd _ (List.mem_cons_of_mem _ (List.mem_cons_self ..))
            obtain ⟨x1, y1, os1, rs1, e1, q1, q2, q3, q4⟩ := r0
            obtain ⟨x2, y2, os2, rs2, e2, q5, q6, q7, q8⟩ := r3
            have e3 := Nf.rise_eq q7 q3
            have e4 := Nf.rise_eq q8 q4
            subst e3
            subst e4
            have g1 : os2.length ≤ 1000000 := by have := Nr.row_len q3 (m := 2000) (fun p h => by have := Nr.fro_lt h; have := HLO.out; omega); omega
            have g2 : rs2.length ≤ 1000000 := by have := Nr.row_len q4 (m := 1000) (fun p h => by have := Nr.frr_lt h; have := HLL.out; omega); omega
            have C := Lib.hid (refSameF_any os2 rs2 x1 y1 x2 y2 u q1 q2 q5 q6 g1 g2)
            obtain ⟨i1', i2', i3', rfl⟩ := q1.form
            obtain ⟨i4', i5', i6', rfl⟩ := q2.form
            obtain ⟨i7', i8', i9', rfl⟩ := q5.form
            obtain ⟨j1', j2', j3', rfl⟩ := q6.form
            clear q1 q2 q3 q4 q5 q6 q7 q8 g1 g2
            have HW := Lib.hid hw
            clear hw hd
            simp only [Rg.step, Rg.all, Act.put, List.setIfInBounds_toArray, List.set_cons_zero, List.set_cons_succ]
            go_simp
            refine C.out.mono ?_
            rintro e u1 ⟨rfl, b3⟩
            exact ⟨_, rfl, rfl, Bs.below_up HW.out b3, b3⟩
          · intro fv u hw hd
            have r4 : fv 4 = .bool true := hd _ (List.mem_cons_self ..)
            have HW := Lib.hid hw
            clear hw hd
            simp only [Rg.step, Rg.all, Act.put, List.setIfInBounds_toArray, List.set_cons_zero, List.set_cons_succ]
            go_simp
            exact ⟨rfl, HW.out, Below.refl _ _⟩
          · intro fv u hw hd
            have HW := Lib.hid hw
            clear hw hd
            simp only [Rg.step, Rg.all, Act.put, List.setIfInBounds_toArray, List.set_cons_zero, List.set_cons_succ]
            go_simp
            exact ⟨rfl, HW.out, Below.refl _ _⟩
          · intro fv u hw hd
            have HW := Lib.hid hw
            clear hw hd
            simp only [Rg.step, Rg.all, Act.put, List.setIfInBounds_toArray, List.set_cons_zero, List.set_cons_succ]
            go_simp
            exact ⟨rfl, HW.out, Below.refl _ _⟩
          · intro fv u hw hd
            have r6 : fv 6 = .int .i64 rl1 := hd _ (List.mem_cons_self ..)
            have r7 : fv 7 = .int .i64 rl1 := hd _ (List.mem_cons_of_mem _ (List.mem_cons_self ..))
            have HW := Lib.hid hw
            clear hw hd
            simp only [Rg.step, Rg.all, Act.put, List.setIfInBounds_toArray, List.set_cons_zero, List.set_cons_succ]
            go_simp
            exact ⟨(by simp [Rg.rel]), HW.out, Below.refl _ _⟩
          · intro fv u hw hd
            have r5 : fv 5 = .bool true := hd _ (List.mem_cons_self ..)
            have r8 : fv 8 = .bool true := hd _ (List.mem_cons_of_mem _ (List.mem_cons_self ..))
            have HW := Lib.hid hw
            clear hw hd
            simp only [Rg.step, Rg.all, Act.put, List.setIfInBounds_toArray, List.set_cons_zero, List.set_cons_succ]
            go_simp
            exact ⟨rfl, HW.out, Below.refl _ _⟩
          · intro fv u hw hd
            have r9 : fv 9 = .bool true := hd _ (List.mem_cons_self ..)
            have HW := Lib.hid hw
            clear hw hd
            simp only [Rg.step, Rg.all, Act.put, List.setIfInBounds_toArray, List.set_cons_zero, List.set_cons_succ]
            go_simp
            exact ⟨rfl, HW.out, Below.refl _ _⟩
          · intro fv u hw hd
            have HW := Lib.hid hw
            clear hw hd
            simp only [Rg.step, Rg.all, Act.put, List.setIfInBounds_toArray, List.set_cons_zero, List.set_cons_succ]
            go_simp
            exact ⟨rfl, HW.out, Below.refl _ _⟩
          · intro fv u hw hd
            have HW := Lib.hid hw
            clear hw hd
            simp only [Rg.step, Rg.all, Act.put, List.setIfInBounds_toArray, List.set_cons_zero, List.set_cons_succ]
            go_simp
            exact ⟨rfl, HW.out, Below.refl _ _⟩
          · intro fv u hw hd
            have r11 : fv 11 = .bool rl2 := hd _ (List.mem_cons_self ..)
            have r12 : fv 12 = .bool rl2 := hd _ (List.mem_cons_of_mem _ (List.mem_cons_self ..))
            have HW := Lib.hid hw
            clear hw hd
            simp only [Rg.step, Rg.all, Act.put, List.setIfInBounds_toArray, List.set_cons_zero, List.set_cons_succ]
            go_simp
            exact ⟨(by simp [Rg.rel]), HW.out, Below.refl _ _⟩
          · intro fv u hw hd
            have r10 : fv 10 = .bool true := hd _ (List.mem_cons_self ..)
            have r13 : fv 13 = .bool true := hd _ (List.mem_cons_of_mem _ (List.mem_cons_self ..))
            have HW := Lib.hid hw
            clear hw hd
            simp only [Rg.step, Rg.all, Act.put, List.setIfInBounds_toArray, List.set_cons_zero, List.set_cons_succ]
            go_simp
            exact ⟨rfl, HW.out, Below.refl _ _⟩
          · intro fv u hw hd
            have r14 : fv 14 = .bool true := hd _ (List.mem_cons_self ..)
            have HW := Lib.hid hw
            clear hw hd
            simp only [Rg.step, Rg.all, Act.put, List.setIfInBounds_toArray, List.set_cons_zero, List.set_cons_succ]
            go_simp
            exact ⟨rfl, HW.out, Below.refl _ _⟩
          · intro fv u hw hd
            have x0 := (HFB.out.up hw).c0
            have x1 := (HFB.out.up hw).c1
            have HW := Lib.hid hw
            clear hw hd
            simp only [Rg.step, Rg.all, Act.put, List.setIfInBounds_toArray, List.set_cons_zero, List.set_cons_succ]
            go_simp
            exact ⟨rfl, HW.out, Below.refl _ _⟩
          · intro fv u hw hd
            have r16 : fv 16 = .agg #[.slice b1' b2 b3, .slice d1 d2 d3] := hd _ (List.mem_cons_self ..)
            have C := Lib.hid (dead_any fo fr (.slice b1' b2 b3) (.slice d1 d2 d3) u (HX1.out.up hw) (HX2.out.up hw))
            have HW := Lib.hid hw
            clear hw hd
            simp only [Rg.step, Rg.all, Act.put, List.setIfInBounds_toArray, List.set_cons_zero, List.set_cons_succ]
            go_simp
            refine C.out.mono ?_
            rintro e u1 ⟨rfl, b3⟩
            exact ⟨_, rfl, rfl, Bs.below_up HW.out b3, b3⟩
          · intro fv u hw hd
            have HW := Lib.hid hw
            clear hw hd
            simp only [Rg.step, Rg.all, Act.put, List.setIfInBounds_toArray, List.set_cons_zero, List.set_cons_succ]
            go_simp
            exact ⟨rfl, HW.out, Below.refl _ _⟩
          · intro fv u hw hd
            have r18 : fv 18 = .pointer (some ⟨b9, 0, none⟩) := hd _ (List.mem_cons_self ..)
            have x0 := (HFB.out.up hw).c0
            have HW := Lib.hid hw
            clear hw hd
            simp only [Rg.step, Rg.all, Act.put, List.setIfInBounds_toArray, List.set_cons_zero, List.set_cons_succ]
            go_simp
            exact ⟨rfl, HW.out, Below.refl _ _⟩
          · intro fv u hw hd
            have r19 : fv 19 = .slice b1' b2 b3 := hd _ (List.mem_cons_self ..)
            have HW := Lib.hid hw
            clear hw hd
            simp only [Rg.step, Rg.all, Act.put, List.setIfInBounds_toArray, List.set_cons_zero, List.set_cons_succ]
            go_simp
            exact ⟨rfl, HW.out, Below.refl _ _⟩
          · intro fv u hw hd
            have HW := Lib.hid hw
            clear hw hd
            simp only [Rg.step, Rg.all, Act.put, List.setIfInBounds_toArray, List.set_cons_zero, List.set_cons_succ]
            go_simp
            exact ⟨rfl, HW.out, Below.refl _ _⟩
          · intro fv u hw hd
            have r21 : fv 21 = .pointer (some ⟨b9, 1, none⟩) := hd _ (List.mem_cons_self ..)
            have x1 := (HFB.out.up hw).c1
            have HW := Lib.hid hw
            clear hw hd
            simp only [Rg.step, Rg.all, Act.put, List.setIfInBounds_toArray, List.set_cons_zero, List.set_cons_succ]
            go_simp
            exact ⟨rfl, HW.out, Below.refl _ _⟩
          · intro fv u hw hd
            have r22 : fv 22 = .slice d1 d2 d3 := hd _ (List.mem_cons_self ..)
            have HW := Lib.hid hw
            clear hw hd
            simp only [Rg.step, Rg.all, Act.put, List.setIfInBounds_toArray, List.set_cons_zero, List.set_cons_succ]
            go_simp
            exact ⟨rfl, HW.out, Below.refl _ _⟩
          · intro fv u hw hd
            have r20 : fv 20 = .int .i64 b2 := hd _ (List.mem_cons_self ..)
            have r23 : fv 23 = .int .i64 d2 := hd _ (List.mem_cons_of_mem _ (List.mem_cons_self ..))
            have HW := Lib.hid hw
            clear hw hd
            have i3 : IntKind.i64.wrap ((b2 : Int) + (d2 : Int)) = (b2 : Int) + (d2 : Int) := IntWalk.i64_in _ (by omega)
            simp only [Rg.step, Rg.all, Act.put, List.setIfInBounds_toArray, List.set_cons_zero, List.set_cons_succ]
            go_simp
            exact ⟨rfl, HW.out, Below.refl _ _⟩
          · intro fv u hw hd
            have r24 : fv 24 = .int .i64 ((b2 : Int) + (d2 : Int)) := hd _ (List.mem_cons_self ..)
            have HW := Lib.hid hw
            clear hw hd
            simp only [Rg.step, Rg.all, Act.put, List.setIfInBounds_toArray, List.set_cons_zero, List.set_cons_succ]
            go_simp
            exact ⟨rfl, HW.out, Below.refl _ _⟩
          · intro fv u hw hd
            have r17 : fv 17 = .bool (fo.isEmpty && fr.isEmpty) := hd _ (List.mem_cons_self ..)
            have r25 : fv 25 = .bool ((b2 : Int) + (d2 : Int) == 0) := hd _ (List.mem_cons_of_mem _ (List.mem_cons_self ..))
            have HW := Lib.hid hw
            clear hw hd
            simp only [Rg.step, Rg.all, Act.put, List.setIfInBounds_toArray, List.set_cons_zero, List.set_cons_succ]
            go_simp
            exact ⟨(by rw [HDE.out]; exact rfl), HW.out, Below.refl _ _⟩
          · intro fv u hw hd
            have r15 : fv 15 = .bool true := hd _ (List.mem_cons_self ..)
            have r26 : fv 26 = .bool true := hd _ (List.mem_cons_of_mem _ (List.mem_cons_self ..))
            have HW := Lib.hid hw
            clear hw hd
            simp only [Rg.step, Rg.all, Act.put, List.setIfInBounds_toArray, List.set_cons_zero, List.set_cons_succ]
            go_simp
            exact ⟨rfl, HW.out, Below.refl _ _⟩
          · intro fv u hw hR o ho
            have r27 : fv 27 = .bool true := hR 27 (by decide)
            simp at ho
            subst ho
            have HW := Lib.hid hw
            clear hw hR
            simp only [Rg.step, Rg.all, Act.put, List.setIfInBounds_toArray, List.set_cons_zero, List.set_cons_succ]
            generalize fv 0 = t0 at *
            generalize fv 1 = t1 at *
            generalize fv 2 = t2 at *
            generalize fv 3 = t3 at *
            generalize fv 4 = t4 at *
            generalize fv 5 = t5 at *
            generalize fv 6 = t6 at *
            generalize fv 7 = t7 at *
            generalize fv 8 = t8 at *
            generalize fv 9 = t9 at *
            generalize fv 10 = t10 at *
            generalize fv 11 = t11 at *
            generalize fv 12 = t12 at *
            generalize fv 13 = t13 at *
            generalize fv 14 = t14 at *
            generalize fv 15 = t15 at *
            generalize fv 16 = t16 at *
            generalize fv 17 = t17 at *
            generalize fv 18 = t18 at *
            generalize fv 19 = t19 at *
            generalize fv 20 = t20 at *
            generalize fv 21 = t21 at *
            generalize fv 22 = t22 at *
            generalize fv 23 = t23 at *
            generalize fv 24 = t24 at *
            generalize fv 25 = t25 at *
            generalize fv 26 = t26 at *
            go_simp
            go_wp2_with fail
            go_ret
            exact ⟨rfl, Bs.below_up (Bs.below_up A HBW.out) HW.out⟩
        | succ k =>
          have hkl : k < l.length := by rw [HN.out]; omega
          obtain ⟨p, rfl, hp⟩ := (HL.out.up HBW.out).get k hkl
          rw [Nat.zero_add] at hp
          have hyw := Rx.wfL_all.1 HWF.out _ (List.getElem_mem hkl)
          have hys := HSZ.out _ (List.getElem_mem hkl)
          have HHG := Lib.hid (Nr.hit_get (s := s) hkl)
          generalize l[k] = y at *
          obtain ⟨k1, f1, a1, n1, cap1, ⟨x0, x1, x2, x3, x4, x5⟩, hi⟩ := hp.open
          have C := Lib.hid (refMatches_any s (by omega) y (by omega) hyw _ wr hi)
          rw [← HHG.out] at C
          unfold Rx.hdr at C
          have i1 : ((k : Int) + 1 - 1) = (k : Int) := by omega
          have i2 : (0 : Int) ≤ (k : Int) := by omega
          have i3 : (k : Int) < (n : Int) := by omega
          have i4 : IntKind.i64.wrap ((k : Int) - 1) = (k : Int) - 1 := IntWalk.i64_in _ (by omega)
          have i5 : (((k + 1 : Nat) : Int) - 1) = (k : Int) := by omega
          rw [i5]
          clear hp hi
          go_wp2_with fail
          refine C.out.mono ?_
          rintro e w7 ⟨rfl, b1⟩
          have HB7 := Lib.hid (Bs.below_up HBW.out b1)
          clear C x0 x1 x2 x3 x4 x5 b1
          cases hh : Nr.hit l s k
          · have HF9 := Lib.hid (HFR.out.miss hh)
            clear hh
            go_wp2_with fail
            go_roundw
            case rel => exact ⟨k, _, _, by omega, by go_num, rfl, rfl, HF9, HB7⟩
            case measure => simp [intOf] <;> omega
          · have HF9 := Lib.hid (Nr.From.hit (mn := 0) (ok := false) hh)
            clear hh
            go_wp2_with fail
            go_roundw
            case rel => exact ⟨k, _, _, by omega, by go_num, rfl, rfl, HF9, HB7⟩
            case measure => simp [intOf] <;> omega
    · obtain ⟨rfl, b1⟩ := Ng.build_no hpo hcd
      replace A := Bs.below_up A b1
      have RB := Lib.hid (refBuild_any l HL10.out al cap w3 (HL.out.up b1))
      rw [HN.out] at RB
      have hcb : Ng.code l < 1000 := by unfold Ng.code; split <;> (try split) <;> omega
      clear C hpo b1
      go_wp2_with fail
      refine RB.out.mono ?_
      rintro e w4 hpo
      obtain ⟨rfl, b1⟩ := Nr.build_no hpo hcd
      replace A := Bs.below_up A b1
      obtain ⟨cd, hcd2⟩ : ∃ cd, Ng.code l = cd := ⟨_, rfl⟩
      rw [hcd2] at hcd hcb ⊢
      clear RB hpo b1 hcd2
      have e3 : ((cd : Int) != 0) = true := by simp; omega
      have e4 : ((cd : Int) == 0) = false := by simp; omega
      go_wp2_with fail
      go_ret
      exact ⟨rfl, A⟩
end Go.Proofs.Ytnbbepgjpfhjdaa
namespace Go.Proofs.Ytnbbepgjpfhjdaa
set_option linter.unusedVariables false
set_option linter.unusedSimpArgs false
open Go.ChangeShapes Go.WideShapes Go.Deep Go.RowKit
theorem Rx.add_zero (a : Addr) : a.add 0 = a := by unfold Addr.add; rw [if_pos rfl]
theorem Rx.add_form (a : Addr) (n : Nat) (h : n ≠ 0) : a.add n = ⟨a.block, a.off + n, none⟩ := by unfold Addr.add; rw [if_neg h]
theorem Rx.word_nat {x : Int} (h : (Lit.int .u64 x).wf = true) : ∃ n : Nat, x = n ∧ n < 18446744073709551616 := by
  simp [Lit.wf, IntKind.min, IntKind.max, IntKind.signed, IntKind.bits] at h
  exact ⟨x.toNat, by omega, by omega⟩
theorem Rx.byte_nat {x : Int} (h : (Lit.int .u8 x).wf = true) : ∃ n : Nat, x = n ∧ n < 256 := by
  simp [Lit.wf, IntKind.min, IntKind.max, IntKind.signed, IntKind.bits] at h
  exact ⟨x.toNat, by omega, by omega⟩
theorem Rx.reg_cells : Try.prog.cellsOf 54 = 6 := by kernel_rfl
theorem Rx.one_byte : Try.prog.cellsOf 5 = 1 := by kernel_rfl
theorem Rx.set_cells : Try.prog.cellsOf 44 = 4 := by kernel_rfl
theorem Rx.one_row : Try.prog.cellsOf 22 = 1 := by kernel_rfl
theorem Rx.set_open {H : Type} {enc : TypeId × Value → H} {W : World} {base : Nat} {spare : Nat → Bool} {held : Bool} {fuel : Nat} {v0 v1 v2 v3 : Value} {x : DataW H × List MemPlace}
    (h : DataW.trod enc Try.prog W base spare held fuel 44 [v0, v1, v2, v3] = some x) : ∃ f : Nat → Bool, v0 = .int .u64 (Bs.word f 0) ∧ v1 = .int .u64 (Bs.word f 1) ∧ v2 = .int .u64 (Bs.word f 2) ∧ v3 = .int .u64 (Bs.word f 3) := by
  obtain ⟨y0, y1, y2, y3, n, _, g0, g1, g2, g3⟩ := trod_array4 Try.underlying44 Bs.arrKey.one h
  obtain ⟨k0, e0, _, w0⟩ := DataW.trod_int Try.underlying42 g0
  obtain ⟨k1, e1, _, w1⟩ := DataW.trod_int Try.underlying42 g1
  obtain ⟨k2, e2, _, w2⟩ := DataW.trod_int Try.underlying42 g2
  obtain ⟨k3, e3, _, w3⟩ := DataW.trod_int Try.underlying42 g3
  simp at e0 e1 e2 e3
  obtain ⟨n0, rfl, l0⟩ := Rx.word_nat w0
  obtain ⟨n1, rfl, l1⟩ := Rx.word_nat w1
  obtain ⟨n2, rfl, l2⟩ := Rx.word_nat w2
  obtain ⟨n3, rfl, l3⟩ := Rx.word_nat w3
  obtain ⟨f, rfl, rfl, rfl, rfl⟩ := Bs.of_words n0 n1 n2 n3 l0 l1 l2 l3
  exact ⟨f, e0, e1, e2, e3⟩
set_option maxRecDepth 100000 in
theorem Rx.reg_open {H : Type} {enc : TypeId × Value → H} {W : World} {base : Nat} {spare : Nat → Bool} {held : Bool} : ∀ (fuel : Nat) (cs : List Value) (x : DataW H × List MemPlace), DataW.trod enc Try.prog W base spare held fuel 54 cs = some x →
    ∃ (y : Rx) (k : Nat) (f : Nat → Bool) (a : Option Addr) (n cap : Nat), cs = [.int .u8 k, .int .u64 (Bs.word f 0), .int .u64 (Bs.word f 1), .int .u64 (Bs.word f 2), .int .u64 (Bs.word f 3), .slice a n cap] ∧ Rx.Is W y (Rx.hdr k f a n cap) := by
  intro fuel
  induction fuel using Nat.strongRecOn with
  | _ fuel ih =>
    intro cs x h
    obtain ⟨ys, n', hfu, _, hcl, hyl, hf⟩ := DataW.trod_struct Try.underlying54 h
    rw [Rx.reg_cells] at hcl
    match cs, hcl with
    | [v0, v1, v2, v3, v4, v5], _ =>
      have hy : ys.length = 3 := hyl
      have g0 := hf 0 _ rfl
      change DataW.trod enc Try.prog W base spare held n' 5 (([v0, v1, v2, v3, v4, v5].drop 0).take (Try.prog.cellsOf 5)) = _ at g0
      rw [Rx.one_byte, List.getElem?_eq_getElem (by omega)] at g0
      have g1 := hf 1 _ rfl
      change DataW.trod enc Try.prog W base spare held n' 44 (([v0, v1, v2, v3, v4, v5].drop 1).take (Try.prog.cellsOf 44)) = _ at g1
      rw [Rx.set_cells, List.getElem?_eq_getElem (by omega)] at g1
      have g2 := hf 2 _ rfl
      change DataW.trod enc Try.prog W base spare held n' 22 (([v0, v1, v2, v3, v4, v5].drop 5).take (Try.prog.cellsOf 22)) = _ at g2
      rw [Rx.one_row, List.getElem?_eq_getElem (by omega)] at g2
      obtain ⟨k0, e0, _, w0⟩ := DataW.trod_int Try.underlying5 g0
      simp at e0
      subst e0
      obtain ⟨k, rfl, hk⟩ := Rx.byte_nat w0
      obtain ⟨f, rfl, rfl, rfl, rfl⟩ := Rx.set_open g1
      rcases DataW.trod_slice Try.underlying22 g2 with ⟨hcs, _⟩ | ⟨b, len, cap, elems, rest, n2, hfu2, hcs, _, _, hl, hm, hlen, hel, _, _⟩
      · simp at hcs
        subst hcs
        exact ⟨.node k f [], k, f, none, 0, 0, rfl, hk, none, 0, rfl, by simp [Rx.InL]⟩
      · simp at hcs
        subst hcs
        have key : ∀ i, ∃ y : Rx, i < len → Rx.In W y (b.add (i * 6)) := by
          intro i
          by_cases hil : i < len
          · have he := hel i hil
            rw [Rx.reg_cells, List.getElem?_eq_getElem (by omega)] at he
            obtain ⟨cs', hc, ht⟩ := Option.bind_eq_some_iff.1 he
            obtain ⟨y, k1, f1, a1, n1, cap1, hcs', hy1⟩ := ih n2 (by omega) cs' _ ht
            subst hcs'
            obtain ⟨_, _, hat⟩ := World.cells?_some hc
            have a0 := hat 0 (by decide)
            rw [Rx.add_zero] at a0
            have q1 := hat 1 (by decide)
            have q2 := hat 2 (by decide)
            have q3 := hat 3 (by decide)
            have q4 := hat 4 (by decide)
            have q5 := hat 5 (by decide)
            rw [Rx.add_form _ _ (by decide)] at q1 q2 q3 q4 q5
            refine ⟨y, fun _ => ?_⟩
            obtain ⟨k2, f2, l2⟩ := y
            obtain ⟨hk2, a2, cap2, e2, hl2⟩ := hy1
            simp only [Rx.In]
            refine ⟨hk2, a2, cap2, ?_, hl2⟩
            simp only [Rx.hdr, Value.agg.injEq] at e2
            simp at e2
            obtain ⟨e3, e4, e5, e6, e7, e8, e9, e10⟩ := e2
            refine ⟨?_, ?_, ?_, ?_, ?_, ?_⟩
            · rw [a0]; simp [e3]
            · rw [q1]; simp [e4]
            · rw [q2]; simp [e5]
            · rw [q3]; simp [e6]
            · rw [q4]; simp [e7]
            · rw [q5]; simp [e8, e9, e10]
          · exact ⟨Rx.nil, fun h => absurd h hil⟩
        obtain ⟨os, hos⟩ := Classical.skolem.1 key
        refine ⟨.node k f (List.ofFn (fun i : Fin len => os i)), k, f, some b, len, cap, rfl, hk, some b, cap, by simp, ?_⟩
        refine Rx.InL.of fun j hj => ?_
        have hjl : j < len := by simpa using hj
        refine ⟨b, rfl, ?_⟩
        rw [List.getElem_ofFn, Nat.zero_add]
        exact hos j hjl
end Go.Proofs.Ytnbbepgjpfhjdaa
namespace Go.Proofs.Ytnbbepgjpfhjdaa
set_option linter.unusedVariables false
set_option linter.unusedSimpArgs false
open Go.ChangeShapes Go.WideShapes Go.Deep Go.RowKit
set_option maxRecDepth 100000 in
theorem Rx.regs_open {H : Type} {enc : TypeId × Value → H} {W : World} {base : Nat} {spare : Nat → Bool} {held : Bool} {fuel : Nat} {a : Option Addr} {len cap : Nat} {x : DataW H × List MemPlace}
    (h : DataW.trod enc Try.prog W base spare held fuel 22 [.slice a len cap] = some x) : ∃ l : List Rx, l.length = len ∧ len ≤ maxLen ∧ Rx.InL W l a 0 := by
  rcases DataW.trod_slice Try.underlying22 h with ⟨hcs, _⟩ | ⟨b, len, cap, elems, rest, n2, hfu2, hcs, _, _, hl, hm, hlen, hel, _, _⟩
  · simp at hcs
    obtain ⟨rfl, rfl, rfl⟩ := hcs
    exact ⟨[], rfl, by unfold maxLen; omega, by simp [Rx.InL]⟩
  · simp at hcs
    obtain ⟨rfl, rfl, rfl⟩ := hcs
    have key : ∀ i, ∃ y : Rx, i < len → Rx.In W y (b.add (i * 6)) := by
      intro i
      by_cases hil : i < len
      · have he := hel i hil
        rw [Rx.reg_cells, List.getElem?_eq_getElem (by omega)] at he
        obtain ⟨cs', hc, ht⟩ := Option.bind_eq_some_iff.1 he
        obtain ⟨y, k1, f1, a1, n1, cap1, hcs', hy1⟩ := Rx.reg_open n2 cs' _ ht
        subst hcs'
        obtain ⟨_, _, hat⟩ := World.cells?_some hc
        have a0 := hat 0 (by decide)
        rw [Rx.add_zero] at a0
        have q1 := hat 1 (by decide)
        have q2 := hat 2 (by decide)
        have q3 := hat 3 (by decide)
        have q4 := hat 4 (by decide)
        have q5 := hat 5 (by decide)
        rw [Rx.add_form _ _ (by decide)] at q1 q2 q3 q4 q5
        refine ⟨y, fun _ => ?_⟩
        obtain ⟨k2, f2, l2⟩ := y
        obtain ⟨hk2, a2, cap2, e2, hl2⟩ := hy1
        simp only [Rx.In]
        refine ⟨hk2, a2, cap2, ?_, hl2⟩
        simp only [Rx.hdr, Value.agg.injEq] at e2
        simp at e2
        obtain ⟨e3, e4, e5, e6, e7, e8, e9, e10⟩ := e2
        refine ⟨?_, ?_, ?_, ?_, ?_, ?_⟩
        · rw [a0]; simp [e3]
        · rw [q1]; simp [e4]
        · rw [q2]; simp [e5]
        · rw [q3]; simp [e6]
        · rw [q4]; simp [e7]
        · rw [q5]; simp [e8, e9, e10]
      · exact ⟨Rx.nil, fun h => absurd h hil⟩
    obtain ⟨os, hos⟩ := Classical.skolem.1 key
    refine ⟨List.ofFn (fun i : Fin len => os i), by simp, Nat.le_trans hl hm, ?_⟩
    refine Rx.InL.of fun j hj => ?_
    have hjl : j < len := by simpa using hj
    refine ⟨b, rfl, ?_⟩
    rw [List.getElem_ofFn, Nat.zero_add]
    exact hos j hjl
end Go.Proofs.Ytnbbepgjpfhjdaa
