/- The law RegexMatches, walked. -/
import Derived.Test.YtigdelfoipcilaaRsB
import Derived.Test.YtigdelfoipcilaaRzG
import Derived.Test.YtigdelfoipcilaaRzI
namespace Go.Proofs.Ytigdelfoipcilaa
set_option linter.unusedVariables false
set_option linter.unusedSimpArgs false
open Go.RowKit
theorem Tb.by_px (s : ByteArray) : Tb.by s = Px.by s := by
  funext i
  simp only [Tb.by, Px.by]
  split
  · rename_i h
    have h' : i < s.data.toList.length := by simpa using h
    rw [List.getD_eq_getElem?_getD, List.getElem?_eq_getElem h']
    simp only [Option.getD_some, Array.getElem_toList]
    rfl
  · rename_i h
    have h' : s.data.toList.length ≤ i := by
      have : ¬ i < s.data.toList.length := by simpa using h
      omega
    rw [List.getD_eq_getElem?_getD, List.getElem?_eq_none h']
    rfl
/-- the two answers are one -/
theorem Tb.mt_sp {x : Rx} (t : ByteArray) (h : x.may 1 = true) : Rx.sp (Tb.by t) t.size x 0 t.size = Px.mt x t := by
  rw [Bool.eq_iff_iff, Px.mt_iff t h, Tb.by_px]
  exact Rx.sp_iff (Px.by t) t.size x (Rx.may_iff.1 h).1 0 t.size (Nat.zero_le _)
/-- the worlds of the law's last line -/
structure Tb.LM (w : World) (b : Nat) (x : Rx) (k : Nat) (f : Nat → Bool) (a : Option Addr) (n cap : Nat) (u : World) : Prop where
  n1 : Rx.Nod u b k f a n cap
  x1 : Rx.Is u x (Rx.hdr k f a n cap)
  bel : Below w.heap.size w u
theorem Tb.LM.up {w : World} {b : Nat} {x : Rx} {k : Nat} {f : Nat → Bool} {a : Option Addr} {n cap : Nat} {u u' : World} (h : Tb.LM w b x k f a n cap u) (hb : Below u.heap.size u u') : Tb.LM w b x k f a n cap u' := ⟨h.n1.up hb, h.x1.up hb, Bs.below_up h.bel hb⟩
def Tb.relM (s : ByteArray) (m em : Bool) (h : Value) : List (Value → World → Prop) := [
  fun v _ => v = h,
  fun v _ => v = .string s,
  fun v _ => v = .bool m,
  fun v _ => v = h,
  fun v _ => v = .string s,
  fun v _ => v = .bool m,
  fun v _ => v = .bool true,
  fun v _ => v = .bool true,
  fun v _ => v = h,
  fun v _ => v = .bool em,
  fun v _ => v = h,
  fun v _ => v = .bool em,
  fun v _ => v = .bool true,
  fun v _ => v = .bool true]
theorem Tb.relM_up (s : ByteArray) (m em : Bool) (h : Value) : Rg.Ups (Tb.relM s m em h) := by
  refine ⟨?_, ?_, ?_, ?_, ?_, ?_, ?_, ?_, ?_, ?_, ?_, ?_, ?_, ?_, trivial⟩
  all_goals intro v w w' h hb
  all_goals exact h
set_option maxRecDepth 100000 in
set_option maxHeartbeats 2000000 in
theorem matchesLaw_any (x : Rx) (v : Value) (s : ByteArray) (hs : s.size ≤ maxLen) (w : World) (hx : Rx.Is w x v) : Calls Try.prog 4 #[v, .string s] w fun e w' => e = .returned (.bool true) ∧ Below w.heap.size w w' := by
  have hm3 := hs
  unfold maxLen at hm3
  have hv : ∃ k f b n c, v = Rx.hdr k f b n c := by
    cases x
    obtain ⟨_, b, c, e, _⟩ := hx
    exact ⟨_, _, b, _, c, e⟩
  obtain ⟨k, f, a, n, cap, rfl⟩ := hv
  have A := Bs.below1 w (.cells #[.int .u8 k, .int .u64 (Bs.word f 0), .int .u64 (Bs.word f 1), .int .u64 (Bs.word f 2), .int .u64 (Bs.word f 3), .slice a n cap] 28)
  have N := Rx.nod_new w k f a n cap
  have X := hx.up A
  clear hx
  unfold Rx.hdr at X ⊢
  go_enter Try.func4, Try.ntmps4
  go_wp2_with fail
  generalize w.alloc (.cells #[.int .u8 k, .int .u64 (Bs.word f 0), .int .u64 (Bs.word f 1), .int .u64 (Bs.word f 2), .int .u64 (Bs.word f 3), .slice a n cap] 28) = W at *
  generalize hb0 : w.heap.size = b at N ⊢
  refine (alive6_any W).mono ?_
  rintro e w1 ⟨rfl, hb⟩
  replace A := Bs.below_up A hb
  replace N := N.up hb
  replace X := X.up hb
  clear hb
  by_cases h0 : 30 < s.size
  · have e0 : decide ((30 : Int) < (s.size : Int)) = true := decide_eq_true (by omega)
    go_wp2_with fail
    go_ret
    exact ⟨rfl, A⟩
  have e0 : decide ((30 : Int) < (s.size : Int)) = false := decide_eq_false (by omega)
  have HB0 := Lib.hid hb0
  clear hb0
  have CQ := Lib.hid (refCount_any x.size x (Nat.le_refl _) _ 1 _ X (by omega) (by omega))
  rw [Rx.cnt_eq x 1 (by omega)] at CQ
  have c0 := N.cell.c0; have c1 := N.cell.c1; have c2 := N.cell.c2; have c3 := N.cell.c3; have c4 := N.cell.c4; have c5 := N.cell.c5
  simp only [Nat.zero_add] at c0 c1 c2 c3 c4 c5
  go_wp2_with fail
  refine CQ.out.mono ?_
  rintro e w2 ⟨rfl, hb⟩
  replace A := Bs.below_up A hb
  replace N := N.up hb
  replace X := X.up hb
  clear hb CQ c0 c1 c2 c3 c4 c5
  have c0 := N.cell.c0; have c1 := N.cell.c1; have c2 := N.cell.c2; have c3 := N.cell.c3; have c4 := N.cell.c4; have c5 := N.cell.c5
  simp only [Nat.zero_add] at c0 c1 c2 c3 c4 c5
  have RT := Lib.hid (Right_any x _ _ X)
  cases hm : x.may 1
  · have HM := Lib.hid hm
    rw [hm] at RT
    clear hm
    have ecn : Rx.cntI (if false = true then some x.size else none) = -1 := rfl
    rw [ecn]
    clear ecn
    go_wp2_with fail
    refine RT.out.mono ?_
    rintro e w3 ⟨rfl, hb⟩
    replace A := Bs.below_up A hb
    replace N := N.up hb
    replace X := X.up hb
    clear hb RT c0 c1 c2 c3 c4 c5
    have c0 := N.cell.c0; have c1 := N.cell.c1; have c2 := N.cell.c2; have c3 := N.cell.c3; have c4 := N.cell.c4; have c5 := N.cell.c5
    simp only [Nat.zero_add] at c0 c1 c2 c3 c4 c5
    have MT := Lib.hid (Matches_any x _ s _ X hs)
    rw [show Px.mt x s = false by rw [Px.mt, HM.out]; rfl] at MT
    go_wp2_with fail
    refine MT.out.mono ?_
    rintro e w4 ⟨rfl, hb⟩
    replace A := Bs.below_up A hb
    replace N := N.up hb
    replace X := X.up hb
    clear hb MT c0 c1 c2 c3 c4 c5
    have c0 := N.cell.c0; have c1 := N.cell.c1; have c2 := N.cell.c2; have c3 := N.cell.c3; have c4 := N.cell.c4; have c5 := N.cell.c5
    simp only [Nat.zero_add] at c0 c1 c2 c3 c4 c5
    have EM := Lib.hid (Empty_any x _ _ X)
    rw [HM.out, Bool.false_and] at EM
    go_wp2_with fail
    refine EM.out.mono ?_
    rintro e w5 ⟨rfl, hb⟩
    replace A := Bs.below_up A hb
    replace N := N.up hb
    replace X := X.up hb
    clear hb EM c0 c1 c2 c3 c4 c5
    have c0 := N.cell.c0; have c1 := N.cell.c1; have c2 := N.cell.c2; have c3 := N.cell.c3; have c4 := N.cell.c4; have c5 := N.cell.c5
    simp only [Nat.zero_add] at c0 c1 c2 c3 c4 c5
    have ST := Lib.hid (Sets_any x _ _ X)
    rw [Px.setsOf_no HM.out] at ST
    go_wp2_with fail
    refine ST.out.mono ?_
    rintro e w6 ⟨a6, cap6, rfl, _, hb⟩
    replace A := Bs.below_up A hb
    clear hb ST c0 c1 c2 c3 c4 c5 N X
    simp only [List.length_nil]
    go_wp2_with fail
    go_ret
    exact ⟨rfl, A⟩
  · have HM := Lib.hid hm
    rw [hm] at RT
    have hp := x.size_pos
    have q1 : decide ((0 : Int) < (x.size : Int)) = true := decide_eq_true (by omega)
    have q4 : decide (0 < x.size) = true := decide_eq_true (by omega)
    have q2 : decide ((x.size : Int) < 0) = false := decide_eq_false (by omega)
    clear hm
    have ecn : Rx.cntI (if true = true then some x.size else none) = (x.size : Int) := rfl
    rw [ecn]
    clear ecn
    go_wp2_with fail
    refine RT.out.mono ?_
    rintro e w3 ⟨rfl, hb⟩
    replace A := Bs.below_up A hb
    replace N := N.up hb
    replace X := X.up hb
    clear hb RT c0 c1 c2 c3 c4 c5
    by_cases h60 : 60 < x.size
    · have q3 : decide ((60 : Int) < (x.size : Int)) = true := decide_eq_true (by omega)
      go_wp2_with fail
      go_ret
      exact ⟨rfl, A⟩
    · have q3 : decide ((60 : Int) < (x.size : Int)) = false := decide_eq_false (by omega)
      have HEQ := Lib.hid (Tb.mt_sp s HM.out)
      have HEQ0 := Lib.hid (show Rx.sp (Tb.by ⟨#[]⟩) (ByteArray.mk #[]).size x 0 (ByteArray.mk #[]).size = (x.may 1 && x.emp) by rw [Tb.mt_sp ⟨#[]⟩ HM.out, Px.mt, if_pos (by rfl)])
      have HWF := Lib.hid (Rx.may_iff.1 HM.out).1
      have LM : Tb.LM w b x k f a n cap w3 := ⟨N, X, A⟩
      clear N X A
      go_upto_region 12 with fail
      refine Rg.regionU (by kernel_rfl) 51 (by kernel_rfl) (by kernel_rfl) (by decide) (by exact Nat.le_refl 51) (Rg.rel (Tb.relM s (Px.mt x s) (x.may 1 && x.emp) (.agg #[.int .u8 k, .int .u64 (Bs.word f 0), .int .u64 (Bs.word f 1), .int .u64 (Bs.word f 2), .int .u64 (Bs.word f 3), .slice a n cap]))) (Tb.LM w b x k f a n cap) (fun w w' => Below w.heap.size w w') (fun i v w w' h _ hb => Rg.rel_up (Tb.relM_up _ _ _ _) h hb) (LM.up (Below.refl _ _).drew) (Rg.guards [(7, true)] (by kernel_rfl) (fun p hp v w h => by rw [List.mem_singleton.1 hp] at h ⊢; exact h)) ⟨?_, ?_, ?_, ?_, ?_, ?_, ?_, ?_, ?_, ?_, ?_, ?_, ?_, ?_, trivial⟩ ?_
      · intro fv u hw hd
        have c0 := hw.n1.cell.c0; have c1 := hw.n1.cell.c1; have c2 := hw.n1.cell.c2; have c3 := hw.n1.cell.c3; have c4 := hw.n1.cell.c4; have c5 := hw.n1.cell.c5
        simp only [Nat.zero_add] at c0 c1 c2 c3 c4 c5
        have HW := Lib.hid hw
        clear hw hd
        simp only [Rg.step, Rg.all, Act.put, List.setIfInBounds_toArray, List.set_cons_zero, List.set_cons_succ]
        go_simp
        first | exact ⟨rfl, HW.out, Below.refl _ _⟩ | exact ⟨HW.out, Below.refl _ _⟩
      · intro fv u hw hd
        have HW := Lib.hid hw
        clear hw hd
        simp only [Rg.step, Rg.all, Act.put, List.setIfInBounds_toArray, List.set_cons_zero, List.set_cons_succ]
        go_simp
        first | exact ⟨rfl, HW.out, Below.refl _ _⟩ | exact ⟨HW.out, Below.refl _ _⟩
      · intro fv u hw hd
        have e0 : fv 0 = .agg #[.int .u8 k, .int .u64 (Bs.word f 0), .int .u64 (Bs.word f 1), .int .u64 (Bs.word f 2), .int .u64 (Bs.word f 3), .slice a n cap] := hd _ (List.mem_cons_self ..)
        have e1 : fv 1 = .string s := hd _ (List.mem_cons_of_mem _ (List.mem_cons_self ..))
        have HM := Lib.hid (Matches_any x _ s u hw.x1 hs)
        unfold Rx.hdr at HM
        have HW := Lib.hid hw
        clear hw hd
        simp only [Rg.step, Rg.all, Act.put, List.setIfInBounds_toArray, List.set_cons_zero, List.set_cons_succ]
        go_simp
        refine HM.out.mono ?_
        rintro e u1 ⟨rfl, hb⟩
        exact ⟨_, rfl, rfl, HW.out.up hb, hb⟩
      · intro fv u hw hd
        have c0 := hw.n1.cell.c0; have c1 := hw.n1.cell.c1; have c2 := hw.n1.cell.c2; have c3 := hw.n1.cell.c3; have c4 := hw.n1.cell.c4; have c5 := hw.n1.cell.c5
        simp only [Nat.zero_add] at c0 c1 c2 c3 c4 c5
        have HW := Lib.hid hw
        clear hw hd
        simp only [Rg.step, Rg.all, Act.put, List.setIfInBounds_toArray, List.set_cons_zero, List.set_cons_succ]
        go_simp
        first | exact ⟨rfl, HW.out, Below.refl _ _⟩ | exact ⟨HW.out, Below.refl _ _⟩
      · intro fv u hw hd
        have HW := Lib.hid hw
        clear hw hd
        simp only [Rg.step, Rg.all, Act.put, List.setIfInBounds_toArray, List.set_cons_zero, List.set_cons_succ]
        go_simp
        first | exact ⟨rfl, HW.out, Below.refl _ _⟩ | exact ⟨HW.out, Below.refl _ _⟩
      · intro fv u hw hd
        have e3 : fv 3 = .agg #[.int .u8 k, .int .u64 (Bs.word f 0), .int .u64 (Bs.word f 1), .int .u64 (Bs.word f 2), .int .u64 (Bs.word f 3), .slice a n cap] := hd _ (List.mem_cons_self ..)
        have e4 : fv 4 = .string s := hd _ (List.mem_cons_of_mem _ (List.mem_cons_self ..))
        have HM := Lib.hid (refMatches_any s (by omega) x (by omega) HWF.out _ u hw.x1)
        unfold Rx.hdr at HM
        rw [HEQ.out] at HM
        have HW := Lib.hid hw
        clear hw hd
        simp only [Rg.step, Rg.all, Act.put, List.setIfInBounds_toArray, List.set_cons_zero, List.set_cons_succ]
        go_simp
        refine HM.out.mono ?_
        rintro e u1 ⟨rfl, hb⟩
        exact ⟨_, rfl, rfl, HW.out.up hb, hb⟩
      · intro fv u hw hd
        have e2 : fv 2 = .bool (Px.mt x s) := hd _ (List.mem_cons_self ..)
        have e5 : fv 5 = .bool (Px.mt x s) := hd _ (List.mem_cons_of_mem _ (List.mem_cons_self ..))
        have HW := Lib.hid hw
        clear hw hd
        simp only [Rg.step, Rg.all, Act.put, List.setIfInBounds_toArray, List.set_cons_zero, List.set_cons_succ]
        go_simp
        first | exact ⟨rfl, HW.out, Below.refl _ _⟩ | exact ⟨HW.out, Below.refl _ _⟩
      · intro fv u hw hd
        have e6 : fv 6 = .bool true := hd _ (List.mem_cons_self ..)
        have HW := Lib.hid hw
        clear hw hd
        simp only [Rg.step, Rg.all, Act.put, List.setIfInBounds_toArray, List.set_cons_zero, List.set_cons_succ]
        go_simp
        first | exact ⟨rfl, HW.out, Below.refl _ _⟩ | exact ⟨HW.out, Below.refl _ _⟩
      · intro fv u hw hd
        have c0 := hw.n1.cell.c0; have c1 := hw.n1.cell.c1; have c2 := hw.n1.cell.c2; have c3 := hw.n1.cell.c3; have c4 := hw.n1.cell.c4; have c5 := hw.n1.cell.c5
        simp only [Nat.zero_add] at c0 c1 c2 c3 c4 c5
        have HW := Lib.hid hw
        clear hw hd
        simp only [Rg.step, Rg.all, Act.put, List.setIfInBounds_toArray, List.set_cons_zero, List.set_cons_succ]
        go_simp
        first | exact ⟨rfl, HW.out, Below.refl _ _⟩ | exact ⟨HW.out, Below.refl _ _⟩
      · intro fv u hw hd
        have e8 : fv 8 = .agg #[.int .u8 k, .int .u64 (Bs.word f 0), .int .u64 (Bs.word f 1), .int .u64 (Bs.word f 2), .int .u64 (Bs.word f 3), .slice a n cap] := hd _ (List.mem_cons_self ..)
        have HM := Lib.hid (Empty_any x _ u hw.x1)
        unfold Rx.hdr at HM
        have HW := Lib.hid hw
        clear hw hd
        simp only [Rg.step, Rg.all, Act.put, List.setIfInBounds_toArray, List.set_cons_zero, List.set_cons_succ]
        go_simp
        refine HM.out.mono ?_
        rintro e u1 ⟨rfl, hb⟩
        exact ⟨_, rfl, rfl, HW.out.up hb, hb⟩
      · intro fv u hw hd
        have c0 := hw.n1.cell.c0; have c1 := hw.n1.cell.c1; have c2 := hw.n1.cell.c2; have c3 := hw.n1.cell.c3; have c4 := hw.n1.cell.c4; have c5 := hw.n1.cell.c5
        simp only [Nat.zero_add] at c0 c1 c2 c3 c4 c5
        have HW := Lib.hid hw
        clear hw hd
        simp only [Rg.step, Rg.all, Act.put, List.setIfInBounds_toArray, List.set_cons_zero, List.set_cons_succ]
        go_simp
        first | exact ⟨rfl, HW.out, Below.refl _ _⟩ | exact ⟨HW.out, Below.refl _ _⟩
      · intro fv u hw hd
        have e10 : fv 10 = .agg #[.int .u8 k, .int .u64 (Bs.word f 0), .int .u64 (Bs.word f 1), .int .u64 (Bs.word f 2), .int .u64 (Bs.word f 3), .slice a n cap] := hd _ (List.mem_cons_self ..)
        have HM := Lib.hid (refMatches_any ⟨#[]⟩ (by decide) x (by omega) HWF.out _ u hw.x1)
        unfold Rx.hdr at HM
        rw [HEQ0.out] at HM
        have HW := Lib.hid hw
        clear hw hd
        simp only [Rg.step, Rg.all, Act.put, List.setIfInBounds_toArray, List.set_cons_zero, List.set_cons_succ]
        go_simp
        refine HM.out.mono ?_
        rintro e u1 ⟨rfl, hb⟩
        exact ⟨_, rfl, rfl, HW.out.up hb, hb⟩
      · intro fv u hw hd
        have e9 : fv 9 = .bool (x.may 1 && x.emp) := hd _ (List.mem_cons_self ..)
        have e11 : fv 11 = .bool (x.may 1 && x.emp) := hd _ (List.mem_cons_of_mem _ (List.mem_cons_self ..))
        have HW := Lib.hid hw
        clear hw hd
        simp only [Rg.step, Rg.all, Act.put, List.setIfInBounds_toArray, List.set_cons_zero, List.set_cons_succ]
        go_simp
        first | exact ⟨rfl, HW.out, Below.refl _ _⟩ | exact ⟨HW.out, Below.refl _ _⟩
      · intro fv u hw hd
        have e7 : fv 7 = .bool true := hd _ (List.mem_cons_self ..)
        have e12 : fv 12 = .bool true := hd _ (List.mem_cons_of_mem _ (List.mem_cons_self ..))
        have HW := Lib.hid hw
        clear hw hd
        simp only [Rg.step, Rg.all, Act.put, List.setIfInBounds_toArray, List.set_cons_zero, List.set_cons_succ]
        go_simp
        first | exact ⟨rfl, HW.out, Below.refl _ _⟩ | exact ⟨HW.out, Below.refl _ _⟩
      · intro fv u hw hR o ho
        have r13 : fv 13 = .bool true := hR 13 (by decide)
        simp at ho
        subst ho
        simp only [Rg.step, Rg.all, Act.put, List.setIfInBounds_toArray, List.set_cons_zero, List.set_cons_succ]
        have HA := Lib.hid hw.bel
        clear hw hR
        go_simp
        go_wp2_with fail
        go_ret
        exact ⟨rfl, HA.out⟩
end Go.Proofs.Ytigdelfoipcilaa
