/- The law RegexTexts, walked. -/
import Derived.Test.YtigdelfoipcilaaRxW
import Derived.Test.YtigdelfoipcilaaRsB
namespace Go.Proofs.Ytigdelfoipcilaa
set_option linter.unusedVariables false
set_option linter.unusedSimpArgs false
open Go.RowKit
theorem Tb.by_px (s : ByteArray) : Tb.by s = Px.by s := by
  funext i
  simp only [Tb.by, Px.by]
  split
  · rename_i h
    have h' : i < s.data.toList.length := by simpa using h
    rw [List.getD_eq_getElem?_getD, List.getElem?_eq_getElem h']
    simp only [Option.getD_some, Array.getElem_toList]
    rfl
  · rename_i h
    have h' : s.data.toList.length ≤ i := by
      have : ¬ i < s.data.toList.length := by simpa using h
      omega
    rw [List.getD_eq_getElem?_getD, List.getElem?_eq_none h']
    rfl
/-- the two answers are one -/
theorem Tb.mt_sp {x : Rx} (t : ByteArray) (h : x.may 1 = true) : Rx.sp (Tb.by t) t.size x 0 t.size = Px.mt x t := by
  rw [Bool.eq_iff_iff, Px.mt_iff t h, Tb.by_px]
  exact Rx.sp_iff (Px.by t) t.size x (Rx.may_iff.1 h).1 0 t.size (Nat.zero_le _)
/-- the worlds of the law's last line -/
structure Tb.LT (w : World) (b b2 : Nat) (x : Rx) (k : Nat) (f : Nat → Bool) (a : Option Addr) (n cap : Nat) (k2 : Nat) (f2 : Nat → Bool) (a2 : Option Addr) (n2 cap2 : Nat) (u : World) : Prop where
  m1 : Rx.Nod u b k f a n cap
  m2 : Rx.Nod u b2 k2 f2 a2 n2 cap2
  x1 : Rx.Is u x (Rx.hdr k f a n cap)
  x2 : Rx.Is u x (Rx.hdr k2 f2 a2 n2 cap2)
  bel : Below w.heap.size w u
theorem Tb.LT.up {w : World} {b b2 : Nat} {x : Rx} {k : Nat} {f : Nat → Bool} {a : Option Addr} {n cap k2 : Nat} {f2 : Nat → Bool} {a2 : Option Addr} {n2 cap2 : Nat} {u u' : World} (h : Tb.LT w b b2 x k f a n cap k2 f2 a2 n2 cap2 u) (hb : Below u.heap.size u u') : Tb.LT w b b2 x k f a n cap k2 f2 a2 n2 cap2 u' := ⟨h.m1.up hb, h.m2.up hb, h.x1.up hb, h.x2.up hb, Bs.below_up h.bel hb⟩
def Tb.relT (t : ByteArray) (m : Bool) (h1 h2 : Value) : List (Value → World → Prop) := [
  fun v _ => v = .int .i64 0,
  fun v _ => v = .bool true,
  fun v _ => v = .bool true,
  fun v _ => v = h1,
  fun v _ => v = .string t,
  fun v _ => v = .bool m,
  fun v _ => v = h2,
  fun v _ => v = .string t,
  fun v _ => v = .bool m,
  fun v _ => v = .bool true,
  fun v _ => v = .bool true]
theorem Tb.relT_up (t : ByteArray) (m : Bool) (h1 h2 : Value) : Rg.Ups (Tb.relT t m h1 h2) := by
  refine ⟨?_, ?_, ?_, ?_, ?_, ?_, ?_, ?_, ?_, ?_, ?_, trivial⟩
  all_goals intro v w w' h hb
  all_goals exact h
set_option maxRecDepth 100000 in
set_option maxHeartbeats 2000000 in
theorem textsLaw_any (s t : ByteArray) (hmax : s.size ≤ maxLen) (ht : t.size ≤ maxLen) (w : World) : Calls Try.prog 5 #[.string s, .string t] w fun e w' => e = .returned (.bool true) ∧ Below w.heap.size w w' := by
  have hm2 := hmax
  unfold maxLen at hm2
  have hm3 := ht
  unfold maxLen at hm3
  go_enter Try.func5, Try.ntmps5
  go_wp2_with fail
  refine (alive6_any w).mono ?_
  rintro e w1 ⟨rfl, A⟩
  by_cases h0 : 30 < t.size
  · have e0 : decide ((30 : Int) < (t.size : Int)) = true := decide_eq_true (by omega)
    go_wp2_with fail
    go_ret
    exact ⟨rfl, A⟩
  have e0 : decide ((30 : Int) < (t.size : Int)) = false := decide_eq_false (by omega)
  have P := Lib.hid (Parse_any s hmax w1)
  go_wp2_with fail
  refine P.out.mono ?_
  rintro e w2 ⟨v, x, rfl, hx, h1, h2, hb⟩
  replace A := Bs.below_up A hb
  obtain ⟨k, f, a, n, cap, rfl⟩ := hx.form
  clear P hb
  have B := Bs.below1 w2 (.cells #[.int .u8 k, .int .u64 (Bs.word f 0), .int .u64 (Bs.word f 1), .int .u64 (Bs.word f 2), .int .u64 (Bs.word f 3), .slice a n cap] 28)
  replace A := Bs.below_up A B
  have N := Rx.nod_new w2 k f a n cap
  have X := hx.is.up B
  have H12 := Lib.hid (And.intro h1 h2)
  clear B hx h1 h2
  unfold Rx.hdr at X ⊢
  have Q := Lib.hid (refParse_any s hmax (w2.alloc (.cells #[.int .u8 k, .int .u64 (Bs.word f 0), .int .u64 (Bs.word f 1), .int .u64 (Bs.word f 2), .int .u64 (Bs.word f 3), .slice a n cap] 28)))
  go_wp2_with fail
  refine Q.out.mono ?_
  generalize w2.alloc (.cells #[.int .u8 k, .int .u64 (Bs.word f 0), .int .u64 (Bs.word f 1), .int .u64 (Bs.word f 2), .int .u64 (Bs.word f 3), .slice a n cap] 28) = W at *
  generalize w2.heap.size = b at *
  rintro e w3 ⟨v, y, rfl, hy, h3, h4, hb⟩
  obtain ⟨hxy, hsz, hmy⟩ := Px.one_parse H12.out.1 H12.out.2 h3 h4
  subst hxy
  have HMY := Lib.hid hmy
  clear Q H12 h3 h4 hmy
  replace A := Bs.below_up A hb
  replace N := N.up hb
  replace X := X.up hb
  obtain ⟨k2, f2, a2, n2, cap2, rfl⟩ := hy.form
  have B := Bs.below1 w3 (.cells #[.int .u8 k2, .int .u64 (Bs.word f2 0), .int .u64 (Bs.word f2 1), .int .u64 (Bs.word f2 2), .int .u64 (Bs.word f2 3), .slice a2 n2 cap2] 28)
  replace A := Bs.below_up A B
  replace N := N.up B
  replace X := X.up B
  have N2 := Rx.nod_new w3 k2 f2 a2 n2 cap2
  have Y := hy.is.up B
  clear B hy hb
  obtain ⟨cc, hcc⟩ : ∃ cc, Px.code s = cc := ⟨_, rfl⟩
  rw [hcc] at HMY ⊢
  clear hcc
  unfold Rx.hdr at Y ⊢
  have d0 := N2.cell.c0; have d1 := N2.cell.c1; have d2 := N2.cell.c2; have d3 := N2.cell.c3; have d4 := N2.cell.c4; have d5 := N2.cell.c5
  simp only [Nat.zero_add] at d0 d1 d2 d3 d4 d5
  have ec : (cc == cc) = true := beq_self_eq_true _
  by_cases hc : cc = 0
  · have HR := Lib.hid (HMY.out hc)
    subst hc
    have CQ := Lib.hid (refCount_any x.size x (Nat.le_refl _) _ 1 _ Y (by omega) (by omega))
    rw [Rx.cnt_eq x 1 (by omega), HR.out] at CQ
    simp only [if_true, Rx.CPost, Rx.cntI] at CQ
    go_wp2_with fail
    generalize w3.alloc (.cells #[.int .u8 k2, .int .u64 (Bs.word f2 0), .int .u64 (Bs.word f2 1), .int .u64 (Bs.word f2 2), .int .u64 (Bs.word f2 3), .slice a2 n2 cap2] 28) = V at *
    generalize w3.heap.size = b2 at *
    refine CQ.out.mono ?_
    rintro e w4 ⟨rfl, hb⟩
    replace A := Bs.below_up A hb
    replace N := N.up hb
    replace X := X.up hb
    replace N2 := N2.up hb
    replace Y := Y.up hb
    clear hb CQ d0 d1 d2 d3 d4 d5
    have ecn : Rx.cntI (some x.size) = (x.size : Int) := rfl
    rw [ecn]
    clear ecn
    by_cases h100 : 100 < x.size
    · have e1 : decide ((100 : Int) < (x.size : Int)) = true := decide_eq_true (by omega)
      go_wp2_with fail
      go_ret
      exact ⟨rfl, A⟩
    · have e1 : decide ((100 : Int) < (x.size : Int)) = false := decide_eq_false (by omega)
      have HEQ := Lib.hid (Tb.mt_sp t HR.out)
      have HWF := Lib.hid (Rx.may_iff.1 HR.out).1
      have LT : Tb.LT w b b2 x k f a n cap k2 f2 a2 n2 cap2 w4 := ⟨N, N2, X, Y, A⟩
      clear N N2 X Y A
      go_upto_region 11 with fail
      refine Rg.regionU (by kernel_rfl) 45 (by kernel_rfl) (by kernel_rfl) (by decide) (by exact Nat.le_refl 45) (Rg.rel (Tb.relT t (Px.mt x t) (.agg #[.int .u8 k, .int .u64 (Bs.word f 0), .int .u64 (Bs.word f 1), .int .u64 (Bs.word f 2), .int .u64 (Bs.word f 3), .slice a n cap]) (.agg #[.int .u8 k2, .int .u64 (Bs.word f2 0), .int .u64 (Bs.word f2 1), .int .u64 (Bs.word f2 2), .int .u64 (Bs.word f2 3), .slice a2 n2 cap2]))) (Tb.LT w b b2 x k f a n cap k2 f2 a2 n2 cap2) (fun w w' => Below w.heap.size w w') (fun i v w w' h _ hb => Rg.rel_up (Tb.relT_up _ _ _ _) h hb) (LT.up (Below.refl _ _).drew) (Rg.guards [(2, true)] (by kernel_rfl) (fun p hp v w h => by rw [List.mem_singleton.1 hp] at h ⊢; exact h)) ⟨?_, ?_, ?_, ?_, ?_, ?_, ?_, ?_, ?_, ?_, ?_, trivial⟩ ?_
      · intro fv u hw hd
        have HW := Lib.hid hw
        clear hw hd
        simp only [Rg.step, Rg.all, Act.put, List.setIfInBounds_toArray, List.set_cons_zero, List.set_cons_succ]
        go_simp
        first | exact ⟨rfl, HW.out, Below.refl _ _⟩ | exact ⟨HW.out, Below.refl _ _⟩
      · intro fv u hw hd
        have e0 : fv 0 = .int .i64 0 := hd _ (List.mem_cons_self ..)
        have HW := Lib.hid hw
        clear hw hd
        simp only [Rg.step, Rg.all, Act.put, List.setIfInBounds_toArray, List.set_cons_zero, List.set_cons_succ]
        go_simp
        first | exact ⟨rfl, HW.out, Below.refl _ _⟩ | exact ⟨HW.out, Below.refl _ _⟩
      · intro fv u hw hd
        have e1 : fv 1 = .bool true := hd _ (List.mem_cons_self ..)
        have HW := Lib.hid hw
        clear hw hd
        simp only [Rg.step, Rg.all, Act.put, List.setIfInBounds_toArray, List.set_cons_zero, List.set_cons_succ]
        go_simp
        first | exact ⟨rfl, HW.out, Below.refl _ _⟩ | exact ⟨HW.out, Below.refl _ _⟩
      · intro fv u hw hd
        have c0 := hw.m1.cell.c0; have c1 := hw.m1.cell.c1; have c2 := hw.m1.cell.c2; have c3 := hw.m1.cell.c3; have c4 := hw.m1.cell.c4; have c5 := hw.m1.cell.c5
        simp only [Nat.zero_add] at c0 c1 c2 c3 c4 c5
        have HW := Lib.hid hw
        clear hw hd
        simp only [Rg.step, Rg.all, Act.put, List.setIfInBounds_toArray, List.set_cons_zero, List.set_cons_succ]
        go_simp
        first | exact ⟨rfl, HW.out, Below.refl _ _⟩ | exact ⟨HW.out, Below.refl _ _⟩
      · intro fv u hw hd
        have HW := Lib.hid hw
        clear hw hd
        simp only [Rg.step, Rg.all, Act.put, List.setIfInBounds_toArray, List.set_cons_zero, List.set_cons_succ]
        go_simp
        first | exact ⟨rfl, HW.out, Below.refl _ _⟩ | exact ⟨HW.out, Below.refl _ _⟩
      · intro fv u hw hd
        have e3 : fv 3 = .agg #[.int .u8 k, .int .u64 (Bs.word f 0), .int .u64 (Bs.word f 1), .int .u64 (Bs.word f 2), .int .u64 (Bs.word f 3), .slice a n cap] := hd _ (List.mem_cons_self ..)
        have e4 : fv 4 = .string t := hd _ (List.mem_cons_of_mem _ (List.mem_cons_self ..))
        have HM := Lib.hid (Matches_any x _ t u hw.x1 ht)
        unfold Rx.hdr at HM
        have HW := Lib.hid hw
        clear hw hd
        simp only [Rg.step, Rg.all, Act.put, List.setIfInBounds_toArray, List.set_cons_zero, List.set_cons_succ]
        go_simp
        refine HM.out.mono ?_
        rintro e u1 ⟨rfl, hb⟩
        exact ⟨_, rfl, rfl, HW.out.up hb, hb⟩
      · intro fv u hw hd
        have c0 := hw.m2.cell.c0; have c1 := hw.m2.cell.c1; have c2 := hw.m2.cell.c2; have c3 := hw.m2.cell.c3; have c4 := hw.m2.cell.c4; have c5 := hw.m2.cell.c5
        simp only [Nat.zero_add] at c0 c1 c2 c3 c4 c5
        have HW := Lib.hid hw
        clear hw hd
        simp only [Rg.step, Rg.all, Act.put, List.setIfInBounds_toArray, List.set_cons_zero, List.set_cons_succ]
        go_simp
        first | exact ⟨rfl, HW.out, Below.refl _ _⟩ | exact ⟨HW.out, Below.refl _ _⟩
      · intro fv u hw hd
        have HW := Lib.hid hw
        clear hw hd
        simp only [Rg.step, Rg.all, Act.put, List.setIfInBounds_toArray, List.set_cons_zero, List.set_cons_succ]
        go_simp
        first | exact ⟨rfl, HW.out, Below.refl _ _⟩ | exact ⟨HW.out, Below.refl _ _⟩
      · intro fv u hw hd
        have e6 : fv 6 = .agg #[.int .u8 k2, .int .u64 (Bs.word f2 0), .int .u64 (Bs.word f2 1), .int .u64 (Bs.word f2 2), .int .u64 (Bs.word f2 3), .slice a2 n2 cap2] := hd _ (List.mem_cons_self ..)
        have e7 : fv 7 = .string t := hd _ (List.mem_cons_of_mem _ (List.mem_cons_self ..))
        have HM := Lib.hid (refMatches_any t (by omega) x (by omega) HWF.out _ u hw.x2)
        unfold Rx.hdr at HM
        rw [HEQ.out] at HM
        have HW := Lib.hid hw
        clear hw hd
        simp only [Rg.step, Rg.all, Act.put, List.setIfInBounds_toArray, List.set_cons_zero, List.set_cons_succ]
        go_simp
        refine HM.out.mono ?_
        rintro e u1 ⟨rfl, hb⟩
        exact ⟨_, rfl, rfl, HW.out.up hb, hb⟩
      · intro fv u hw hd
        have e5 : fv 5 = .bool (Px.mt x t) := hd _ (List.mem_cons_self ..)
        have e8 : fv 8 = .bool (Px.mt x t) := hd _ (List.mem_cons_of_mem _ (List.mem_cons_self ..))
        have HW := Lib.hid hw
        clear hw hd
        simp only [Rg.step, Rg.all, Act.put, List.setIfInBounds_toArray, List.set_cons_zero, List.set_cons_succ]
        go_simp
        first | exact ⟨rfl, HW.out, Below.refl _ _⟩ | exact ⟨HW.out, Below.refl _ _⟩
      · intro fv u hw hd
        have e2 : fv 2 = .bool true := hd _ (List.mem_cons_self ..)
        have e9 : fv 9 = .bool true := hd _ (List.mem_cons_of_mem _ (List.mem_cons_self ..))
        have HW := Lib.hid hw
        clear hw hd
        simp only [Rg.step, Rg.all, Act.put, List.setIfInBounds_toArray, List.set_cons_zero, List.set_cons_succ]
        go_simp
        first | exact ⟨rfl, HW.out, Below.refl _ _⟩ | exact ⟨HW.out, Below.refl _ _⟩
      · intro fv u hw hR o ho
        have r10 : fv 10 = .bool true := hR 10 (by decide)
        simp at ho
        subst ho
        simp only [Rg.step, Rg.all, Act.put, List.setIfInBounds_toArray, List.set_cons_zero, List.set_cons_succ]
        have HA := Lib.hid hw.bel
        clear hw hR
        go_simp
        go_wp2_with fail
        go_ret
        exact ⟨rfl, HA.out⟩
  · have k1 : (cc == 0) = false := by simp; omega
    have k2' : (cc != 0) = true := by simp; omega
    go_wp2_with fail
    go_ret
    exact ⟨rfl, A⟩
end Go.Proofs.Ytigdelfoipcilaa
