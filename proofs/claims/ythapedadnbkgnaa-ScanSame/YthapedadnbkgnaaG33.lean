/- The law ScanNext, walked. What Same answers, walked. The law ScanSame, walked. An expression that comes in, opened to its tree. Rows of expressions, and fronts, that come in, opened. Tables, and slices of texts, that come in, opened. -/
import Derived.Test.YthapedadnbkgnaaG32
import Derived.Test.YthapedadnbkgnaaG31
import Derived.Test.YthapedadnbkgnaaG3
import Derived.Deep.Slices
import Derived.ChangeSame
import Derived.OpenShut
import Derived.WideKeyArr2
import Derived.Laws.IdiomArrays
import Derived.Test.YthapedadnbkgnaaG5
import Derived.SliceStrings
namespace Go.Proofs.Ythapedadnbkgnaa
set_option linter.unusedVariables false
set_option linter.unusedSimpArgs false
open Go.RowKit
theorem Df.Tv.cell6 {w : World} {D : Array Value} {g : Nat → Nat} {N : List (List Int)} {R : List Int} (h : Df.Tv w (.agg D) g N R) : ∃ a c, D[256]? = some (.slice a N.length c) := by
  obtain ⟨t1, m1, q1, rows, t2, m2, q2, e, hl, _, hR, _⟩ := h.is
  unfold Df.tab at e
  injection e with e
  subst e
  refine ⟨t1, q1, ?_⟩
  rw [Array.getElem?_append_right (by rw [Bs.arr_size]; omega), Bs.arr_size, ← hR.1, hl]
  rfl
structure Sc.XW (w0 : World) (b xb : Nat) (D : Array Value) (g : Nat → Nat) (N : List (List Int)) (R : List Int) (x : Sc.Lx) (u : World) : Prop where
  aw : Df.AW w0 b D g N R u
  m1 : Sc.LB u xb x
theorem Sc.XW.up {w0 : World} {b xb : Nat} {D : Array Value} {g : Nat → Nat} {N : List (List Int)} {R : List Int} {x : Sc.Lx} {u u' : World} (h : Sc.XW w0 b xb D g N R x u) (hb : Below u.heap.size u u') : Sc.XW w0 b xb D g N R x u' := ⟨h.aw.up hb, h.m1.up hb⟩
end Go.Proofs.Ythapedadnbkgnaa
namespace Go.Proofs.Ythapedadnbkgnaa
set_option linter.unusedVariables false
set_option linter.unusedSimpArgs false
open Go.RowKit
set_option maxRecDepth 100000 in
set_option maxHeartbeats 1000000 in
theorem hasPrefixL_no (t p : ByteArray) (w : World) (h : t.size < p.size) : Calls Try.prog 60 #[.string t, .string p] w fun e w' => e = .returned (.bool false) ∧ Below w.heap.size w w' := by
  have d1 : decide ((t.size : Int) ≥ (p.size : Int)) = false := decide_eq_false (by omega)
  have d2 : decide ((p.size : Int) ≤ (t.size : Int)) = false := decide_eq_false (by omega)
  have d3 : decide (p.size ≤ t.size) = false := decide_eq_false (by omega)
  go_enter Try.func60, Try.ntmps60
  go_wp2_with fail
  go_ret
  exact ⟨rfl, Below.refl _ _⟩
set_option maxRecDepth 100000 in
set_option maxHeartbeats 1000000 in
theorem hasPrefixL_yes (t p : ByteArray) (w : World) (h : p.size ≤ t.size) : Calls Try.prog 60 #[.string t, .string p] w fun e w' => e = .returned (.bool ((t.extract 0 p.size).toList == p.toList)) ∧ Below w.heap.size w w' := by
  have d1 : decide ((t.size : Int) ≥ (p.size : Int)) = true := decide_eq_true (by omega)
  have d2 : decide ((p.size : Int) ≤ (t.size : Int)) = true := decide_eq_true (by omega)
  have d3 : decide (p.size ≤ t.size) = true := decide_eq_true (by omega)
  have i1 : (0 : Int) ≤ (p.size : Int) := by omega
  have i2 : (p.size : Int) ≤ (t.size : Int) := by omega
  go_enter Try.func60, Try.ntmps60
  go_wp2_with fail
  go_ret
  exact ⟨rfl, Below.refl _ _⟩
def Sc.pre (t p : ByteArray) : Bool := decide (p.size ≤ t.size) && ((t.extract 0 p.size).toList == p.toList)
set_option maxRecDepth 100000 in
theorem hasPrefix_any (t p : ByteArray) (w : World) : Calls Try.prog 37 #[.string t, .string p] w fun e w' => e = .returned (.bool (Sc.pre t p)) ∧ Below w.heap.size w w' := by
  have C : Hid (Calls Try.prog 60 #[.string t, .string p] w fun e w' => e = .returned (.bool (Sc.pre t p)) ∧ Below w.heap.size w w') := Lib.hid (by
    by_cases h : p.size ≤ t.size
    · have := hasPrefixL_yes t p w h
      unfold Sc.pre
      rwa [decide_eq_true h, Bool.true_and]
    · have := hasPrefixL_no t p w (by omega)
      unfold Sc.pre
      rwa [decide_eq_false h, Bool.false_and])
  generalize Sc.pre t p = bq at *
  go_enter Try.func37, Try.ntmps37
  go_wp2_with fail
  refine C.out.mono ?_
  rintro e w' ⟨rfl, hb⟩
  go_wp2_with fail
  go_ret
  exact ⟨rfl, hb⟩
def Sc.same (s t : ByteArray) (k : Nat) : Bool := if s.size < k then s.toList == t.toList else Sc.pre t (s.extract 0 k)
set_option maxRecDepth 100000 in
set_option maxHeartbeats 1000000 in
theorem same_any (s t : ByteArray) (x : Sc.Lx) (k : Nat) (hk : x.seen = k) (hk2 : k ≤ 1000000000) (w : World) : Calls Try.prog 16 #[.string s, .string t, .agg (Sc.val x)] w fun e w' => e = .returned (.bool (Sc.same s t k)) ∧ Below w.heap.size w w' := by
  have bx := Bs.below1 w (.cells (Sc.val x) 47)
  have HL := Lib.hid (Sc.lb_new w x)
  unfold Sc.val at bx HL ⊢
  have HK := Lib.hid hk
  clear hk
  go_enter Try.func16, Try.ntmps16
  go_upto_region 1 with fail
  have HB := Lib.hid bx
  clear bx
  generalize w.alloc (.cells #[.int .i64 x.rule, .int .i64 x.at', .int .i64 x.upto, .int .i64 x.seen] 47) = W at *
  generalize hwb : w.heap.size = b at *
  have m3 := HL.out.cells.2.2.2
  rw [HK.out] at m3
  by_cases hs : s.size < k
  · have d1 : decide ((k : Int) > (s.size : Int)) = true := decide_eq_true (by omega)
    have d2 : decide ((s.size : Int) < (k : Int)) = true := decide_eq_true (by omega)
    have d3 : decide (s.size < k) = true := decide_eq_true hs
    have HS := Lib.hid (show Sc.same s t k = (s.toList == t.toList) by unfold Sc.same; rw [if_pos hs])
    go_wp2_with fail
    go_ret
    exact ⟨by rw [HS.out]; rfl, by rw [← hwb] at HB; exact HB.out⟩
  · have d1 : decide ((k : Int) > (s.size : Int)) = false := decide_eq_false (by omega)
    have d2 : decide ((s.size : Int) < (k : Int)) = false := decide_eq_false (by omega)
    have d3 : decide (s.size < k) = false := decide_eq_false hs
    have HS := Lib.hid (show Sc.same s t k = Sc.pre t (s.extract 0 k) by unfold Sc.same; rw [if_neg hs])
    have C := Lib.hid (hasPrefix_any t (s.extract 0 k) W)
    have i1 : (0 : Int) ≤ (k : Int) := by omega
    have i2 : (k : Int) ≤ (s.size : Int) := by omega
    have i3 : max (k : Int) 0 = (k : Int) := by omega
    go_wp2_with fail
    refine C.out.mono ?_
    rintro e w' ⟨rfl, hb⟩
    have HB2 := Lib.hid (show Below b w w' from HB.out.trans (hb.mono (by have := HB.out.size; omega)))
    clear C hb
    generalize Sc.pre t (s.extract 0 k) = bq at *
    go_wp2_with fail
    go_ret
    exact ⟨by rw [HS.out]; rfl, by rw [← hwb] at HB2; exact HB2.out⟩
end Go.Proofs.Ythapedadnbkgnaa
namespace Go.Proofs.Ythapedadnbkgnaa
set_option linter.unusedVariables false
set_option linter.unusedSimpArgs false
open Go.RowKit
theorem Sc.bytes_eq {s t : ByteArray} (h : (s.toList == t.toList) = true) : s = t := by
  have h := eq_of_beq h
  rw [ByteArray.toList_eq, ByteArray.toList_eq] at h
  exact ByteArray.ext (Array.toList_inj.1 h)
theorem Sc.same_le {s t : ByteArray} {k : Nat} (hk : k ≤ s.size) : Sc.same s t k = (decide (k ≤ t.size) && ((s.extract 0 k).toList == (t.extract 0 k).toList)) := by
  have hz : (s.extract 0 k).size = k := by rw [ByteArray.size_extract]; omega
  unfold Sc.same Sc.pre
  rw [if_neg (by omega), hz]
  congr 1
  rw [Bool.eq_iff_iff, beq_iff_eq, beq_iff_eq]
  exact ⟨Eq.symm, Eq.symm⟩
theorem Sc.px_same {g : Nat → Nat} {N : List (List Int)} {R : List Int} {s t : ByteArray} {a k : Nat} (ha : a ≤ s.size) (hk : (Sc.px g N R (Px.by s) s.size a).seen = k) (hks : k ≤ s.size) (hkt : k ≤ t.size) (he : s.extract 0 k = t.extract 0 k) : a ≤ t.size ∧ Sc.px g N R (Px.by t) t.size a = Sc.px g N R (Px.by s) s.size a := by
  have hk' : a + Sc.stop g N (Sc.sh (Px.by s) a) (s.size - a) + (if 0 ≤ Df.rn g N (Sc.sh (Px.by s) a) (s.size - a) then 1 else 0) = k := by
    have : (((a + Sc.stop g N (Sc.sh (Px.by s) a) (s.size - a) + (if 0 ≤ Df.rn g N (Sc.sh (Px.by s) a) (s.size - a) then 1 else 0) : Nat)) : Int) = (k : Int) := hk
    omega
  have hlt : Df.rn g N (Sc.sh (Px.by s) a) (s.size - a) < 0 := by
    refine Int.not_le.1 fun h0 => ?_
    rw [if_pos h0, Sc.stop_live h0] at hk'
    omega
  rw [if_neg (by omega)] at hk'
  have hle := Sc.stop_le (g := g) (N := N) (b := Sc.sh (Px.by s) a) (s.size - a)
  have hq := Sc.stop_first _ hlt
  obtain ⟨q, hq2⟩ : ∃ q, Sc.stop g N (Sc.sh (Px.by s) a) (s.size - a) = q := ⟨_, rfl⟩
  rw [hq2] at hk' hle hq
  have hat : a ≤ t.size := by omega
  have hby : ∀ i, i < q → Sc.sh (Px.by t) a i = Sc.sh (Px.by s) a i := fun i hi => by
    have h1 := (Sc.sub_by s (a := 0) (q := k) (by omega)).2 (a + i) (by omega)
    have h2 := (Sc.sub_by t (a := 0) (q := k) (by omega)).2 (a + i) (by omega)
    unfold Sc.sh at h1 h2 ⊢
    rw [Nat.zero_add] at h1 h2
    rw [Nat.zero_add] at h1 h2
    rw [he] at h1
    rw [← h1, ← h2]
  obtain ⟨f1, f2, f3, f4⟩ := Sc.far (R := R) (d := s.size - a) (d' := t.size - a) hq hby hle (by omega)
  refine ⟨hat, ?_⟩
  unfold Sc.px Sc.pc
  rw [f1, f2, if_neg (by omega), if_neg (by omega)]
set_option maxRecDepth 100000 in
set_option maxHeartbeats 4000000 in
theorem scanSameLaw_any (g : Nat → Nat) (N : List (List Int)) (R : List Int) (v : Value) (s t : ByteArray) (at' : Int) (w : World) (h : Df.Tv w v g N R) (hs : s.size ≤ maxLen) (ht : t.size ≤ maxLen) : Calls Try.prog 5 #[v, .string s, .string t, .int .i64 at'] w (Bs.BPost w true) := by
  obtain ⟨D, rfl, hsz, _⟩ := h.cells
  obtain ⟨a1, c1, h256⟩ := h.cell6
  have HINF := Lib.hid (show (Try.prog.info? 40).map (·.size) = some D.size by rw [hsz]; exact Df.zero258.2)
  have HA := Lib.hid (Df.aw_new h)
  clear h hsz
  go_enter Try.func5, Try.ntmps5
  go_upto_region 1 with fail
  generalize w.alloc (.cells D 40) = W at *
  have AL := Lib.hid (alive9_any W)
  go_wp2_with fail
  refine AL.out.mono ?_
  rintro e w1 ⟨rfl, hb⟩
  replace HA := Lib.hid (HA.out.up hb)
  clear hb AL
  have x256 := HA.out.cell h256
  obtain ⟨n1, hn1⟩ : ∃ n, N.length = n := ⟨_, rfl⟩
  rw [hn1] at x256
  by_cases h6 : 600 < n1
  · have d1 : decide ((n1 : Int) > 600) = true := decide_eq_true (by omega)
    have d2 : decide (600 < n1) = true := decide_eq_true h6
    have d3 : decide ((600 : Int) < (n1 : Int)) = true := decide_eq_true (by omega)
    go_wp2_with fail
    go_ret
    exact ⟨rfl, HA.out.bel⟩
  have d1 : decide ((n1 : Int) > 600) = false := decide_eq_false (by omega)
  have d2 : decide (600 < n1) = false := decide_eq_false h6
  have d3 : decide ((600 : Int) < (n1 : Int)) = false := decide_eq_false (by omega)
  by_cases h60 : 200 < s.size
  · have d4 : decide ((s.size : Int) > 200) = true := decide_eq_true (by omega)
    have d5 : decide (200 < s.size) = true := decide_eq_true h60
    have d6 : decide ((200 : Int) < (s.size : Int)) = true := decide_eq_true (by omega)
    go_wp2_with fail
    go_ret
    exact ⟨rfl, HA.out.bel⟩
  have d4 : decide ((s.size : Int) > 200) = false := decide_eq_false (by omega)
  have d5 : decide (200 < s.size) = false := decide_eq_false h60
  have d6 : decide ((200 : Int) < (s.size : Int)) = false := decide_eq_false (by omega)
  by_cases h61 : 200 < t.size
  · have d7 : decide ((t.size : Int) > 200) = true := decide_eq_true (by omega)
    have d8 : decide (200 < t.size) = true := decide_eq_true h61
    have d9 : decide ((200 : Int) < (t.size : Int)) = true := decide_eq_true (by omega)
    go_wp2_with fail
    go_ret
    exact ⟨rfl, HA.out.bel⟩
  have d7 : decide ((t.size : Int) > 200) = false := decide_eq_false (by omega)
  have d8 : decide (200 < t.size) = false := decide_eq_false h61
  have d9 : decide ((200 : Int) < (t.size : Int)) = false := decide_eq_false (by omega)
  have hsm : s.size < maxLen := by unfold maxLen; omega
  have htm : t.size < maxLen := by unfold maxLen; omega
  have HTM := Lib.hid htm
  have C := Lib.hid (nextT_any g N R (.agg D) s at' w1 HA.out.tv hsm)
  clear hsm htm
  go_wp2_with (first
    | (refine wpList_load_row rfl 40 _ rfl w.heap.size rfl 40 D (0, 0) _ HA.out.row Try.underlying40 rfl HINF.out ?_))
  refine C.out.mono ?_
  rintro e w2 ⟨rfl, hb⟩
  obtain ⟨x, hx⟩ : ∃ x, (Sc.nxv g N R s at').1 = x := ⟨_, rfl⟩
  obtain ⟨er, her⟩ : ∃ e, (Sc.nxv g N R s at').2 = e := ⟨_, rfl⟩
  rw [hx, her]
  have HX := Lib.hid hx
  have HER := Lib.hid her
  have bx := Bs.below1 w2 (.cells (Sc.val x) 47)
  have HL := Lib.hid (Sc.lb_new w2 x)
  replace HA := Lib.hid ((HA.out.up hb).up bx)
  unfold Sc.val at HL HA ⊢
  clear hb C d1 d2 d3 d4 d5 d6 d7 d8 d9 x256 h6 bx hx her
  go_upto_region 6 with fail
  generalize w2.alloc (.cells #[.int .i64 x.rule, .int .i64 x.at', .int .i64 x.upto, .int .i64 x.seen] 47) = W2 at *
  generalize w2.heap.size = xb at *
  by_cases hgo : Df.rt g N R = true ∧ 0 ≤ at' ∧ at' ≤ s.size
  case neg =>
    have her : er ≠ 0 := by
      rw [← HER.out]
      by_cases hrt : Df.rt g N R = true
      · rw [Sc.nxv_far hrt (fun h => hgo ⟨hrt, h⟩)]
        decide
      · rw [Sc.nxv_no (by simpa using hrt)]
        decide
    have d1 : (er != 0) = true := by simp [her]
    clear her hgo
    go_wp2_with fail
    go_ret
    exact ⟨rfl, HA.out.bel⟩
  obtain ⟨hrt, hat1, hat2⟩ := hgo
  obtain ⟨a, rfl⟩ := Int.eq_ofNat_of_zero_le hat1
  have haN : a ≤ s.size := by omega
  have e1 := HX.out
  have e2 := HER.out
  rw [Sc.nxv_yes hrt haN] at e1 e2
  simp only at e1 e2
  subst e2
  have HRT := Lib.hid hrt
  have HPX := Lib.hid e1
  obtain ⟨k, hk⟩ : ∃ k : Nat, x.seen = k := by rw [← e1]; exact ⟨_, rfl⟩
  have HK := Lib.hid hk
  have hk1 : k ≤ s.size + 1 := by
    have h1 := Sc.stop_le (g := g) (N := N) (b := Sc.sh (Px.by s) a) (s.size - a)
    have h2 : (k : Int) = ((a + Sc.stop g N (Sc.sh (Px.by s) a) (s.size - a) + (if 0 ≤ Df.rn g N (Sc.sh (Px.by s) a) (s.size - a) then 1 else 0) : Nat) : Int) := by rw [← hk, ← e1]; rfl
    split at h2 <;> omega
  obtain ⟨x0, x1, x2, x3⟩ := x
  have hx3 : x3 = (k : Int) := hk
  subst hx3
  have S := Lib.hid (fun u => same_any s t ⟨x0, x1, x2, k⟩ k rfl (by omega) u)
  unfold Sc.val at S
  obtain ⟨m0, m1, m2, m3⟩ := HL.out.cells
  simp only at m0 m1 m2 m3 S
  have HB2 := Lib.hid HA.out.bel
  clear e1 hrt hat1 hat2 hk HX HER HK
  have dk : ((0 : Int) != 0) = false := rfl
  have C2 := Lib.hid (fun u (hu : Df.Tv u (.agg D) g N R) => nextT_any g N R (.agg D) t a u hu HTM.out)
  by_cases hks : s.size < k
  case pos =>
    have d1 : decide ((k : Int) ≤ (s.size : Int)) = false := decide_eq_false (by omega)
    have d2 : decide (k ≤ s.size) = false := decide_eq_false (by omega)
    cases hbq : (s.toList == t.toList) with
    | false =>
      have C := Lib.hid (S.out W2)
      rw [show Sc.same s t k = false by unfold Sc.same; rw [if_pos hks]; exact hbq] at C
      clear S
      go_wp2_with fail
      refine C.out.mono ?_
      rintro e w3 ⟨rfl, hb⟩
      replace HA := Lib.hid (HA.out.up hb)
      clear C hb m0 m1 m2 m3
      go_wp2_with fail
      go_ret
      exact ⟨rfl, HA.out.bel⟩
    | true =>
      have C := Lib.hid (S.out W2)
      rw [show Sc.same s t k = true by unfold Sc.same; rw [if_pos hks]; exact hbq] at C
      have HN := Lib.hid (show Sc.nxv g N R t a = (⟨x0, x1, x2, k⟩, 0) by rw [← Sc.bytes_eq hbq, Sc.nxv_yes HRT.out haN, HPX.out])
      clear S
      go_wp2_with fail
      refine C.out.mono ?_
      rintro e w3 ⟨rfl, hb⟩
      replace HA := Lib.hid (HA.out.up hb)
      replace HL := Lib.hid (HL.out.up hb)
      clear C hb m0 m1 m2 m3
      have C4 := Lib.hid (C2.out w3 HA.out.tv)
      rw [HN.out] at C4
      unfold Sc.val at C4
      simp only at C4
      go_wp2_with (first
        | (refine wpList_load_row rfl 40 _ rfl w.heap.size rfl 40 D (0, 0) _ HA.out.row Try.underlying40 rfl HINF.out ?_))
      refine C4.out.mono ?_
      rintro e w4 ⟨rfl, hb⟩
      have bx := Bs.below1 w4 (.cells (Sc.val ⟨x0, x1, x2, k⟩) 47)
      have HY := Lib.hid (Sc.lb_new w4 ⟨x0, x1, x2, k⟩)
      replace HL := Lib.hid ((HL.out.up hb).up bx)
      have HB4 := Lib.hid (Bs.below_up (Bs.below_up HA.out.bel hb) bx)
      unfold Sc.val at HY HL HB4
      simp only at HY HL HB4
      clear bx hb C4
      go_upto_region 16 with fail
      generalize w4.alloc (.cells #[.int .i64 x0, .int .i64 x1, .int .i64 x2, .int .i64 k] 47) = W5 at *
      obtain ⟨m0, m1, m2, m3⟩ := HL.out.cells
      obtain ⟨n0, n1', n2, n3⟩ := HY.out.cells
      simp only at m0 m1 m2 m3 n0 n1' n2 n3
      go_wp2_with fail
      go_ret
      exact ⟨rfl, HB4.out⟩
  case neg =>
    have d1 : decide ((k : Int) ≤ (s.size : Int)) = true := decide_eq_true (by omega)
    have d2 : decide (k ≤ s.size) = true := decide_eq_true (by omega)
    by_cases hkt : k ≤ t.size
    case neg =>
      have d3 : decide ((t.size : Int) ≥ (k : Int)) = false := decide_eq_false (by omega)
      have d4 : decide ((k : Int) ≤ (t.size : Int)) = false := decide_eq_false (by omega)
      have d5 : decide (k ≤ t.size) = false := decide_eq_false hkt
      have C := Lib.hid (fun u => S.out u)
      rw [show Sc.same s t k = false by rw [Sc.same_le (by omega), d5, Bool.false_and]] at C
      clear S
      go_upto_region 10 with fail
      go_quiet (fail)
      go_wp2_with fail
      refine (C.out _).mono ?_
      rintro e w3 ⟨rfl, hb⟩
      have HB3 := Lib.hid (Bs.below_up (below_drewN HB2.out _) hb)
      clear C hb m0 m1 m2 m3 HA HL
      go_wp2_with fail
      go_ret
      exact ⟨rfl, HB3.out⟩
    case pos =>
      have d3 : decide ((t.size : Int) ≥ (k : Int)) = true := decide_eq_true (by omega)
      have d4 : decide ((k : Int) ≤ (t.size : Int)) = true := decide_eq_true (by omega)
      have d5 : decide (k ≤ t.size) = true := decide_eq_true hkt
      have i1 : (0 : Int) ≤ (k : Int) := by omega
      have i2 : (k : Int) ≤ (s.size : Int) := by omega
      have i3 : (k : Int) ≤ (t.size : Int) := by omega
      cases hbq : ((s.extract 0 k).toList == (t.extract 0 k).toList) with
      | false =>
        have C := Lib.hid (fun u => S.out u)
        rw [show Sc.same s t k = false by rw [Sc.same_le (by omega), hbq, Bool.and_false]] at C
        clear S
        go_upto_region 10 with fail
        go_quiet (fail)
        go_wp2_with fail
        refine (C.out _).mono ?_
        rintro e w3 ⟨rfl, hb⟩
        have HB3 := Lib.hid (Bs.below_up (below_drewN HB2.out _) hb)
        clear C hb m0 m1 m2 m3 HA HL
        go_wp2_with fail
        go_ret
        exact ⟨rfl, HB3.out⟩
      | true =>
        have C := Lib.hid (fun u => S.out u)
        rw [show Sc.same s t k = true by rw [Sc.same_le (by omega), hbq, d5, Bool.and_self]] at C
        have HN := Lib.hid (show Sc.nxv g N R t a = (⟨x0, x1, x2, k⟩, 0) by
          have hpx := HPX.out
          obtain ⟨q1, q2⟩ := Sc.px_same (g := g) (N := N) (R := R) (t := t) haN (by rw [hpx]) (by omega) hkt (Sc.bytes_eq hbq)
          rw [Sc.nxv_yes HRT.out q1, q2, hpx])
        clear S
        go_upto_region 10 with fail
        go_quiet (fail)
        go_wp2_with fail
        refine (C.out _).mono ?_
        rintro e w3 ⟨rfl, hb⟩
        have hd := Bs.below_up (below_drewN (Below.refl W2.heap.size W2) nq) hb
        replace HA := Lib.hid (HA.out.up hd)
        replace HL := Lib.hid (HL.out.up hd)
        clear hd
        clear C hb m0 m1 m2 m3
        have C4 := Lib.hid (C2.out w3 HA.out.tv)
        rw [HN.out] at C4
        unfold Sc.val at C4
        simp only at C4
        go_wp2_with (first
          | (refine wpList_load_row rfl 40 _ rfl w.heap.size rfl 40 D (0, 0) _ HA.out.row Try.underlying40 rfl HINF.out ?_))
        refine C4.out.mono ?_
        rintro e w4 ⟨rfl, hb⟩
        have bx := Bs.below1 w4 (.cells (Sc.val ⟨x0, x1, x2, k⟩) 47)
        have HY := Lib.hid (Sc.lb_new w4 ⟨x0, x1, x2, k⟩)
        replace HL := Lib.hid ((HL.out.up hb).up bx)
        have HB4 := Lib.hid (Bs.below_up (Bs.below_up HA.out.bel hb) bx)
        unfold Sc.val at HY HL HB4
        simp only at HY HL HB4
        clear bx hb C4
        go_upto_region 16 with fail
        generalize w4.alloc (.cells #[.int .i64 x0, .int .i64 x1, .int .i64 x2, .int .i64 k] 47) = W5 at *
        obtain ⟨m0, m1, m2, m3⟩ := HL.out.cells
        obtain ⟨n0, n1', n2, n3⟩ := HY.out.cells
        simp only at m0 m1 m2 m3 n0 n1' n2 n3
        go_wp2_with fail
        go_ret
        exact ⟨rfl, HB4.out⟩
end Go.Proofs.Ythapedadnbkgnaa
namespace Go.Proofs.Ythapedadnbkgnaa
set_option linter.unusedVariables false
set_option linter.unusedSimpArgs false
open Go.ChangeShapes Go.WideShapes Go.Deep Go.RowKit
theorem Rx.add_zero (a : Addr) : a.add 0 = a := by unfold Addr.add; rw [if_pos rfl]
end Go.Proofs.Ythapedadnbkgnaa
namespace Go.Proofs.Ythapedadnbkgnaa
set_option linter.unusedVariables false
set_option linter.unusedSimpArgs false
open Go.ChangeShapes Go.WideShapes Go.Deep Go.RowKit
theorem Nf.ints_cells : Try.prog.cellsOf 38 = 1 := by kernel_rfl
end Go.Proofs.Ythapedadnbkgnaa
namespace Go.Proofs.Ythapedadnbkgnaa
set_option linter.unusedVariables false
set_option linter.unusedSimpArgs false
open Go.ChangeShapes Go.WideShapes Go.Deep Go.RowKit
theorem Df.byte_nat {x : Int} (h : (Lit.int .u8 x).wf = true) : ∃ n : Nat, x = n ∧ n < 256 := by
  simp [Lit.wf, IntKind.min, IntKind.max, IntKind.signed, IntKind.bits] at h
  exact ⟨x.toNat, by omega, by omega⟩
set_option maxRecDepth 100000 in
theorem Df.row_open {H : Type} {enc : TypeId × Value → H} {W : World} {base : Nat} {spare : Nat → Bool} {held : Bool} {fuel : Nat} {v : Value} {x : DataW H × List MemPlace}
    (h : DataW.trod enc Try.prog W base spare held fuel 38 [v] = some x) : ∃ l : List Int, Nf.Row W (fun _ => True) v l ∧ l.length ≤ maxLen := by
  rcases open_ints Try.underlying38 Try.underlying3 (by kernel_rfl) h with ⟨hcs, _⟩ | ⟨a, l, c, zs, hcs, _, hl, hm, hz, _, hcell, hwz⟩
  · simp at hcs
    subst hcs
    exact ⟨[], ⟨none, 0, rfl, Nat.le_refl _, fun _ => rfl, fun i hi => by simp at hi, fun x e => by simp at e⟩, by unfold maxLen; simp⟩
  · simp at hcs
    subst hcs
    have hz' : l ≤ zs.length := by
      have h0 := hz
      split at h0 <;> omega
    have hlz : (zs.take l).length = l := by rw [List.length_take]; omega
    refine ⟨zs.take l, ⟨some a, c, by rw [hlz], by rw [hlz]; exact hl, fun e => by simp at e, fun i hi => ?_, fun x e _ => trivial⟩, by rw [hlz]; exact Nat.le_trans hl hm⟩
    rw [hlz] at hi
    refine ⟨a, rfl, ?_⟩
    have h1 := hcell i (by omega)
    rw [List.getD_eq_getElem?_getD, List.getElem?_eq_getElem (by omega)] at h1
    rw [List.getElem_take]
    exact h1
theorem Df.rows_cells : Try.prog.cellsOf 37 = 1 := by kernel_rfl
theorem Df.dfa_cells : Try.prog.cellsOf 40 = 258 := by kernel_rfl
theorem Df.cls_cells : Try.prog.cellsOf 36 = 256 := by kernel_rfl
theorem Df.byte_cells : Try.prog.cellsOf 5 = 1 := by kernel_rfl
set_option maxRecDepth 100000 in
theorem Df.rows_open {H : Type} {enc : TypeId × Value → H} {W : World} {base : Nat} {spare : Nat → Bool} {held : Bool} {fuel : Nat} {v : Value} {x : DataW H × List MemPlace}
    (h : DataW.trod enc Try.prog W base spare held fuel 37 [v] = some x) : ∃ a n c rows N, v = .slice a n c ∧ rows.length = n ∧ n ≤ maxLen ∧ Ng.Sv W a rows ∧ Df.Rws W rows N ∧ ∀ l ∈ N, l.length ≤ maxLen := by
  rcases DataW.trod_slice Try.underlying37 h with ⟨hcs, _⟩ | ⟨b, len, cap, elems, rest, n2, hfu2, hcs, _, _, hl, hm, hlen, hel, _, _⟩
  · simp at hcs
    subst hcs
    exact ⟨none, 0, 0, [], [], rfl, rfl, by unfold maxLen; omega, fun i hi => by simp at hi, ⟨rfl, fun i hi => by simp at hi⟩, fun l hl => by simp at hl⟩
  · simp at hcs
    subst hcs
    have key : ∀ i, ∃ y : Value × List Int, i < len → W.cell? (b.add i) = some y.1 ∧ Nf.Row W (fun _ => True) y.1 y.2 ∧ y.2.length ≤ maxLen := by
      intro i
      by_cases hil : i < len
      · have he := hel i hil
        rw [Nf.ints_cells, List.getElem?_eq_getElem (by omega)] at he
        obtain ⟨cs', hc, ht⟩ := Option.bind_eq_some_iff.1 he
        obtain ⟨_, hcl, hat⟩ := World.cells?_some hc
        match cs', hcl with
        | [v0], _ =>
          have a0 := hat 0 (by decide)
          rw [Rx.add_zero, Nat.mul_one] at a0
          obtain ⟨l, h1, h2⟩ := Df.row_open ht
          exact ⟨(v0, l), fun _ => ⟨a0, h1, h2⟩⟩
      · exact ⟨(.bool false, []), fun h => absurd h hil⟩
    obtain ⟨os, hos⟩ := Classical.skolem.1 key
    refine ⟨some b, len, cap, List.ofFn (fun i : Fin len => (os i).1), List.ofFn (fun i : Fin len => (os i).2), rfl, by simp, Nat.le_trans hl hm, fun i hi => ⟨b, rfl, ?_⟩, ⟨by simp, fun i h1 h2 => ?_⟩, fun l hl => ?_⟩
    · rw [List.getElem_ofFn]
      exact (hos i (by simpa using hi)).1
    · rw [List.getElem_ofFn, List.getElem_ofFn]
      exact (hos i (by simpa using h1)).2.1
    · obtain ⟨i, hi, rfl⟩ := List.getElem_of_mem hl
      rw [List.getElem_ofFn]
      exact (hos i (by simpa using hi)).2.2
set_option maxRecDepth 100000 in
set_option maxHeartbeats 2000000 in
theorem Df.dfa_val {H : Type} {enc : TypeId × Value → H} {W W' : World} {r : Reach} {b0 base : Nat} {spare : Nat → Bool} {held : Bool} {v : Value} {d : DataW H} {ps : List MemPlace}
    (hv : Value.okWide Try.prog W' r b0 40 v) (h : DataW.Trod enc Try.prog W base spare held 40 v d ps) : ∃ g N R, Df.Tv W v g N R := by
  simp only [Value.okWide, Try.underlying40] at hv
  obtain ⟨xs, rfl, hxs, _⟩ := hv
  obtain ⟨fuel, hf⟩ := h
  have e : (Value.agg xs).cells.toList = xs.toList := rfl
  rw [e] at hf
  obtain ⟨ys, n', hfu, _, hcl, hyl, hf2⟩ := DataW.trod_struct Try.underlying40 hf
  rw [Df.dfa_cells] at hcl
  obtain ⟨cs, hcs⟩ : ∃ cs, xs.toList = cs := ⟨_, rfl⟩
  rw [hcs] at hcl hf2
  have hy : ys.length = 3 := hyl
  have g0 := hf2 0 _ rfl
  have g1 := hf2 1 _ rfl
  have g2 := hf2 2 _ rfl
  change DataW.trod enc Try.prog W base spare held n' 36 ((cs.drop 0).take (Try.prog.cellsOf 36)) = _ at g0
  change DataW.trod enc Try.prog W base spare held n' 37 ((cs.drop 256).take (Try.prog.cellsOf 37)) = _ at g1
  change DataW.trod enc Try.prog W base spare held n' 38 ((cs.drop 257).take (Try.prog.cellsOf 38)) = _ at g2
  rw [Df.cls_cells, List.getElem?_eq_getElem (by omega), List.drop_zero] at g0
  rw [Df.rows_cells, List.getElem?_eq_getElem (by omega)] at g1
  rw [Nf.ints_cells, List.getElem?_eq_getElem (by omega)] at g2
  have t1 : (cs.drop 256).take 1 = [cs[256]] := by
    rw [List.drop_eq_getElem_cons (by omega)]
    rfl
  have t2 : (cs.drop 257).take 1 = [cs[257]] := by
    rw [List.drop_eq_getElem_cons (by omega)]
    rfl
  rw [t1] at g1
  rw [t2] at g2
  obtain ⟨a1, m1, c1, rows, N, e1, hl1, hm1, hS, hR, hN⟩ := Df.rows_open g1
  obtain ⟨R, hRr, hRl⟩ := Df.row_open g2
  obtain ⟨zs, m, _, _, _, hzl, hz⟩ := DataW.trod_array Try.underlying36 g0
  have key : ∀ i, ∃ k : Nat, k < 256 ∧ (i < 256 → cs[i]? = some (.int .u8 k)) := by
    intro i
    by_cases hi : i < 256
    · have h1 := hz i hi
      rw [Df.byte_cells, Nat.mul_one, List.getElem?_eq_getElem (by omega)] at h1
      have t3 : ((cs.take 256).drop i).take 1 = [cs[i]] := by
        rw [List.drop_eq_getElem_cons (by rw [List.length_take]; omega), List.getElem_take]
        rfl
      rw [t3] at h1
      obtain ⟨k0, e0, _, w0⟩ := DataW.trod_int Try.underlying5 h1
      obtain ⟨k, rfl, hk⟩ := Df.byte_nat w0
      refine ⟨k, hk, fun _ => ?_⟩
      simp at e0
      rw [List.getElem?_eq_getElem (by omega), e0]
    · exact ⟨0, by omega, fun h => absurd h hi⟩
  obtain ⟨g, hg⟩ := Classical.skolem.1 key
  have hRr' := hRr
  obtain ⟨a2, c2, e2, _⟩ := hRr'
  have hx : xs = Bs.arr g ++ #[.slice a1 m1 c1, .slice a2 R.length c2] := by
    have hxc : ∀ i, xs[i]? = cs[i]? := fun i => by rw [← hcs, Array.getElem?_toList]
    have s0 := Bs.arr_size g
    have h6 : cs[256]? = some (.slice a1 m1 c1) := by rw [List.getElem?_eq_getElem (by omega), e1]
    have h7 : cs[257]? = some (.slice a2 R.length c2) := by rw [List.getElem?_eq_getElem (by omega), e2]
    clear e1 e2 hRr hR hS g0 g1 g2 t1 t2 hf2
    generalize Value.slice a1 m1 c1 = u1 at *
    generalize Value.slice a2 R.length c2 = u2 at *
    apply Array.ext_getElem?
    intro i
    rw [hxc]
    by_cases hi : i < 256
    · rw [(hg i).2 hi, Array.getElem?_append_left (by rw [s0]; exact hi), Bs.arr_at _ _ hi]
    · rw [Array.getElem?_append_right (by rw [s0]; omega), s0]
      by_cases e6 : i = 256
      · subst e6
        rw [h6]
        rfl
      · by_cases e7 : i = 257
        · subst e7
          rw [h7]
          rfl
        · rw [List.getElem?_eq_none (by omega), Array.getElem?_eq_none (by show 2 ≤ i - 256; omega)]
  refine ⟨g, N, R, fun c => (hg c).1, ⟨a1, m1, c1, rows, a2, R.length, c2, ?_, hl1, hS, hR, by rw [← e2]; exact hRr⟩, by rw [← hR.1, hl1]; exact hm1, hRl, hN⟩
  rw [hx]
  rfl
end Go.Proofs.Ythapedadnbkgnaa
