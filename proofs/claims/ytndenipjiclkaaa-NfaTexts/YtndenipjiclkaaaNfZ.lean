/- What the document's Same of fronts answers, and the program's Dead, walked. What the program's Dead answers, walked. What the program's Rule (and the library's Min) and nodes answer, walked. -/
import Derived.Test.YtndenipjiclkaaaNfC
import Derived.Deep.QuietTactic
import Derived.BigQuiet
namespace Go.Proofs.Ytndenipjiclkaaa
set_option linter.unusedVariables false
set_option linter.unusedSimpArgs false
open Go.RowKit
theorem Nf.Row.at {w : World} {B : Nat → Prop} {a : Option Addr} {n c : Nat} {l : List Int} (h : Nf.Row w B (.slice a n c) l) : n = l.length ∧ ∀ i (hi : i < l.length), ∃ x, a = some x ∧ w.cell? (x.add i) = some (.int .i64 l[i]) := by
  obtain ⟨a', c', e, _, _, h, _⟩ := h
  injection e with e1 e2 e3
  subst e1
  exact ⟨e2, h⟩
theorem Nf.below_drewN (w : World) : ∀ n, Below w.heap.size w (w.drewN n)
  | 0 => Below.refl _ _
  | n + 1 => by
    have h := Nf.below_drewN w n
    exact h.drew
set_option maxRecDepth 100000 in
set_option maxHeartbeats 4000000 in
theorem refSameF_any (l1 l2 : List Int) (p1 p2 q1 q2 : Value) (w : World) (h1 : Nf.Row w (fun _ => True) p1 l1) (h2 : Nf.Row w (fun _ => True) p2 l2) (h3 : Nf.Row w (fun _ => True) q1 l1) (h4 : Nf.Row w (fun _ => True) q2 l2) (hl1 : l1.length ≤ 1000000) (hl2 : l2.length ≤ 1000000) :
    Calls Try.prog 13 #[.agg #[p1, p2], .agg #[q1, q2]] w fun e w' => e = .returned (.bool true) ∧ Below w.heap.size w w' := by
  obtain ⟨a1, n1, c1, rfl⟩ := h1.form
  obtain ⟨a2, n2, c2, rfl⟩ := h2.form
  obtain ⟨a3, n3, c3, rfl⟩ := h3.form
  obtain ⟨a4, n4, c4, rfl⟩ := h4.form
  obtain ⟨e1, r1⟩ := h1.at
  obtain ⟨e2, r2⟩ := h2.at
  obtain ⟨e3, r3⟩ := h3.at
  obtain ⟨e4, r4⟩ := h4.at
  obtain ⟨m1, hm1⟩ : ∃ m, l1.length = m := ⟨_, rfl⟩
  obtain ⟨m2, hm2⟩ : ∃ m, l2.length = m := ⟨_, rfl⟩
  rw [hm1] at e1 e3 hl1
  rw [hm2] at e2 e4 hl2
  subst e1; subst e3; subst e2; subst e4
  have HM1 := Lib.hid hm1
  have HM2 := Lib.hid hm2
  have R1 := Lib.hid r1; have R2 := Lib.hid r2; have R3 := Lib.hid r3; have R4 := Lib.hid r4
  clear hm1 hm2 r1 r2 r3 r4 h1 h2 h3 h4
  have X1 := (Nf.fb_new w (.slice a1 n3 c1) (.slice a2 n4 c2) 37).up (Bs.below1 _ (.cells #[.slice a3 n3 c3, .slice a4 n4 c4] 37))
  have X2 := Nf.fb_new (w.alloc (.cells #[.slice a1 n3 c1, .slice a2 n4 c2] 37)) (.slice a3 n3 c3) (.slice a4 n4 c4) 37
  have es : (w.alloc (.cells #[.slice a1 n3 c1, .slice a2 n4 c2] 37)).heap.size = w.heap.size + 1 := by simp [go_sem]
  rw [es] at X2
  have A := Bs.below2 w (.cells #[.slice a1 n3 c1, .slice a2 n4 c2] 37) (.cells #[.slice a3 n3 c3, .slice a4 n4 c4] 37)
  clear es
  have ek : ∀ n : Nat, ((n : Int) != (n : Int)) = false := fun n => by simp
  go_enter Try.func13, Try.ntmps13
  go_wp2_with fail
  generalize (w.alloc (.cells #[.slice a1 n3 c1, .slice a2 n4 c2] 37)).alloc (.cells #[.slice a3 n3 c3, .slice a4 n4 c4] 37) = U at *
  go_loopw [5] (fun i wr => ∃ k : Nat, k ≤ n3 ∧ i = .int .i64 k ∧ Nf.FB wr w.heap.size (.slice a1 n3 c1) (.slice a2 n4 c2) ∧ Nf.FB wr (w.heap.size + 1) (.slice a3 n3 c3) (.slice a4 n4 c4) ∧ Below w.heap.size w wr) (fun i _ => n3 - (intOf i).toNat)
  case atStart => exact ⟨0, by omega, rfl, X1, X2, A⟩
  case round =>
    clear X1 X2 A
    obtain ⟨k, hk, rfl, X1, X2, A⟩ := hrel
    have c0 := X1.c0
    have d0 := X2.c0
    by_cases hlt : k < n3
    · have hlt' : k < l1.length := by rw [HM1.out]; exact hlt
      obtain ⟨x, rfl, hx⟩ := R1.out k hlt'
      obtain ⟨y, rfl, hy⟩ := R3.out k hlt'
      replace hx := Bs.cell_up A hx
      replace hy := Bs.cell_up A hy
      have i1 : (0 : Int) ≤ (k : Int) := by omega
      have i2 : (k : Int) < (n3 : Int) := by omega
      generalize l1[k] = v at *
      have HX1 := Lib.hid X1
      have HX2 := Lib.hid X2
      have HA := Lib.hid A
      clear X1 X2 A
      go_wp2_with fail
      go_quiet (fail)
      go_wp2_with fail
      go_roundw
      case rel => exact ⟨k + 1, by omega, by go_num, HX1.out.up (Nf.below_drewN _ _), HX2.out.up (Nf.below_drewN _ _), Bs.below_up HA.out (Nf.below_drewN _ _)⟩
      case measure => simp [intOf]; omega
    · have c1' := X1.c1
      go_wp2_with fail
      clear c0 d0
      go_loopw [6] (fun i wr => ∃ k : Nat, k ≤ n4 ∧ i = .int .i64 k ∧ Nf.FB wr w.heap.size (.slice a1 n3 c1) (.slice a2 n4 c2) ∧ Nf.FB wr (w.heap.size + 1) (.slice a3 n3 c3) (.slice a4 n4 c4) ∧ Below w.heap.size w wr) (fun i _ => n4 - (intOf i).toNat)
      case atStart => exact ⟨0, by omega, rfl, X1, X2, A⟩
      case round =>
        clear X1 X2 A c1'
        obtain ⟨k, hk, rfl, X1, X2, A⟩ := hrel
        have c0 := X1.c1
        have d0 := X2.c1
        by_cases hlt : k < n4
        · have hlt' : k < l2.length := by rw [HM2.out]; exact hlt
          obtain ⟨x, rfl, hx⟩ := R2.out k hlt'
          obtain ⟨y, rfl, hy⟩ := R4.out k hlt'
          replace hx := Bs.cell_up A hx
          replace hy := Bs.cell_up A hy
          have i1 : (0 : Int) ≤ (k : Int) := by omega
          have i2 : (k : Int) < (n4 : Int) := by omega
          generalize l2[k] = v at *
          have HX1 := Lib.hid X1
          have HX2 := Lib.hid X2
          have HA := Lib.hid A
          clear X1 X2 A
          go_wp2_with fail
          go_quiet (fail)
          go_wp2_with fail
          go_roundw
          case rel => exact ⟨k + 1, by omega, by go_num, HX1.out.up (Nf.below_drewN _ _), HX2.out.up (Nf.below_drewN _ _), Bs.below_up HA.out (Nf.below_drewN _ _)⟩
          case measure => simp [intOf]; omega
        · go_wp2_with fail
          go_ret
          exact ⟨rfl, A⟩
open Go.RowKit
set_option maxRecDepth 100000 in
set_option maxHeartbeats 1000000 in
theorem dead_any (os rs : List Int) (p1 p2 : Value) (w : World) (h1 : Nf.Row w (fun _ => True) p1 os) (h2 : Nf.Row w (fun _ => True) p2 rs) :
    Calls Try.prog 17 #[.agg #[p1, p2]] w fun e w' => e = .returned (.bool (os.isEmpty && rs.isEmpty)) ∧ Below w.heap.size w w' := by
  obtain ⟨a1, n1, c1, rfl⟩ := h1.form
  obtain ⟨a2, n2, c2, rfl⟩ := h2.form
  have e1 := h1.at.1
  have e2 := h2.at.1
  have A := Bs.below1 w (.cells #[.slice a1 n1 c1, .slice a2 n2 c2] 37)
  clear h1 h2
  go_enter Try.func17, Try.ntmps17
  cases os with
  | nil =>
    simp only [List.length_nil] at e1
    subst e1
    cases rs with
    | nil =>
      simp only [List.length_nil] at e2
      subst e2
      go_wp2_with fail
      go_ret
      exact ⟨rfl, A⟩
    | cons y t =>
      have k2 : ((n2 : Int) == 0) = false := by simp at e2 ⊢; omega
      clear e2
      go_wp2_with fail
      go_ret
      exact ⟨rfl, A⟩
  | cons x t =>
    have k1 : ((n1 : Int) == 0) = false := by simp at e1 ⊢; omega
    clear e1 e2
    go_wp2_with fail
    go_ret
    exact ⟨rfl, A⟩
open Go.RowKit
theorem Nf.add_zero (a : Addr) : a.add 0 = a := by unfold Addr.add; rw [if_pos rfl]
theorem Nf.add_succ (a : Addr) (k : Nat) : a.add (k + 1) = ⟨a.block, a.off + (k + 1), none⟩ := by unfold Addr.add; rw [if_neg (by omega)]
/-- the least number of a row, not above the first -/
def Nf.least (x : Int) (l : List Int) : Int := l.foldl min x
theorem Nf.least_le : ∀ (l : List Int) (x : Int), Nf.least x l ≤ x ∧ ∀ y ∈ l, Nf.least x l ≤ y
  | [], x => by simp [Nf.least]
  | z :: l, x => by
    have h := Nf.least_le l (min x z)
    have e : Nf.least x (z :: l) = Nf.least (min x z) l := rfl
    rw [e]
    refine ⟨by have := h.1; omega, fun y hy => ?_⟩
    rcases List.mem_cons.1 hy with rfl | hy
    · have := h.1; omega
    · exact h.2 y hy
theorem Nf.least_mem : ∀ (l : List Int) (x : Int), Nf.least x l = x ∨ Nf.least x l ∈ l
  | [], x => .inl rfl
  | z :: l, x => by
    have e : Nf.least x (z :: l) = Nf.least (min x z) l := rfl
    rw [e]
    rcases Nf.least_mem l (min x z) with h | h
    · rw [h]
      rcases Int.le_total x z with h1 | h1
      · left; omega
      · right; rw [show min x z = z by omega]; exact List.mem_cons_self ..
    · exact .inr (List.mem_cons_of_mem _ h)
theorem Nf.least_take (l : List Int) (x : Int) (k : Nat) (h : k < l.length) : Nf.least x (l.take (k + 1)) = min (Nf.least x (l.take k)) l[k] := by
  rw [List.take_succ_eq_append_getElem h, Nf.least, List.foldl_append]
  rfl
set_option maxRecDepth 100000 in
set_option maxHeartbeats 2000000 in
theorem minS_any (x : Int) (l : List Int) (v : Value) (w : World) (h : Nf.Row w (fun _ => True) v (x :: l)) (hl : l.length ≤ 1000000) : Calls Try.prog 42 #[v] w fun e w' => e = .returned (.int .i64 (Nf.least x l)) ∧ w' = w := by
  obtain ⟨a, n, c, rfl⟩ := h.form
  obtain ⟨e1, r1⟩ := h.at
  have R := Lib.hid r1
  have x0 := r1 0 (by simp)
  clear r1 h
  obtain ⟨ad, rfl, h0⟩ := x0
  simp only [List.getElem_cons_zero] at h0
  rw [Nf.add_zero] at h0
  obtain ⟨m, hm⟩ : ∃ m, l.length = m := ⟨_, rfl⟩
  have HM := Lib.hid hm
  simp only [List.length_cons, hm] at e1
  rw [hm] at hl
  clear hm
  subst e1
  have k1 : decide (((m + 1 : Nat) : Int) < 1) = false := decide_eq_false (by omega)
  have k2 : decide ((m : Int) + 1 < 1) = false := decide_eq_false (by omega)
  have k3 : (0 : Int) < ((m + 1 : Nat) : Int) := by omega
  have k4 : (0 : Int) < (m : Int) + 1 := by omega
  go_enter Try.func42, Try.ntmps42
  go_wp2_with fail
  go_loopw [3, 4] (fun r i wr => ∃ k : Nat, k ≤ m ∧ i = .int .i64 (k + 1 : Nat) ∧ r = .int .i64 (Nf.least x (l.take k)) ∧ wr = w) (fun _ i _ => m + 1 - (intOf i).toNat)
  case atStart => exact ⟨0, by omega, rfl, rfl, by first | rfl | trivial⟩
  case round =>
    obtain ⟨k, hk, rfl, rfl, hwr⟩ := hrel
    subst hwr
    by_cases hlt : k < m
    · have hlt' : k < l.length := by rw [HM.out]; exact hlt
      obtain ⟨ad', e', hx⟩ := R.out (k + 1) (by simp; omega)
      injection e' with e'
      subst e'
      simp only [List.getElem_cons_succ] at hx
      rw [Nf.add_succ] at hx
      have HT := Lib.hid (Nf.least_take l x k hlt')
      have i1 : (0 : Int) ≤ ((k + 1 : Nat) : Int) := by omega
      have i2 : ((k + 1 : Nat) : Int) < ((m + 1 : Nat) : Int) := by omega
      have i3 : (0 : Int) ≤ (k : Int) + 1 := by omega
      have i4 : (k : Int) + 1 < (m : Int) + 1 := by omega
      have e1 : decide (((k + 1 : Nat) : Int) < ((m + 1 : Nat) : Int)) = true := decide_eq_true (by omega)
      have e2 : decide ((k : Int) + 1 < (m : Int) + 1) = true := decide_eq_true (by omega)
      have e3 : decide (k < m) = true := decide_eq_true hlt
      have e4 : decide ((k : Int) < (m : Int)) = true := decide_eq_true (by omega)
      generalize l[k] = y at *
      generalize Nf.least x (l.take k) = z at *
      go_wp2_with fail
      go_roundw
      case rel => exact ⟨k + 1, by omega, by go_num, by rw [HT.out]; congr 1; split <;> omega, by first | rfl | trivial⟩
      case measure => simp [intOf]; omega
    · have e1 : decide (((k + 1 : Nat) : Int) < ((m + 1 : Nat) : Int)) = false := decide_eq_false (by omega)
      have e2 : decide ((k : Int) + 1 < (m : Int) + 1) = false := decide_eq_false (by omega)
      have e3 : decide (k < m) = false := decide_eq_false hlt
      have e4 : decide ((k : Int) < (m : Int)) = false := decide_eq_false (by omega)
      have HT := Lib.hid (show l.take k = l from List.take_of_length_le (by rw [HM.out]; omega))
      rw [HT.out]
      go_wp2_with fail
      go_ret
      exact ⟨rfl, by first | rfl | trivial⟩
/-- a front's least rule -/
def Nf.rule : List Int → Int × Bool
  | [] => (0, false)
  | x :: l => (Nf.least x l, true)
set_option maxRecDepth 100000 in
set_option maxHeartbeats 1000000 in
theorem rule_any (rs : List Int) (p1 p2 : Value) (w : World) (os : List Int) (h1 : Nf.Row w (fun _ => True) p1 os) (h2 : Nf.Row w (fun _ => True) p2 rs) (hl : rs.length ≤ 1000000) :
    Calls Try.prog 19 #[.agg #[p1, p2]] w fun e w' => e = .returned (.tuple #[.int .i64 (Nf.rule rs).1, .bool (Nf.rule rs).2]) ∧ Below w.heap.size w w' := by
  obtain ⟨a1, n1, c1, rfl⟩ := h1.form
  obtain ⟨a2, n2, c2, rfl⟩ := h2.form
  have e2 := h2.at.1
  have A := Bs.below1 w (.cells #[.slice a1 n1 c1, .slice a2 n2 c2] 37)
  have H2 := Lib.hid (h2.up A)
  clear h1 h2
  go_enter Try.func19, Try.ntmps19
  cases rs with
  | nil =>
    simp only [List.length_nil] at e2
    subst e2
    go_wp2_with fail
    go_ret2
    exact ⟨rfl, A⟩
  | cons y t =>
    have k2 : ((n2 : Int) == 0) = false := by simp at e2 ⊢; omega
    have M := Lib.hid (minS_any y t _ _ H2.out (by simp at hl; omega))
    clear e2 H2
    go_wp2_with fail
    generalize w.alloc (.cells #[.slice a1 n1 c1, .slice a2 n2 c2] 37) = W at *
    refine M.out.mono ?_
    rintro e w1 ⟨rfl, rfl⟩
    clear M
    go_wp2_with fail
    go_ret2
    exact ⟨rfl, A⟩
end Go.Proofs.Ytndenipjiclkaaa
