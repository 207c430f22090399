/- What the document's Same of fronts answers, and the program's Dead, walked. What the program's Dead answers, walked. What the program's Rule (and the library's Min) and nodes answer, walked. Regular expressions: plain facts: the document's tables of ways say what the expression matches. Expressions read byte by byte: plain facts: what is done is what is matched. What the small functions of layer 1 answer, walked. What the functions of layer 1 that go through a text answer, walked. -/
import Derived.Test.YtnbbepgjpfhjdaaG5
import Derived.Deep.QuietTactic
import Derived.BigQuiet
import Derived.Test.YtnbbepgjpfhjdaaG1
import Derived.Test.YtnbbepgjpfhjdaaRows
import Derived.WalkKit
import Derived.WalkSpells
import Derived.WalkLawsBesides
import Derived.Lib.Hide
namespace Go.Proofs.Ytnbbepgjpfhjdaa
set_option linter.unusedVariables false
set_option linter.unusedSimpArgs false
open Go.RowKit
theorem Nf.Row.at {w : World} {B : Nat → Prop} {a : Option Addr} {n c : Nat} {l : List Int} (h : Nf.Row w B (.slice a n c) l) : n = l.length ∧ ∀ i (hi : i < l.length), ∃ x, a = some x ∧ w.cell? (x.add i) = some (.int .i64 l[i]) := by
  obtain ⟨a', c', e, _, _, h, _⟩ := h
  injection e with e1 e2 e3
  subst e1
  exact ⟨e2, h⟩
theorem Nf.below_drewN (w : World) : ∀ n, Below w.heap.size w (w.drewN n)
  | 0 => Below.refl _ _
  | n + 1 => by
    have h := Nf.below_drewN w n
    exact h.drew
set_option maxRecDepth 100000 in
set_option maxHeartbeats 4000000 in
theorem refSameF_any (l1 l2 : List Int) (p1 p2 q1 q2 : Value) (w : World) (h1 : Nf.Row w (fun _ => True) p1 l1) (h2 : Nf.Row w (fun _ => True) p2 l2) (h3 : Nf.Row w (fun _ => True) q1 l1) (h4 : Nf.Row w (fun _ => True) q2 l2) (hl1 : l1.length ≤ 1000000) (hl2 : l2.length ≤ 1000000) :
    Calls Try.prog 14 #[.agg #[p1, p2], .agg #[q1, q2]] w fun e w' => e = .returned (.bool true) ∧ Below w.heap.size w w' := by
  obtain ⟨a1, n1, c1, rfl⟩ := h1.form
  obtain ⟨a2, n2, c2, rfl⟩ := h2.form
  obtain ⟨a3, n3, c3, rfl⟩ := h3.form
  obtain ⟨a4, n4, c4, rfl⟩ := h4.form
  obtain ⟨e1, r1⟩ := h1.at
  obtain ⟨e2, r2⟩ := h2.at
  obtain ⟨e3, r3⟩ := h3.at
  obtain ⟨e4, r4⟩ := h4.at
  obtain ⟨m1, hm1⟩ : ∃ m, l1.length = m := ⟨_, rfl⟩
  obtain ⟨m2, hm2⟩ : ∃ m, l2.length = m := ⟨_, rfl⟩
  rw [hm1] at e1 e3 hl1
  rw [hm2] at e2 e4 hl2
  subst e1; subst e3; subst e2; subst e4
  have HM1 := Lib.hid hm1
  have HM2 := Lib.hid hm2
  have R1 := Lib.hid r1; have R2 := Lib.hid r2; have R3 := Lib.hid r3; have R4 := Lib.hid r4
  clear hm1 hm2 r1 r2 r3 r4 h1 h2 h3 h4
  have X1 := (Nf.fb_new w (.slice a1 n3 c1) (.slice a2 n4 c2) 37).up (Bs.below1 _ (.cells #[.slice a3 n3 c3, .slice a4 n4 c4] 37))
  have X2 := Nf.fb_new (w.alloc (.cells #[.slice a1 n3 c1, .slice a2 n4 c2] 37)) (.slice a3 n3 c3) (.slice a4 n4 c4) 37
  have es : (w.alloc (.cells #[.slice a1 n3 c1, .slice a2 n4 c2] 37)).heap.size = w.heap.size + 1 := by simp [go_sem]
  rw [es] at X2
  have A := Bs.below2 w (.cells #[.slice a1 n3 c1, .slice a2 n4 c2] 37) (.cells #[.slice a3 n3 c3, .slice a4 n4 c4] 37)
  clear es
  have ek : ∀ n : Nat, ((n : Int) != (n : Int)) = false := fun n => by simp
  go_enter Try.func14, Try.ntmps14
  go_wp2_with fail
  generalize (w.alloc (.cells #[.slice a1 n3 c1, .slice a2 n4 c2] 37)).alloc (.cells #[.slice a3 n3 c3, .slice a4 n4 c4] 37) = U at *
  go_loopw [5] (fun i wr => ∃ k : Nat, k ≤ n3 ∧ i = .int .i64 k ∧ Nf.FB wr w.heap.size (.slice a1 n3 c1) (.slice a2 n4 c2) ∧ Nf.FB wr (w.heap.size + 1) (.slice a3 n3 c3) (.slice a4 n4 c4) ∧ Below w.heap.size w wr) (fun i _ => n3 - (intOf i).toNat)
  case atStart => exact ⟨0, by omega, rfl, X1, X2, A⟩
  case round =>
    clear X1 X2 A
    obtain ⟨k, hk, rfl, X1, X2, A⟩ := hrel
    have c0 := X1.c0
    have d0 := X2.c0
    by_cases hlt : k < n3
    · have hlt' : k < l1.length := by rw [HM1.out]; exact hlt
      obtain ⟨x, rfl, hx⟩ := R1.out k hlt'
      obtain ⟨y, rfl, hy⟩ := R3.out k hlt'
      replace hx := Bs.cell_up A hx
      replace hy := Bs.cell_up A hy
      have i1 : (0 : Int) ≤ (k : Int) := by omega
      have i2 : (k : Int) < (n3 : Int) := by omega
      generalize l1[k] = v at *
      have HX1 := Lib.hid X1
      have HX2 := Lib.hid X2
      have HA := Lib.hid A
      clear X1 X2 A
      go_wp2_with fail
      go_quiet (fail)
      go_wp2_with fail
      go_roundw
      case rel => exact ⟨k + 1, by omega, by go_num, HX1.out.up (Nf.below_drewN _ _), HX2.out.up (Nf.below_drewN _ _), Bs.below_up HA.out (Nf.below_drewN _ _)⟩
      case measure => simp [intOf]; omega
    · have c1' := X1.c1
      go_wp2_with fail
      clear c0 d0
      go_loopw [6] (fun i wr => ∃ k : Nat, k ≤ n4 ∧ i = .int .i64 k ∧ Nf.FB wr w.heap.size (.slice a1 n3 c1) (.slice a2 n4 c2) ∧ Nf.FB wr (w.heap.size + 1) (.slice a3 n3 c3) (.slice a4 n4 c4) ∧ Below w.heap.size w wr) (fun i _ => n4 - (intOf i).toNat)
      case atStart => exact ⟨0, by omega, rfl, X1, X2, A⟩
      case round =>
        clear X1 X2 A c1'
        obtain ⟨k, hk, rfl, X1, X2, A⟩ := hrel
        have c0 := X1.c1
        have d0 := X2.c1
        by_cases hlt : k < n4
        · have hlt' : k < l2.length := by rw [HM2.out]; exact hlt
          obtain ⟨x, rfl, hx⟩ := R2.out k hlt'
          obtain ⟨y, rfl, hy⟩ := R4.out k hlt'
          replace hx := Bs.cell_up A hx
          replace hy := Bs.cell_up A hy
          have i1 : (0 : Int) ≤ (k : Int) := by omega
          have i2 : (k : Int) < (n4 : Int) := by omega
          generalize l2[k] = v at *
          have HX1 := Lib.hid X1
          have HX2 := Lib.hid X2
          have HA := Lib.hid A
          clear X1 X2 A
          go_wp2_with fail
          go_quiet (fail)
          go_wp2_with fail
          go_roundw
          case rel => exact ⟨k + 1, by omega, by go_num, HX1.out.up (Nf.below_drewN _ _), HX2.out.up (Nf.below_drewN _ _), Bs.below_up HA.out (Nf.below_drewN _ _)⟩
          case measure => simp [intOf]; omega
        · go_wp2_with fail
          go_ret
          exact ⟨rfl, A⟩
open Go.RowKit
set_option maxRecDepth 100000 in
set_option maxHeartbeats 1000000 in
theorem dead_any (os rs : List Int) (p1 p2 : Value) (w : World) (h1 : Nf.Row w (fun _ => True) p1 os) (h2 : Nf.Row w (fun _ => True) p2 rs) :
    Calls Try.prog 18 #[.agg #[p1, p2]] w fun e w' => e = .returned (.bool (os.isEmpty && rs.isEmpty)) ∧ Below w.heap.size w w' := by
  obtain ⟨a1, n1, c1, rfl⟩ := h1.form
  obtain ⟨a2, n2, c2, rfl⟩ := h2.form
  have e1 := h1.at.1
  have e2 := h2.at.1
  have A := Bs.below1 w (.cells #[.slice a1 n1 c1, .slice a2 n2 c2] 37)
  clear h1 h2
  go_enter Try.func18, Try.ntmps18
  cases os with
  | nil =>
    simp only [List.length_nil] at e1
    subst e1
    cases rs with
    | nil =>
      simp only [List.length_nil] at e2
      subst e2
      go_wp2_with fail
      go_ret
      exact ⟨rfl, A⟩
    | cons y t =>
      have k2 : ((n2 : Int) == 0) = false := by simp at e2 ⊢; omega
      clear e2
      go_wp2_with fail
      go_ret
      exact ⟨rfl, A⟩
  | cons x t =>
    have k1 : ((n1 : Int) == 0) = false := by simp at e1 ⊢; omega
    clear e1 e2
    go_wp2_with fail
    go_ret
    exact ⟨rfl, A⟩
open Go.RowKit
theorem Nf.add_zero (a : Addr) : a.add 0 = a := by unfold Addr.add; rw [if_pos rfl]
theorem Nf.add_succ (a : Addr) (k : Nat) : a.add (k + 1) = ⟨a.block, a.off + (k + 1), none⟩ := by unfold Addr.add; rw [if_neg (by omega)]
def Nf.least (x : Int) (l : List Int) : Int := l.foldl min x
theorem Nf.least_le : ∀ (l : List Int) (x : Int), Nf.least x l ≤ x ∧ ∀ y ∈ l, Nf.least x l ≤ y
  | [], x => by simp [Nf.least]
  | z :: l, x => by
    have h := Nf.least_le l (min x z)
    have e : Nf.least x (z :: l) = Nf.least (min x z) l := rfl
    rw [e]
    refine ⟨by have := h.1; omega, fun y hy => ?_⟩
    rcases List.mem_cons.1 hy with rfl | hy
    · have := h.1; omega
    · exact h.2 y hy
theorem Nf.least_mem : ∀ (l : List Int) (x : Int), Nf.least x l = x ∨ Nf.least x l ∈ l
  | [], x => .inl rfl
  | z :: l, x => by
    have e : Nf.least x (z :: l) = Nf.least (min x z) l := rfl
    rw [e]
    rcases Nf.least_mem l (min x z) with h | h
    · rw [h]
      rcases Int.le_total x z with h1 | h1
      · left; omega
      · right; rw [show min x z = z by omega]; exact List.mem_cons_self ..
    · exact .inr (List.mem_cons_of_mem _ h)
theorem Nf.least_take (l : List Int) (x : Int) (k : Nat) (h : k < l.length) : Nf.least x (l.take (k + 1)) = min (Nf.least x (l.take k)) l[k] := by
  rw [List.take_succ_eq_append_getElem h, Nf.least, List.foldl_append]
  rfl
set_option maxRecDepth 100000 in
set_option maxHeartbeats 2000000 in
theorem minS_any (x : Int) (l : List Int) (v : Value) (w : World) (h : Nf.Row w (fun _ => True) v (x :: l)) (hl : l.length ≤ 1000000) : Calls Try.prog 47 #[v] w fun e w' => e = .returned (.int .i64 (Nf.least x l)) ∧ w' = w := by
  obtain ⟨a, n, c, rfl⟩ := h.form
  obtain ⟨e1, r1⟩ := h.at
  have R := Lib.hid r1
  have x0 := r1 0 (by simp)
  clear r1 h
  obtain ⟨ad, rfl, h0⟩ := x0
  simp only [List.getElem_cons_zero] at h0
  rw [Nf.add_zero] at h0
  obtain ⟨m, hm⟩ : ∃ m, l.length = m := ⟨_, rfl⟩
  have HM := Lib.hid hm
  simp only [List.length_cons, hm] at e1
  rw [hm] at hl
  clear hm
  subst e1
  have k1 : decide (((m + 1 : Nat) : Int) < 1) = false := decide_eq_false (by omega)
  have k2 : decide ((m : Int) + 1 < 1) = false := decide_eq_false (by omega)
  have k3 : (0 : Int) < ((m + 1 : Nat) : Int) := by omega
  have k4 : (0 : Int) < (m : Int) + 1 := by omega
  go_enter Try.func47, Try.ntmps47
  go_wp2_with fail
  go_loopw [3, 4] (fun r i wr => ∃ k : Nat, k ≤ m ∧ i = .int .i64 (k + 1 : Nat) ∧ r = .int .i64 (Nf.least x (l.take k)) ∧ wr = w) (fun _ i _ => m + 1 - (intOf i).toNat)
  case atStart => exact ⟨0, by omega, rfl, rfl, by first | rfl | trivial⟩
  case round =>
    obtain ⟨k, hk, rfl, rfl, hwr⟩ := hrel
    subst hwr
    by_cases hlt : k < m
    · have hlt' : k < l.length := by rw [HM.out]; exact hlt
      obtain ⟨ad', e', hx⟩ := R.out (k + 1) (by simp; omega)
      injection e' with e'
      subst e'
      simp only [List.getElem_cons_succ] at hx
      rw [Nf.add_succ] at hx
      have HT := Lib.hid (Nf.least_take l x k hlt')
      have i1 : (0 : Int) ≤ ((k + 1 : Nat) : Int) := by omega
      have i2 : ((k + 1 : Nat) : Int) < ((m + 1 : Nat) : Int) := by omega
      have i3 : (0 : Int) ≤ (k : Int) + 1 := by omega
      have i4 : (k : Int) + 1 < (m : Int) + 1 := by omega
      have e1 : decide (((k + 1 : Nat) : Int) < ((m + 1 : Nat) : Int)) = true := decide_eq_true (by omega)
      have e2 : decide ((k : Int) + 1 < (m : Int) + 1) = true := decide_eq_true (by omega)
      have e3 : decide (k < m) = true := decide_eq_true hlt
      have e4 : decide ((k : Int) < (m : Int)) = true := decide_eq_true (by omega)
      generalize l[k] = y at *
      generalize Nf.least x (l.take k) = z at *
      go_wp2_with fail
      go_roundw
      case rel => exact ⟨k + 1, by omega, by go_num, by rw [HT.out]; congr 1; split <;> omega, by first | rfl | trivial⟩
      case measure => simp [intOf]; omega
    · have e1 : decide (((k + 1 : Nat) : Int) < ((m + 1 : Nat) : Int)) = false := decide_eq_false (by omega)
      have e2 : decide ((k : Int) + 1 < (m : Int) + 1) = false := decide_eq_false (by omega)
      have e3 : decide (k < m) = false := decide_eq_false hlt
      have e4 : decide ((k : Int) < (m : Int)) = false := decide_eq_false (by omega)
      have HT := Lib.hid (show l.take k = l from List.take_of_length_le (by rw [HM.out]; omega))
      rw [HT.out]
      go_wp2_with fail
      go_ret
      exact ⟨rfl, by first | rfl | trivial⟩
def Nf.rule : List Int → Int × Bool
  | [] => (0, false)
  | x :: l => (Nf.least x l, true)
set_option maxRecDepth 100000 in
set_option maxHeartbeats 1000000 in
theorem rule_any (rs : List Int) (p1 p2 : Value) (w : World) (os : List Int) (h1 : Nf.Row w (fun _ => True) p1 os) (h2 : Nf.Row w (fun _ => True) p2 rs) (hl : rs.length ≤ 1000000) :
    Calls Try.prog 20 #[.agg #[p1, p2]] w fun e w' => e = .returned (.tuple #[.int .i64 (Nf.rule rs).1, .bool (Nf.rule rs).2]) ∧ Below w.heap.size w w' := by
  obtain ⟨a1, n1, c1, rfl⟩ := h1.form
  obtain ⟨a2, n2, c2, rfl⟩ := h2.form
  have e2 := h2.at.1
  have A := Bs.below1 w (.cells #[.slice a1 n1 c1, .slice a2 n2 c2] 37)
  have H2 := Lib.hid (h2.up A)
  clear h1 h2
  go_enter Try.func20, Try.ntmps20
  cases rs with
  | nil =>
    simp only [List.length_nil] at e2
    subst e2
    go_wp2_with fail
    go_ret2
    exact ⟨rfl, A⟩
  | cons y t =>
    have k2 : ((n2 : Int) == 0) = false := by simp at e2 ⊢; omega
    have M := Lib.hid (minS_any y t _ _ H2.out (by simp at hl; omega))
    clear e2 H2
    go_wp2_with fail
    generalize w.alloc (.cells #[.slice a1 n1 c1, .slice a2 n2 c2] 37) = W at *
    refine M.out.mono ?_
    rintro e w1 ⟨rfl, rfl⟩
    clear M
    go_wp2_with fail
    go_ret2
    exact ⟨rfl, A⟩
end Go.Proofs.Ytnbbepgjpfhjdaa
namespace Go.Proofs.Ytnbbepgjpfhjdaa
set_option linter.unusedVariables false
set_option linter.unusedSimpArgs false
def Rx.idm (i k : Nat) : Bool := i == k
def Rx.non (_ _ : Nat) : Bool := false
def Rx.catS (m y : Nat → Nat → Bool) (i k : Nat) : Bool := decide (i ≤ k) && (List.range (k + 1)).any fun j => decide (i ≤ j) && (m i j && y j k)
def Rx.altS (m y : Nat → Nat → Bool) (i k : Nat) : Bool := decide (i ≤ k) && (m i k || y i k)
mutual
def Rx.sp (s : Nat → Nat) (n : Nat) : Rx → Nat → Nat → Bool
  | .node 0 _ l => Rx.spA s n l Rx.idm
  | .node 1 f _ => fun i k => decide (i < n) && (k == i + 1 && f (s i))
  | .node 2 _ l => Rx.spC s n l Rx.idm
  | .node 3 _ l => Rx.spA s n l Rx.non
  | .node (_ + 4) _ l => Rx.war (Rx.spA s n l Rx.idm) (n + 1)
def Rx.spC (s : Nat → Nat) (n : Nat) : List Rx → (Nat → Nat → Bool) → Nat → Nat → Bool
  | [], m => m
  | x :: r, m => Rx.spC s n r (Rx.catS m (Rx.sp s n x))
def Rx.spA (s : Nat → Nat) (n : Nat) : List Rx → (Nat → Nat → Bool) → Nat → Nat → Bool
  | [], m => m
  | x :: r, m => Rx.spA s n r (Rx.altS m (Rx.sp s n x))
end
def Rx.Upw (n : Nat) (m : Nat → Nat → Bool) : Prop := ∀ i k, i ≤ n → m i k = true → i ≤ k ∧ k ≤ n
theorem Rx.catS_iff {n : Nat} {m y : Nat → Nat → Bool} (hm : Rx.Upw n m) (hy : Rx.Upw n y) {i k : Nat} (hi : i ≤ n) : Rx.catS m y i k = true ↔ ∃ j, m i j = true ∧ y j k = true := by
  simp only [Rx.catS, Bool.and_eq_true, decide_eq_true_eq, List.any_eq_true, List.mem_range]
  constructor
  · rintro ⟨_, j, _, _, h1, h2⟩; exact ⟨j, h1, h2⟩
  · rintro ⟨j, h1, h2⟩
    have h3 := hm _ _ hi h1
    have h4 := hy _ _ h3.2 h2
    exact ⟨by omega, j, by omega, by omega, h1, h2⟩
theorem Rx.altS_iff {n : Nat} {m y : Nat → Nat → Bool} (hm : Rx.Upw n m) (hy : Rx.Upw n y) {i k : Nat} (hi : i ≤ n) : Rx.altS m y i k = true ↔ m i k = true ∨ y i k = true := by
  simp only [Rx.altS, Bool.and_eq_true, decide_eq_true_eq, Bool.or_eq_true]
  constructor
  · exact fun h => h.2
  · intro h
    refine ⟨?_, h⟩
    rcases h with h | h
    · exact (hm _ _ hi h).1
    · exact (hy _ _ hi h).1
theorem Rx.upw_cat {n : Nat} {m y : Nat → Nat → Bool} (hm : Rx.Upw n m) (hy : Rx.Upw n y) : Rx.Upw n (Rx.catS m y) := by
  intro i k hi h
  obtain ⟨j, h1, h2⟩ := (Rx.catS_iff hm hy hi).1 h
  have h3 := hm _ _ hi h1
  have h4 := hy _ _ h3.2 h2
  exact ⟨by omega, h4.2⟩
theorem Rx.upw_alt {n : Nat} {m y : Nat → Nat → Bool} (hm : Rx.Upw n m) (hy : Rx.Upw n y) : Rx.Upw n (Rx.altS m y) := by
  intro i k hi h
  rcases (Rx.altS_iff hm hy hi).1 h with h | h
  · exact hm _ _ hi h
  · exact hy _ _ hi h
theorem Rx.upw_idm (n : Nat) : Rx.Upw n Rx.idm := by
  intro i k hi h; simp only [Rx.idm, beq_iff_eq] at h; omega
theorem Rx.upw_non (n : Nat) : Rx.Upw n Rx.non := by
  intro i k hi h; simp [Rx.non] at h
theorem Rx.clo_in {n : Nat} {R S : Nat → Nat → Prop} (h : ∀ i k, i ≤ n → R i k → k ≤ n ∧ Rx.Clo S i k) {i k : Nat} (hc : Rx.Clo R i k) : i ≤ n → Rx.Clo S i k := by
  induction hc with
  | refl => exact fun _ => .refl _
  | step r _ ih => intro hi; have := h _ _ hi r; exact this.2.trans (ih this.1)
mutual
theorem Rx.sp_iff (s : Nat → Nat) (n : Nat) : ∀ (x : Rx), x.wf = true → ∀ (i k : Nat), i ≤ n → (Rx.sp s n x i k = true ↔ Rx.Go s n x i k)
  | .node 0 f l, hw, i, k, hi => by
    have hl : l = [] := by
      simp only [Rx.wf, Bool.and_eq_true, Bool.not_eq_true', Bool.and_eq_false_imp, decide_eq_true_eq, decide_eq_false_iff_not, Nat.not_lt] at hw
      exact List.length_eq_zero_iff.1 (by have := hw.1.1.2 (by omega); omega)
    subst hl
    simp [Rx.sp, Rx.spA, Rx.Go, Rx.idm]
  | .node 1 f _, _, i, k, hi => by simp [Rx.sp, Rx.Go]
  | .node 2 f l, hw, i, k, hi => by
    have hl : Rx.wfL l = true := by simp only [Rx.wf, Bool.and_eq_true] at hw; exact hw.2
    simp only [Rx.sp, Rx.Go]
    rw [Rx.spC_iff s n l hl Rx.idm (Rx.upw_idm n) i k hi]
    constructor
    · rintro ⟨j, h1, h2⟩; simp only [Rx.idm, beq_iff_eq] at h1; rw [h1]; exact h2
    · exact fun h => ⟨i, by simp [Rx.idm], h⟩
  | .node 3 f l, hw, i, k, hi => by
    have hl : Rx.wfL l = true := by simp only [Rx.wf, Bool.and_eq_true] at hw; exact hw.2
    simp only [Rx.sp, Rx.Go]
    rw [Rx.spA_iff s n l hl Rx.non (Rx.upw_non n) i k hi]
    simp [Rx.non]
  | .node (q + 4) f l, hw, i, k, hi => by
    have hl : Rx.wfL l = true := by simp only [Rx.wf, Bool.and_eq_true] at hw; exact hw.2
    have ha := Rx.spA_iff s n l hl Rx.idm (Rx.upw_idm n)
    simp only [Rx.sp, Rx.Go]
    rw [Rx.war_iff (Rx.spA s n l Rx.idm) (n + 1) (fun i hi => (ha i i (by omega)).2 (.inl (by simp [Rx.idm]))) ?_ i k (by omega)]
    · constructor
      · intro h
        refine Rx.clo_in (n := n) ?_ h hi
        intro i k hi h
        rcases (ha i k hi).1 h with h | h
        · simp only [Rx.idm, beq_iff_eq] at h; subst h; exact ⟨hi, .refl _⟩
        · exact ⟨(Rx.goA_up s n l i k h).2 hi, .one h⟩
      · intro h
        refine Rx.clo_in (n := n) ?_ h hi
        intro i k hi h
        exact ⟨(Rx.goA_up s n l i k h).2 hi, .one ((ha i k hi).2 (.inr h))⟩
    · intro i k hi h
      rcases (ha i k (by omega)).1 h with h | h
      · simp only [Rx.idm, beq_iff_eq] at h; omega
      · have := (Rx.goA_up s n l i k h).2 (by omega); omega
theorem Rx.spC_iff (s : Nat → Nat) (n : Nat) : ∀ (l : List Rx), Rx.wfL l = true → ∀ (m : Nat → Nat → Bool), Rx.Upw n m → ∀ (i k : Nat), i ≤ n → (Rx.spC s n l m i k = true ↔ ∃ j, m i j = true ∧ Rx.GoC s n l j k)
  | [], _, m, hm, i, k, hi => by simp [Rx.spC, Rx.GoC]
  | x :: r, hw, m, hm, i, k, hi => by
    simp only [Rx.wfL, Bool.and_eq_true] at hw
    have hx := Rx.sp_iff s n x hw.1
    have hy : Rx.Upw n (Rx.sp s n x) := fun i k hi h => by
      have := Rx.go_up s n x i k ((hx i k hi).1 h); exact ⟨this.1, this.2 hi⟩
    simp only [Rx.spC, Rx.GoC]
    rw [Rx.spC_iff s n r hw.2 _ (Rx.upw_cat hm hy) i k hi]
    constructor
    · rintro ⟨j, h1, h2⟩
      obtain ⟨a, h3, h4⟩ := (Rx.catS_iff hm hy hi).1 h1
      exact ⟨a, h3, j, (hx a j (hm _ _ hi h3).2).1 h4, h2⟩
    · rintro ⟨a, h3, j, h4, h2⟩
      exact ⟨j, (Rx.catS_iff hm hy hi).2 ⟨a, h3, (hx a j (hm _ _ hi h3).2).2 h4⟩, h2⟩
theorem Rx.spA_iff (s : Nat → Nat) (n : Nat) : ∀ (l : List Rx), Rx.wfL l = true → ∀ (m : Nat → Nat → Bool), Rx.Upw n m → ∀ (i k : Nat), i ≤ n → (Rx.spA s n l m i k = true ↔ m i k = true ∨ Rx.GoA s n l i k)
  | [], _, m, hm, i, k, hi => by simp [Rx.spA, Rx.GoA]
  | x :: r, hw, m, hm, i, k, hi => by
    simp only [Rx.wfL, Bool.and_eq_true] at hw
    have hx := Rx.sp_iff s n x hw.1
    have hy : Rx.Upw n (Rx.sp s n x) := fun i k hi h => by
      have := Rx.go_up s n x i k ((hx i k hi).1 h); exact ⟨this.1, this.2 hi⟩
    simp only [Rx.spA, Rx.GoA]
    rw [Rx.spA_iff s n r hw.2 _ (Rx.upw_alt hm hy) i k hi, Rx.altS_iff hm hy hi, hx i k hi, or_assoc]
end
end Go.Proofs.Ytnbbepgjpfhjdaa
namespace Go.Proofs.Ytnbbepgjpfhjdaa
set_option linter.unusedVariables false
set_option linter.unusedSimpArgs false
mutual
def Rx.emp : Rx → Bool
  | .node k _ l => if k = 0 then true else if k = 4 then true else if k = 3 then Rx.empA l else if k = 2 then Rx.empC l else false
def Rx.empA : List Rx → Bool
  | [] => false
  | x :: r => Rx.emp x || Rx.empA r
def Rx.empC : List Rx → Bool
  | [] => true
  | x :: r => Rx.emp x && Rx.empC r
end
inductive Ps where
  | node (kind : Nat) (set : Nat → Bool) (kids : List Ps) (empty done : Bool) : Ps
def Ps.done : Ps → Bool
  | .node _ _ _ _ d => d
def Ps.empty : Ps → Bool
  | .node _ _ _ e _ => e
mutual
def Ps.size : Ps → Nat
  | .node _ _ l _ _ => 1 + Ps.sizeL l
def Ps.sizeL : List Ps → Nat
  | [] => 0
  | x :: r => Ps.size x + Ps.sizeL r
end
theorem Ps.size_pos : ∀ x : Ps, 1 ≤ x.size
  | .node _ _ _ _ _ => by simp [Ps.size]
mutual
def Ps.of : Rx → Ps
  | .node k f l => .node k f (Ps.ofL l) (Rx.emp (.node k f l)) false
def Ps.ofL : List Rx → List Ps
  | [] => []
  | x :: r => Ps.of x :: Ps.ofL r
end
mutual
def Ps.read (c : Nat) : Ps → Bool → Ps
  | .node k f l e d, b =>
    if k = 1 then .node k f l e (b && f c)
    else if k = 2 then .node k f (Ps.readC c l b) e (Ps.doneC c l b false)
    else if k = 3 then .node k f (Ps.readA c l b) e (Ps.doneA c l b false)
    else if k = 4 then .node k f (Ps.readS c l b) e (Ps.doneS c l b)
    else .node k f l e d
def Ps.readC (c : Nat) : List Ps → Bool → List Ps
  | [], _ => []
  | x :: r, b => Ps.read c x b :: Ps.readC c r (x.done || b && x.empty)
def Ps.doneC (c : Nat) : List Ps → Bool → Bool → Bool
  | [], _, d => d
  | x :: r, b, d => Ps.doneC c r (x.done || b && x.empty) ((Ps.read c x b).done || d && x.empty)
def Ps.readA (c : Nat) : List Ps → Bool → List Ps
  | [], _ => []
  | x :: r, b => Ps.read c x b :: Ps.readA c r b
def Ps.doneA (c : Nat) : List Ps → Bool → Bool → Bool
  | [], _, d => d
  | x :: r, b, d => Ps.doneA c r b (d || (Ps.read c x b).done)
def Ps.readS (c : Nat) : List Ps → Bool → List Ps
  | [], _ => []
  | x :: r, b => Ps.read c x (b || x.done) :: r
def Ps.doneS (c : Nat) : List Ps → Bool → Bool
  | [], _ => false
  | x :: _, b => (Ps.read c x (b || x.done)).done
end
theorem Ps.of_empty (x : Rx) : (Ps.of x).empty = x.emp := by cases x; rfl
theorem Ps.of_done (x : Rx) : (Ps.of x).done = false := by cases x; rfl
theorem Ps.read_empty (c : Nat) (x : Ps) (b : Bool) : (Ps.read c x b).empty = x.empty := by
  cases x
  rw [Ps.read]
  repeat' split
  all_goals rfl
def Ps.run (s : Nat → Nat) (x : Rx) (b : Nat → Bool) : Nat → Ps
  | 0 => Ps.of x
  | q + 1 => Ps.read (s q) (Ps.run s x b q) (b q)
theorem Ps.run_empty (s : Nat → Nat) (x : Rx) (b : Nat → Bool) (q : Nat) : (Ps.run s x b q).empty = x.emp := by
  induction q with
  | zero => exact Ps.of_empty x
  | succ q ih => rw [Ps.run, Ps.read_empty, ih]
def Ps.kidsC (s : Nat → Nat) : List Rx → (Nat → Bool) → Nat → List Ps
  | [], _, _ => []
  | x :: r, b, q => Ps.run s x b q :: Ps.kidsC s r (fun j => (Ps.run s x b j).done || b j && x.emp) q
def Ps.kidsA (s : Nat → Nat) : List Rx → (Nat → Bool) → Nat → List Ps
  | [], _, _ => []
  | x :: r, b, q => Ps.run s x b q :: Ps.kidsA s r b q
theorem Ps.kidsC_zero (s : Nat → Nat) : ∀ (l : List Rx) (b : Nat → Bool), Ps.kidsC s l b 0 = Ps.ofL l
  | [], _ => rfl
  | x :: r, b => by rw [Ps.kidsC, Ps.kidsC_zero s r]; rfl
theorem Ps.kidsA_zero (s : Nat → Nat) : ∀ (l : List Rx) (b : Nat → Bool), Ps.kidsA s l b 0 = Ps.ofL l
  | [], _ => rfl
  | x :: r, b => by rw [Ps.kidsA, Ps.kidsA_zero s r]; rfl
theorem Ps.kidsC_on (s : Nat → Nat) (q : Nat) : ∀ (l : List Rx) (b : Nat → Bool), Ps.readC (s q) (Ps.kidsC s l b q) (b q) = Ps.kidsC s l b (q + 1)
  | [], _ => rfl
  | x :: r, b => by
    rw [Ps.kidsC, Ps.readC, Ps.kidsC, Ps.run_empty]
    have := Ps.kidsC_on s q r (fun j => (Ps.run s x b j).done || b j && x.emp)
    rw [this]; rfl
theorem Ps.kidsA_on (s : Nat → Nat) (q : Nat) : ∀ (l : List Rx) (b : Nat → Bool), Ps.readA (s q) (Ps.kidsA s l b q) (b q) = Ps.kidsA s l b (q + 1)
  | [], _ => rfl
  | x :: r, b => by
    rw [Ps.kidsA, Ps.readA, Ps.kidsA, Ps.kidsA_on s q r]; rfl
mutual
theorem Rx.emp_iff (s : Nat → Nat) (n : Nat) : ∀ (x : Rx), x.wf = true → ∀ j, (x.emp = true ↔ Rx.Go s n x j j)
  | .node 0 f l, _, j => by simp [Rx.emp, Rx.Go]
  | .node 1 f l, _, j => by simp [Rx.emp, Rx.Go]
  | .node 2 f l, hw, j => by
    have hl : Rx.wfL l = true := by simp only [Rx.wf, Bool.and_eq_true] at hw; exact hw.2
    simp only [Rx.emp, Rx.Go]
    exact Rx.empC_iff s n l hl j
  | .node 3 f l, hw, j => by
    have hl : Rx.wfL l = true := by simp only [Rx.wf, Bool.and_eq_true] at hw; exact hw.2
    simp only [Rx.emp, Rx.Go]
    exact Rx.empA_iff s n l hl j
  | .node 4 f l, hw, j => by
    simp only [Rx.emp, Rx.Go]
    exact ⟨fun _ => .refl _, fun _ => by simp⟩
  | .node (q + 5) f l, hw, j => by simp [Rx.wf] at hw
theorem Rx.empC_iff (s : Nat → Nat) (n : Nat) : ∀ (l : List Rx), Rx.wfL l = true → ∀ j, (Rx.empC l = true ↔ Rx.GoC s n l j j)
  | [], _, j => by simp [Rx.empC, Rx.GoC]
  | x :: r, hw, j => by
    simp only [Rx.wfL, Bool.and_eq_true] at hw
    simp only [Rx.empC, Rx.GoC, Bool.and_eq_true, Rx.emp_iff s n x hw.1 j, Rx.empC_iff s n r hw.2 j]
    constructor
    · rintro ⟨h1, h2⟩; exact ⟨j, h1, h2⟩
    · rintro ⟨m, h1, h2⟩
      have := Rx.go_up s n x _ _ h1; have := Rx.goC_up s n r _ _ h2
      have e : m = j := by omega
      subst e; exact ⟨h1, h2⟩
theorem Rx.empA_iff (s : Nat → Nat) (n : Nat) : ∀ (l : List Rx), Rx.wfL l = true → ∀ j, (Rx.empA l = true ↔ Rx.GoA s n l j j)
  | [], _, j => by simp [Rx.empA, Rx.GoA]
  | x :: r, hw, j => by
    simp only [Rx.wfL, Bool.and_eq_true] at hw
    simp only [Rx.empA, Rx.GoA, Bool.or_eq_true, Rx.emp_iff s n x hw.1 j, Rx.empA_iff s n r hw.2 j]
end
def Ps.Ok (s : Nat → Nat) (n : Nat) (x : Rx) : Prop := ∀ (b : Nat → Bool) (q : Nat), q ≤ n → ((Ps.run s x b q).done = true ↔ ∃ j, j < q ∧ b j = true ∧ Rx.Go s n x j q)
theorem Ps.doneC_iff (s : Nat → Nat) (n q : Nat) (hq : q + 1 ≤ n) : ∀ (l : List Rx), Rx.wfL l = true → (∀ x ∈ l, Ps.Ok s n x) → ∀ (b : Nat → Bool) (d : Bool), (Ps.doneC (s q) (Ps.kidsC s l b q) (b q) d = true ↔ (d = true ∧ Rx.GoC s n l (q + 1) (q + 1)) ∨ ∃ j, j ≤ q ∧ b j = true ∧ Rx.GoC s n l j (q + 1))
  | [], _, _, b, d => by
    simp only [Ps.kidsC, Ps.doneC, Rx.GoC, and_true]
    constructor
    · exact .inl
    · rintro (h | ⟨j, h1, _, h3⟩)
      · exact h
      · omega
  | x :: r, hw, hok, b, d => by
    simp only [Rx.wfL, Bool.and_eq_true] at hw
    have hx := hok x (by simp)
    have hr := fun y hy => hok y (List.mem_cons_of_mem x hy)
    have he := Rx.emp_iff s n x hw.1
    rw [Ps.kidsC, Ps.doneC, Ps.run_empty]
    have ih := Ps.doneC_iff s n q hq r hw.2 hr (fun j => (Ps.run s x b j).done || b j && x.emp) ((Ps.read (s q) (Ps.run s x b q) (b q)).done || d && x.emp)
    rw [ih]
    have h1 := hx b (q + 1) hq
    rw [Ps.run] at h1
    simp only [Bool.or_eq_true, Bool.and_eq_true, h1, Rx.GoC]
    constructor
    · rintro (⟨(⟨j, hj, hb, hg⟩ | ⟨hd, hem⟩), hg2⟩ | ⟨j, hj, (hdn | ⟨hb, hem⟩), hg⟩)
      · exact .inr ⟨j, by omega, hb, _, hg, hg2⟩
      · exact .inl ⟨hd, _, (he _).1 hem, hg2⟩
      · obtain ⟨i, hi, hb, hg1⟩ := (hx b j (by omega)).1 hdn
        exact .inr ⟨i, by omega, hb, _, hg1, hg⟩
      · exact .inr ⟨j, hj, hb, _, (he _).1 hem, hg⟩
    · rintro (⟨hd, m, hg1, hg2⟩ | ⟨i, hi, hb, m, hg1, hg2⟩)
      · have := Rx.go_up s n x _ _ hg1; have := Rx.goC_up s n r _ _ hg2
        have e : m = q + 1 := by omega
        subst e
        exact .inl ⟨.inr ⟨hd, (he _).2 hg1⟩, hg2⟩
      · have h3 := Rx.go_up s n x _ _ hg1; have h4 := Rx.goC_up s n r _ _ hg2
        by_cases hm : m = q + 1
        · subst hm
          exact .inl ⟨.inl ⟨i, by omega, hb, hg1⟩, hg2⟩
        · refine .inr ⟨m, by omega, ?_, hg2⟩
          by_cases hi : i = m
          · subst hi; exact .inr ⟨hb, (he _).2 hg1⟩
          · exact .inl ((hx b m (by omega)).2 ⟨i, by omega, hb, hg1⟩)
theorem Ps.doneA_iff (s : Nat → Nat) (n q : Nat) (hq : q + 1 ≤ n) : ∀ (l : List Rx), (∀ x ∈ l, Ps.Ok s n x) → ∀ (b : Nat → Bool) (d : Bool), (Ps.doneA (s q) (Ps.kidsA s l b q) (b q) d = true ↔ d = true ∨ ∃ j, j ≤ q ∧ b j = true ∧ Rx.GoA s n l j (q + 1))
  | [], _, b, d => by simp [Ps.kidsA, Ps.doneA, Rx.GoA]
  | x :: r, hok, b, d => by
    have hx := hok x (by simp)
    have hr := fun y hy => hok y (List.mem_cons_of_mem x hy)
    rw [Ps.kidsA, Ps.doneA, Ps.doneA_iff s n q hq r hr]
    have h1 := hx b (q + 1) hq
    rw [Ps.run] at h1
    simp only [Bool.or_eq_true, h1, Rx.GoA]
    constructor
    · rintro ((hd | ⟨j, hj, hb, hg⟩) | ⟨j, hj, hb, hg⟩)
      · exact .inl hd
      · exact .inr ⟨j, by omega, hb, .inl hg⟩
      · exact .inr ⟨j, hj, hb, .inr hg⟩
    · rintro (hd | ⟨j, hj, hb, hg | hg⟩)
      · exact .inl (.inl hd)
      · exact .inl (.inr ⟨j, by omega, hb, hg⟩)
      · exact .inr ⟨j, hj, hb, hg⟩
theorem Rx.Clo.last {R : Nat → Nat → Prop} (h : ∀ i k, R i k → i ≤ k) {i k : Nat} (hc : Rx.Clo R i k) : i < k → ∃ m, m < k ∧ i ≤ m ∧ Rx.Clo R i m ∧ R m k := by
  induction hc with
  | refl => intro h; omega
  | @step i j k r hc ih =>
    intro hik
    have h1 := h _ _ r
    by_cases hj : j < k
    · obtain ⟨m, h2, h3, h4, h5⟩ := ih hj
      exact ⟨m, h2, by omega, .step r h4, h5⟩
    · have hle : j ≤ k := by
        clear ih hik r h1 hj
        induction hc with
        | refl => exact Nat.le_refl _
        | step r _ ih => exact Nat.le_trans (h _ _ r) ih
      have e : j = k := by omega
      subst e
      exact ⟨i, hik, Nat.le_refl _, .refl _, r⟩
theorem Ps.runC (s : Nat → Nat) (f : Nat → Bool) (l : List Rx) (b : Nat → Bool) : ∀ q, ∃ d, Ps.run s (.node 2 f l) b q = .node 2 f (Ps.kidsC s l b q) (Rx.emp (.node 2 f l)) d
  | 0 => ⟨false, by rw [Ps.run, Ps.of, Ps.kidsC_zero]⟩
  | q + 1 => by
    obtain ⟨d, h⟩ := Ps.runC s f l b q
    exact ⟨_, by rw [Ps.run, h, Ps.read, if_neg (by decide), if_pos rfl, Ps.kidsC_on]⟩
theorem Ps.runA (s : Nat → Nat) (f : Nat → Bool) (l : List Rx) (b : Nat → Bool) : ∀ q, ∃ d, Ps.run s (.node 3 f l) b q = .node 3 f (Ps.kidsA s l b q) (Rx.emp (.node 3 f l)) d
  | 0 => ⟨false, by rw [Ps.run, Ps.of, Ps.kidsA_zero]⟩
  | q + 1 => by
    obtain ⟨d, h⟩ := Ps.runA s f l b q
    exact ⟨_, by rw [Ps.run, h, Ps.read, if_neg (by decide), if_neg (by decide), if_pos rfl, Ps.kidsA_on]⟩
theorem Ps.runS (s : Nat → Nat) (f : Nat → Bool) (y : Rx) (b : Nat → Bool) : ∃ b' : Nat → Bool, (∀ q, b' q = (b q || (Ps.run s y b' q).done)) ∧ ∀ q, Ps.run s (.node 4 f [y]) b q = .node 4 f [Ps.run s y b' q] true (Ps.run s y b' q).done := by
  have hk : ∀ q, ∃ K : Ps, Ps.run s (.node 4 f [y]) b q = .node 4 f [K] true K.done := by
    intro q
    induction q with
    | zero => exact ⟨Ps.of y, by rw [Ps.run, Ps.of, Ps.of_done]; simp [Ps.ofL, Rx.emp]⟩
    | succ q ih =>
      obtain ⟨K, h⟩ := ih
      exact ⟨Ps.read (s q) K (b q || K.done), by rw [Ps.run, h, Ps.read, if_neg (by decide), if_neg (by decide), if_neg (by decide), if_pos rfl]; rfl⟩
  obtain ⟨K, hK⟩ : ∃ K : Nat → Ps, ∀ q, Ps.run s (.node 4 f [y]) b q = .node 4 f [K q] true (K q).done := ⟨fun q => (hk q).choose, fun q => (hk q).choose_spec⟩
  have h0 : K 0 = Ps.of y := by
    have := hK 0
    rw [Ps.run, Ps.of] at this
    injection this with _ _ h _ _
    simp only [Ps.ofL] at h
    injection h with h _
    exact h.symm
  have h1 : ∀ q, K (q + 1) = Ps.read (s q) (K q) (b q || (K q).done) := by
    intro q
    have := hK (q + 1)
    rw [Ps.run, hK q, Ps.read, if_neg (by decide), if_neg (by decide), if_neg (by decide), if_pos rfl] at this
    injection this with _ _ h _ _
    simp only [Ps.readS] at h
    injection h with h _
    exact h.symm
  have h2 : ∀ q, K q = Ps.run s y (fun j => b j || (K j).done) q := by
    intro q
    induction q with
    | zero => exact h0
    | succ q ih => rw [h1, Ps.run, ← ih]
  refine ⟨fun j => b j || (K j).done, fun q => by rw [← h2 q], fun q => ?_⟩
  rw [hK q, ← h2 q]
mutual
theorem Ps.ok (s : Nat → Nat) (n : Nat) : ∀ (x : Rx), x.wf = true → Ps.Ok s n x
  | .node 0 f l, _, b, q, hq => by
    have h : ∀ q, (Ps.run s (.node 0 f l) b q).done = false := by
      intro q
      have : ∃ e l', Ps.run s (.node 0 f l) b q = .node 0 f l' e false := by
        induction q with
        | zero => exact ⟨_, _, rfl⟩
        | succ q ih => obtain ⟨e, l', h⟩ := ih; exact ⟨e, l', by rw [Ps.run, h, Ps.read]; simp⟩
      obtain ⟨e, l', h⟩ := this
      rw [h]; rfl
    rw [h]
    simp only [Rx.Go]
    constructor
    · simp
    · rintro ⟨j, h1, _, h2⟩; omega
  | .node 1 f l, _, b, q, hq => by
    have hk : ∀ q, ∃ e l' d, Ps.run s (.node 1 f l) b q = .node 1 f l' e d := by
      intro q
      induction q with
      | zero => exact ⟨_, _, _, rfl⟩
      | succ q ih => obtain ⟨e, l', d, h⟩ := ih; exact ⟨e, l', _, by rw [Ps.run, h, Ps.read, if_pos rfl]⟩
    simp only [Rx.Go]
    cases q with
    | zero => rw [Ps.run, Ps.of_done]; simp
    | succ q =>
      obtain ⟨e, l', d, h⟩ := hk q
      rw [Ps.run, h, Ps.read, if_pos rfl]
      simp only [Ps.done, Bool.and_eq_true]
      constructor
      · rintro ⟨h1, h2⟩; exact ⟨q, by omega, h1, by omega, rfl, h2⟩
      · rintro ⟨j, h1, h2, h3, h4, h5⟩
        have e : j = q := by omega
        subst e; exact ⟨h2, h5⟩
  | .node 2 f l, hw, b, q, hq => by
    have hl : Rx.wfL l = true := by simp only [Rx.wf, Bool.and_eq_true] at hw; exact hw.2
    have hok := Ps.okL s n l hl
    simp only [Rx.Go]
    cases q with
    | zero => rw [Ps.run, Ps.of_done]; simp
    | succ q =>
      obtain ⟨d, h⟩ := Ps.runC s f l b q
      rw [Ps.run, h, Ps.read, if_neg (by decide), if_pos rfl]
      simp only [Ps.done]
      rw [Ps.doneC_iff s n q hq l hl hok b false]
      constructor
      · rintro (⟨h1, _⟩ | ⟨j, h1, h2, h3⟩)
        · simp at h1
        · exact ⟨j, by omega, h2, h3⟩
      · rintro ⟨j, h1, h2, h3⟩; exact .inr ⟨j, by omega, h2, h3⟩
  | .node 3 f l, hw, b, q, hq => by
    have hl : Rx.wfL l = true := by simp only [Rx.wf, Bool.and_eq_true] at hw; exact hw.2
    have hok := Ps.okL s n l hl
    simp only [Rx.Go]
    cases q with
    | zero => rw [Ps.run, Ps.of_done]; simp
    | succ q =>
      obtain ⟨d, h⟩ := Ps.runA s f l b q
      rw [Ps.run, h, Ps.read, if_neg (by decide), if_neg (by decide), if_pos rfl]
      simp only [Ps.done]
      rw [Ps.doneA_iff s n q hq l hok b false]
      constructor
      · rintro (h1 | ⟨j, h1, h2, h3⟩)
        · simp at h1
        · exact ⟨j, by omega, h2, h3⟩
      · rintro ⟨j, h1, h2, h3⟩; exact .inr ⟨j, by omega, h2, h3⟩
  | .node 4 f [], hw, b, q, hq => by simp [Rx.wf] at hw
  | .node 4 f [y], hw, b, q, hq => by
    have hy : y.wf = true := by simp only [Rx.wf, Rx.wfL, Bool.and_eq_true] at hw; exact hw.2.1
    have hok := Ps.ok s n y hy
    obtain ⟨b', hb', hr⟩ := Ps.runS s f y b
    simp only [Rx.Go]
    rw [hr q]
    simp only [Ps.done]
    have key : ∀ q, q ≤ n → ((Ps.run s y b' q).done = true ↔ ∃ j, j < q ∧ b j = true ∧ Rx.Clo (Rx.GoA s n [y]) j q) := by
      intro q
      induction q using Nat.strongRecOn with
      | _ q ih =>
        intro hq
        rw [hok b' q hq]
        constructor
        · rintro ⟨j, hj, hbj, hg⟩
          rw [hb' j] at hbj
          simp only [Bool.or_eq_true] at hbj
          have hg' : Rx.GoA s n [y] j q := by simp only [Rx.GoA]; exact .inl hg
          rcases hbj with hbj | hbj
          · exact ⟨j, hj, hbj, .one hg'⟩
          · obtain ⟨i, hi, hbi, hc⟩ := (ih j hj (by omega)).1 hbj
            exact ⟨i, by omega, hbi, hc.trans (.one hg')⟩
        · rintro ⟨j, hj, hbj, hc⟩
          obtain ⟨m, hm, hjm, hc1, hg⟩ := Rx.Clo.last (fun i k h => (Rx.goA_up s n [y] i k h).1) hc hj
          have hg' : Rx.Go s n y m q := by simp only [Rx.GoA, or_false] at hg; exact hg
          refine ⟨m, hm, ?_, hg'⟩
          rw [hb' m]
          simp only [Bool.or_eq_true]
          by_cases e : j = m
          · subst e; exact .inl hbj
          · exact .inr ((ih m hm (by omega)).2 ⟨j, by omega, hbj, hc1⟩)
    exact key q hq
  | .node 4 f (_ :: _ :: _), hw, b, q, hq => by simp [Rx.wf] at hw
  | .node (q + 5) f l, hw, _, _, _ => by simp [Rx.wf] at hw
theorem Ps.okL (s : Nat → Nat) (n : Nat) : ∀ (l : List Rx), Rx.wfL l = true → ∀ x ∈ l, Ps.Ok s n x
  | [], _, x, hx => by simp at hx
  | y :: r, hw, x, hx => by
    simp only [Rx.wfL, Bool.and_eq_true] at hw
    rcases List.mem_cons.1 hx with e | hx
    · rw [e]; exact Ps.ok s n y hw.1
    · exact Ps.okL s n r hw.2 x hx
end
def Px.by (s : ByteArray) (i : Nat) : Nat := (s.data.toList.getD i 0).toNat
end Go.Proofs.Ytnbbepgjpfhjdaa
namespace Go.Proofs.Ytnbbepgjpfhjdaa
set_option linter.unusedVariables false
set_option linter.unusedSimpArgs false
open Go.RowKit
theorem ret_bool {a b : Bool} (h : a = b) : Ending.returned (.bool a) = .returned (.bool b) := by rw [h]
theorem ret_int {k : IntKind} {a b : Int} (h : a = b) : Ending.returned (.int k a) = .returned (.int k b) := by rw [h]
set_option maxHeartbeats 400000 in
theorem follower_any (n : Int) (w : World) : Calls Try.prog 103 #[.int .u8 n] w fun e w' => e = .returned (.bool (Rn.folI n)) ∧ w = w' := by
  go_enter Try.func103, Try.ntmps103
  go_wp2
  all_goals (go_ret; refine ⟨ret_bool ?_, rfl⟩; first | (simp [Rn.folI, *]; done) | (simp [Rn.folI, *]; omega))
set_option maxHeartbeats 400000 in
theorem size_any (n : Int) (w : World) : Calls Try.prog 104 #[.int .i64 n] w fun e w' => e = .returned (.int .i64 (Rn.sizeI n)) ∧ w = w' := by
  go_enter Try.func104, Try.ntmps104
  go_wp2
  all_goals (go_ret; refine ⟨ret_int ?_, rfl⟩; unfold Rn.sizeI; (repeat' split) <;> first | rfl | omega)
set_option maxHeartbeats 400000 in
theorem lead_any (n : Int) (w : World) : Calls Try.prog 102 #[.int .i64 n] w fun e w' => e = .returned (.int .i64 (Rn.leadI n)) ∧ w = w' := by
  go_enter Try.func102, Try.ntmps102
  go_wp2
  all_goals (go_ret; refine ⟨ret_int ?_, rfl⟩; simp_all [Rn.leadI])
set_option maxHeartbeats 400000 in
theorem promised_any (n : Int) (w : World) : Calls Try.prog 101 #[.int .u8 n] w fun e w' => e = .returned (.int .i64 (Rn.promI n)) ∧ w = w' := by
  go_enter Try.func101, Try.ntmps101
  go_wp2
  all_goals (go_ret; refine ⟨ret_int ?_, rfl⟩; unfold Rn.promI; (repeat' split) <;> first | rfl | omega)
end Go.Proofs.Ytnbbepgjpfhjdaa
namespace Go.Proofs.Ytnbbepgjpfhjdaa
set_option linter.unusedVariables false
set_option linter.unusedSimpArgs false
open Go.RowKit
end Go.Proofs.Ytnbbepgjpfhjdaa
