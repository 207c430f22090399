/- Regular expressions: plain facts: how many nodes one has and how deep it is, what it matches, and the closure of a table. -/
import Derived.Test.YtndenipjiclkaaaBsM
namespace Go.Proofs.Ytndenipjiclkaaa
set_option linter.unusedVariables false
set_option linter.unusedSimpArgs false
/-- an expression: its kind, its set, its kids -/
inductive Rx where
  | node (kind : Nat) (set : Nat → Bool) (kids : List Rx) : Rx
mutual
/-- how many nodes -/
def Rx.size : Rx → Nat
  | .node _ _ l => 1 + Rx.sizeL l
def Rx.sizeL : List Rx → Nat
  | [] => 0
  | x :: r => Rx.size x + Rx.sizeL r
end
mutual
/-- how deep: one node is 1 deep -/
def Rx.depth : Rx → Nat
  | .node _ _ l => 1 + Rx.depthL l
def Rx.depthL : List Rx → Nat
  | [] => 0
  | x :: r => max (Rx.depth x) (Rx.depthL r)
end
mutual
/-- the kinds are kinds, and have the kids that they may have -/
def Rx.wf : Rx → Bool
  | .node k _ l => decide (k ≤ 4) && !(decide (k < 2) && decide (0 < l.length)) && !(k == 4 && l.length != 1) && Rx.wfL l
def Rx.wfL : List Rx → Bool
  | [] => true
  | x :: r => Rx.wf x && Rx.wfL r
end
mutual
/-- the document's count: none where the expression may not be -/
def Rx.cnt : Rx → Nat → Option Nat
  | .node k _ l, d =>
    if (decide (60 < d) || decide (4 < k) || decide (400 < l.length)) = true then none
    else if (decide (k < 2) && decide (0 < l.length) || k == 4 && l.length != 1) = true then none
    else Rx.cntL l (d + 1) 1
def Rx.cntL : List Rx → Nat → Nat → Option Nat
  | [], _, n => some n
  | x :: r, d, n =>
    match Rx.cnt x d with
    | none => none
    | some k => if 400 < n + k then none else Rx.cntL r d (n + k)
end
theorem Rx.size_pos : ∀ x : Rx, 1 ≤ x.size
  | .node _ _ _ => by simp [Rx.size]
theorem Rx.length_le : ∀ l : List Rx, l.length ≤ Rx.sizeL l
  | [] => by simp [Rx.sizeL]
  | x :: r => by
    have := Rx.size_pos x; have := Rx.length_le r
    simp [Rx.sizeL]; omega
/-- it may be, at a depth -/
def Rx.may (x : Rx) (d : Nat) : Bool := x.wf && decide (x.depth + d ≤ 61) && decide (x.size ≤ 400)
theorem Rx.may_iff {x : Rx} {d : Nat} : x.may d = true ↔ x.wf = true ∧ x.depth + d ≤ 61 ∧ x.size ≤ 400 := by simp [Rx.may, and_assoc]
/-- all of them may be, at a depth, behind n nodes -/
def Rx.mayL (l : List Rx) (d n : Nat) : Bool := Rx.wfL l && decide (Rx.depthL l + d ≤ 61) && decide (n + Rx.sizeL l ≤ 400)
theorem Rx.mayL_iff {l : List Rx} {d n : Nat} : Rx.mayL l d n = true ↔ Rx.wfL l = true ∧ Rx.depthL l + d ≤ 61 ∧ n + Rx.sizeL l ≤ 400 := by simp [Rx.mayL, and_assoc]
mutual
theorem Rx.cnt_eq : ∀ (x : Rx) (d : Nat), 1 ≤ d → x.cnt d = if x.may d then some x.size else none
  | .node k f l, d, hd => by
    have hl := Rx.length_le l
    rw [Rx.cnt]
    split
    · rename_i h
      simp only [Bool.or_eq_true, decide_eq_true_eq] at h
      rw [if_neg]
      rw [Rx.may_iff]
      simp only [Rx.wf, Rx.depth, Rx.size, Bool.and_eq_true, decide_eq_true_eq]
      rintro ⟨⟨⟨⟨h1, _⟩, _⟩, _⟩, h2, h3⟩
      omega
    · rename_i h
      simp only [Bool.or_eq_true, decide_eq_true_eq, not_or, Nat.not_lt] at h
      obtain ⟨⟨h1, h2⟩, h3⟩ := h
      split
      · rename_i h'
        rw [if_neg]
        rw [Rx.may_iff]
        simp only [Rx.wf, Bool.and_eq_true, decide_eq_true_eq, Bool.not_eq_true']
        rintro ⟨⟨⟨⟨_, h4⟩, h5⟩, _⟩, _, _⟩
        rw [h4, h5] at h'
        simp at h'
      · rename_i h'
        simp only [Bool.or_eq_true, not_or, Bool.not_eq_true] at h'
        rw [Rx.cntL_eq l (d + 1) 1 (by omega) (by omega) (by omega)]
        have e : (Rx.node k f l).may d = Rx.mayL l (d + 1) 1 := by
          rw [Bool.eq_iff_iff, Rx.may_iff, Rx.mayL_iff]
          simp only [Rx.wf, Rx.depth, Rx.size, h'.1, h'.2, Bool.not_false, Bool.and_true, Bool.and_eq_true, decide_eq_true_eq]
          constructor
          · rintro ⟨⟨_, h4⟩, h5, h6⟩; exact ⟨h4, by omega, h6⟩
          · rintro ⟨h4, h5, h6⟩; exact ⟨⟨h2, h4⟩, by omega, h6⟩
        rw [e]; simp [Rx.size]
theorem Rx.cntL_eq : ∀ (l : List Rx) (d n : Nat), 1 ≤ d → d ≤ 61 → n ≤ 400 → Rx.cntL l d n = if Rx.mayL l d n then some (n + Rx.sizeL l) else none
  | [], d, n, _, h2, h => by simp [Rx.cntL, Rx.mayL, Rx.wfL, Rx.depthL, Rx.sizeL, h2, h]
  | x :: r, d, n, h1, h2, h => by
    rw [Rx.cntL, Rx.cnt_eq x d h1]
    cases hx : x.may d
    · simp only [Bool.false_eq_true, if_false]
      rw [if_neg]
      rw [Rx.mayL_iff]
      simp only [Rx.wfL, Rx.depthL, Rx.sizeL, Bool.and_eq_true]
      rintro ⟨⟨h3, _⟩, h4, h5⟩
      have h6 : x.may d = true := Rx.may_iff.2 ⟨h3, by omega, by omega⟩
      rw [hx] at h6; simp at h6
    · simp only [if_true]
      obtain ⟨hx1, hx2, hx3⟩ := Rx.may_iff.1 hx
      split
      · rw [if_neg]
        rw [Rx.mayL_iff]
        simp only [Rx.sizeL]
        rintro ⟨_, _, h5⟩
        omega
      · rw [Rx.cntL_eq r d (n + x.size) h1 h2 (by omega)]
        have e2 : n + x.size + Rx.sizeL r = n + Rx.sizeL (x :: r) := by simp only [Rx.sizeL]; omega
        have e : Rx.mayL r d (n + x.size) = Rx.mayL (x :: r) d n := by
          rw [Bool.eq_iff_iff, Rx.mayL_iff, Rx.mayL_iff, e2]
          simp only [Rx.wfL, Rx.depthL, hx1, Bool.true_and]
          constructor
          · rintro ⟨h4, h5, h6⟩; exact ⟨h4, by omega, h6⟩
          · rintro ⟨h4, h5, h6⟩; exact ⟨h4, by omega, h6⟩
        rw [e, e2]
end
/-- one step after the other, none too -/
inductive Rx.Clo (R : Nat → Nat → Prop) : Nat → Nat → Prop
  | refl (i : Nat) : Rx.Clo R i i
  | step {i j k : Nat} : R i j → Rx.Clo R j k → Rx.Clo R i k
theorem Rx.Clo.trans {R : Nat → Nat → Prop} {i j k : Nat} (h : Rx.Clo R i j) (h' : Rx.Clo R j k) : Rx.Clo R i k := by
  induction h with
  | refl => exact h'
  | step r _ ih => exact .step r (ih h')
theorem Rx.Clo.one {R : Nat → Nat → Prop} {i k : Nat} (h : R i k) : Rx.Clo R i k := .step h (.refl _)
theorem Rx.Clo.of {R S : Nat → Nat → Prop} (hs : ∀ i k, R i k → S i k) {i k : Nat} (h : Rx.Clo R i k) : Rx.Clo S i k := by
  induction h with
  | refl => exact .refl _
  | step r _ ih => exact .step (hs _ _ r) ih
mutual
/-- from which place to which one an expression may go in the text s of n bytes -/
def Rx.Go (s : Nat → Nat) (n : Nat) : Rx → Nat → Nat → Prop
  | .node 0 _ _, i, k => i = k
  | .node 1 f _, i, k => i < n ∧ k = i + 1 ∧ f (s i) = true
  | .node 2 _ l, i, k => Rx.GoC s n l i k
  | .node 3 _ l, i, k => Rx.GoA s n l i k
  | .node (_ + 4) _ l, i, k => Rx.Clo (Rx.GoA s n l) i k
/-- one behind the other -/
def Rx.GoC (s : Nat → Nat) (n : Nat) : List Rx → Nat → Nat → Prop
  | [], i, k => i = k
  | x :: r, i, k => ∃ j, Rx.Go s n x i j ∧ Rx.GoC s n r j k
/-- one of them -/
def Rx.GoA (s : Nat → Nat) (n : Nat) : List Rx → Nat → Nat → Prop
  | [], _, _ => False
  | x :: r, i, k => Rx.Go s n x i k ∨ Rx.GoA s n r i k
end
theorem Rx.Clo.up {R : Nat → Nat → Prop} {n : Nat} (h : ∀ i k, R i k → i ≤ k ∧ (i ≤ n → k ≤ n)) {i k : Nat} (hc : Rx.Clo R i k) : i ≤ k ∧ (i ≤ n → k ≤ n) := by
  induction hc with
  | refl => exact ⟨Nat.le_refl _, id⟩
  | step r _ ih => have := h _ _ r; exact ⟨by omega, fun hi => ih.2 (this.2 hi)⟩
mutual
/-- a way goes up, and stays inside of the text -/
theorem Rx.go_up (s : Nat → Nat) (n : Nat) : ∀ (x : Rx) (i k : Nat), Rx.Go s n x i k → i ≤ k ∧ (i ≤ n → k ≤ n)
  | .node 0 _ _, i, k, h => by simp only [Rx.Go] at h; omega
  | .node 1 f _, i, k, h => by simp only [Rx.Go] at h; omega
  | .node 2 _ l, i, k, h => by simp only [Rx.Go] at h; exact Rx.goC_up s n l i k h
  | .node 3 _ l, i, k, h => by simp only [Rx.Go] at h; exact Rx.goA_up s n l i k h
  | .node (_ + 4) _ l, i, k, h => by simp only [Rx.Go] at h; exact Rx.Clo.up (Rx.goA_up s n l) h
theorem Rx.goC_up (s : Nat → Nat) (n : Nat) : ∀ (l : List Rx) (i k : Nat), Rx.GoC s n l i k → i ≤ k ∧ (i ≤ n → k ≤ n)
  | [], i, k, h => by simp only [Rx.GoC] at h; omega
  | x :: r, i, k, h => by
    simp only [Rx.GoC] at h
    obtain ⟨j, h1, h2⟩ := h
    have := Rx.go_up s n x i j h1; have := Rx.goC_up s n r j k h2
    omega
theorem Rx.goA_up (s : Nat → Nat) (n : Nat) : ∀ (l : List Rx) (i k : Nat), Rx.GoA s n l i k → i ≤ k ∧ (i ≤ n → k ≤ n)
  | [], i, k, h => by simp only [Rx.GoA] at h
  | x :: r, i, k, h => by
    simp only [Rx.GoA] at h
    rcases h with h | h
    · exact Rx.go_up s n x i k h
    · exact Rx.goA_up s n r i k h
end
/-- a table's closure over the places below j -/
def Rx.war (m : Nat → Nat → Bool) : Nat → Nat → Nat → Bool
  | 0, i, k => m i k
  | j + 1, i, k => Rx.war m j i k || Rx.war m j i j && Rx.war m j j k
theorem Rx.war_row (m : Nat → Nat → Bool) (j i : Nat) : Rx.war m (j + 1) i j = Rx.war m j i j := by
  simp only [Rx.war]; cases Rx.war m j i j <;> simp
theorem Rx.war_col (m : Nat → Nat → Bool) (j k : Nat) : Rx.war m (j + 1) j k = Rx.war m j j k := by
  simp only [Rx.war]; cases Rx.war m j j k <;> simp
theorem Rx.war_mono (m : Nat → Nat → Bool) {i k : Nat} (h : m i k = true) : ∀ j, Rx.war m j i k = true
  | 0 => h
  | j + 1 => by simp [Rx.war, Rx.war_mono m h j]
theorem Rx.war_trans (m : Nat → Nat → Bool) : ∀ (n a i k : Nat), a < n → Rx.war m n i a = true → Rx.war m n a k = true → Rx.war m n i k = true
  | 0, _, _, _, h, _, _ => by omega
  | n + 1, a, i, k, h, h1, h2 => by
    by_cases ha : a = n
    · subst ha
      rw [Rx.war_row] at h1; rw [Rx.war_col] at h2
      simp [Rx.war, h1, h2]
    · have ih := Rx.war_trans m n a
      simp only [Rx.war, Bool.or_eq_true, Bool.and_eq_true] at h1 h2 ⊢
      rcases h1 with h1 | ⟨h1, h1'⟩ <;> rcases h2 with h2 | ⟨h2, h2'⟩
      · exact .inl (ih i k (by omega) h1 h2)
      · exact .inr ⟨ih i n (by omega) h1 h2, h2'⟩
      · exact .inr ⟨h1, ih n k (by omega) h1' h2⟩
      · exact .inr ⟨h1, h2'⟩
theorem Rx.war_clo (m : Nat → Nat → Bool) : ∀ (n i k : Nat), Rx.war m n i k = true → Rx.Clo (fun a b => m a b = true) i k
  | 0, _, _, h => .one h
  | n + 1, i, k, h => by
    simp only [Rx.war, Bool.or_eq_true, Bool.and_eq_true] at h
    rcases h with h | ⟨h, h'⟩
    · exact Rx.war_clo m n i k h
    · exact (Rx.war_clo m n i n h).trans (Rx.war_clo m n n k h')
/-- the closure over all places is: one step after the other -/
theorem Rx.war_iff (m : Nat → Nat → Bool) (n : Nat) (hr : ∀ i, i < n → m i i = true) (hs : ∀ i k, i < n → m i k = true → k < n) (i k : Nat) (hi : i < n) : Rx.war m n i k = true ↔ Rx.Clo (fun a b => m a b = true) i k := by
  constructor
  · exact Rx.war_clo m n i k
  · intro h
    induction h with
    | refl i => exact Rx.war_mono m (hr _ hi) n
    | step r _ ih =>
      have := hs _ _ hi r
      exact Rx.war_trans m n _ _ _ this (Rx.war_mono m r n) (ih this)
end Go.Proofs.Ytndenipjiclkaaa
