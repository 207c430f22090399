/- Expressions read byte by byte: plain facts: what is done is what is matched. What the small functions of layer 1 answer, walked. What the functions of layer 1 that go through a text answer, walked. What 'First' answers, walked. What 'Whole' answers, walked. The program's reader of expressions: plain facts: what stands in the text that is left, by its signs. The program's reader of expressions: what need, pass, at, sign answer, walked. -/
import Derived.Test.YtndkgkokjjphlaaGreatG6
import Derived.Test.YtndkgkokjjphlaaGreatRows
import Derived.Test.YtndkgkokjjphlaaGreatG2
import Derived.WalkKit
import Derived.WalkSpells
import Derived.WalkLawsBesides
import Derived.Lib.Hide
import Derived.Deep.QuietTactic
import Derived.BigQuiet
import Derived.IntWalk
import Derived.Lib.Strings
import Derived.Lib.IndexBytes
import Derived.Deep.LoopGhost
import Derived.Test.YtndkgkokjjphlaaGreatG3
namespace Go.Proofs.YtndkgkokjjphlaaGreat
set_option linter.unusedVariables false
set_option linter.unusedSimpArgs false
mutual
def Rx.emp : Rx → Bool
  | .node k _ l => if k = 0 then true else if k = 4 then true else if k = 3 then Rx.empA l else if k = 2 then Rx.empC l else false
def Rx.empA : List Rx → Bool
  | [] => false
  | x :: r => Rx.emp x || Rx.empA r
def Rx.empC : List Rx → Bool
  | [] => true
  | x :: r => Rx.emp x && Rx.empC r
end
inductive Ps where
  | node (kind : Nat) (set : Nat → Bool) (kids : List Ps) (empty done : Bool) : Ps
def Ps.done : Ps → Bool
  | .node _ _ _ _ d => d
def Ps.empty : Ps → Bool
  | .node _ _ _ e _ => e
mutual
def Ps.size : Ps → Nat
  | .node _ _ l _ _ => 1 + Ps.sizeL l
def Ps.sizeL : List Ps → Nat
  | [] => 0
  | x :: r => Ps.size x + Ps.sizeL r
end
theorem Ps.size_pos : ∀ x : Ps, 1 ≤ x.size
  | .node _ _ _ _ _ => by simp [Ps.size]
mutual
def Ps.of : Rx → Ps
  | .node k f l => .node k f (Ps.ofL l) (Rx.emp (.node k f l)) false
def Ps.ofL : List Rx → List Ps
  | [] => []
  | x :: r => Ps.of x :: Ps.ofL r
end
mutual
def Ps.read (c : Nat) : Ps → Bool → Ps
  | .node k f l e d, b =>
    if k = 1 then .node k f l e (b && f c)
    else if k = 2 then .node k f (Ps.readC c l b) e (Ps.doneC c l b false)
    else if k = 3 then .node k f (Ps.readA c l b) e (Ps.doneA c l b false)
    else if k = 4 then .node k f (Ps.readS c l b) e (Ps.doneS c l b)
    else .node k f l e d
def Ps.readC (c : Nat) : List Ps → Bool → List Ps
  | [], _ => []
  | x :: r, b => Ps.read c x b :: Ps.readC c r (x.done || b && x.empty)
def Ps.doneC (c : Nat) : List Ps → Bool → Bool → Bool
  | [], _, d => d
  | x :: r, b, d => Ps.doneC c r (x.done || b && x.empty) ((Ps.read c x b).done || d && x.empty)
def Ps.readA (c : Nat) : List Ps → Bool → List Ps
  | [], _ => []
  | x :: r, b => Ps.read c x b :: Ps.readA c r b
def Ps.doneA (c : Nat) : List Ps → Bool → Bool → Bool
  | [], _, d => d
  | x :: r, b, d => Ps.doneA c r b (d || (Ps.read c x b).done)
def Ps.readS (c : Nat) : List Ps → Bool → List Ps
  | [], _ => []
  | x :: r, b => Ps.read c x (b || x.done) :: r
def Ps.doneS (c : Nat) : List Ps → Bool → Bool
  | [], _ => false
  | x :: _, b => (Ps.read c x (b || x.done)).done
end
theorem Ps.of_empty (x : Rx) : (Ps.of x).empty = x.emp := by cases x; rfl
theorem Ps.of_done (x : Rx) : (Ps.of x).done = false := by cases x; rfl
theorem Ps.read_empty (c : Nat) (x : Ps) (b : Bool) : (Ps.read c x b).empty = x.empty := by
  cases x
  rw [Ps.read]
  repeat' split
  all_goals rfl
def Ps.run (s : Nat → Nat) (x : Rx) (b : Nat → Bool) : Nat → Ps
  | 0 => Ps.of x
  | q + 1 => Ps.read (s q) (Ps.run s x b q) (b q)
theorem Ps.run_empty (s : Nat → Nat) (x : Rx) (b : Nat → Bool) (q : Nat) : (Ps.run s x b q).empty = x.emp := by
  induction q with
  | zero => exact Ps.of_empty x
  | succ q ih => rw [Ps.run, Ps.read_empty, ih]
def Ps.kidsC (s : Nat → Nat) : List Rx → (Nat → Bool) → Nat → List Ps
  | [], _, _ => []
  | x :: r, b, q => Ps.run s x b q :: Ps.kidsC s r (fun j => (Ps.run s x b j).done || b j && x.emp) q
def Ps.kidsA (s : Nat → Nat) : List Rx → (Nat → Bool) → Nat → List Ps
  | [], _, _ => []
  | x :: r, b, q => Ps.run s x b q :: Ps.kidsA s r b q
theorem Ps.kidsC_zero (s : Nat → Nat) : ∀ (l : List Rx) (b : Nat → Bool), Ps.kidsC s l b 0 = Ps.ofL l
  | [], _ => rfl
  | x :: r, b => by rw [Ps.kidsC, Ps.kidsC_zero s r]; rfl
theorem Ps.kidsA_zero (s : Nat → Nat) : ∀ (l : List Rx) (b : Nat → Bool), Ps.kidsA s l b 0 = Ps.ofL l
  | [], _ => rfl
  | x :: r, b => by rw [Ps.kidsA, Ps.kidsA_zero s r]; rfl
theorem Ps.kidsC_on (s : Nat → Nat) (q : Nat) : ∀ (l : List Rx) (b : Nat → Bool), Ps.readC (s q) (Ps.kidsC s l b q) (b q) = Ps.kidsC s l b (q + 1)
  | [], _ => rfl
  | x :: r, b => by
    rw [Ps.kidsC, Ps.readC, Ps.kidsC, Ps.run_empty]
    have := Ps.kidsC_on s q r (fun j => (Ps.run s x b j).done || b j && x.emp)
    rw [this]; rfl
theorem Ps.kidsA_on (s : Nat → Nat) (q : Nat) : ∀ (l : List Rx) (b : Nat → Bool), Ps.readA (s q) (Ps.kidsA s l b q) (b q) = Ps.kidsA s l b (q + 1)
  | [], _ => rfl
  | x :: r, b => by
    rw [Ps.kidsA, Ps.readA, Ps.kidsA, Ps.kidsA_on s q r]; rfl
mutual
theorem Rx.emp_iff (s : Nat → Nat) (n : Nat) : ∀ (x : Rx), x.wf = true → ∀ j, (x.emp = true ↔ Rx.Go s n x j j)
  | .node 0 f l, _, j => by simp [Rx.emp, Rx.Go]
  | .node 1 f l, _, j => by simp [Rx.emp, Rx.Go]
  | .node 2 f l, hw, j => by
    have hl : Rx.wfL l = true := by simp only [Rx.wf, Bool.and_eq_true] at hw; exact hw.2
    simp only [Rx.emp, Rx.Go]
    exact Rx.empC_iff s n l hl j
  | .node 3 f l, hw, j => by
    have hl : Rx.wfL l = true := by simp only [Rx.wf, Bool.and_eq_true] at hw; exact hw.2
    simp only [Rx.emp, Rx.Go]
    exact Rx.empA_iff s n l hl j
  | .node 4 f l, hw, j => by
    simp only [Rx.emp, Rx.Go]
    exact ⟨fun _ => .refl _, fun _ => by simp⟩
  | .node (q + 5) f l, hw, j => by simp [Rx.wf] at hw
theorem Rx.empC_iff (s : Nat → Nat) (n : Nat) : ∀ (l : List Rx), Rx.wfL l = true → ∀ j, (Rx.empC l = true ↔ Rx.GoC s n l j j)
  | [], _, j => by simp [Rx.empC, Rx.GoC]
  | x :: r, hw, j => by
    simp only [Rx.wfL, Bool.and_eq_true] at hw
    simp only [Rx.empC, Rx.GoC, Bool.and_eq_true, Rx.emp_iff s n x hw.1 j, Rx.empC_iff s n r hw.2 j]
    constructor
    · rintro ⟨h1, h2⟩; exact ⟨j, h1, h2⟩
    · rintro ⟨m, h1, h2⟩
      have := Rx.go_up s n x _ _ h1; have := Rx.goC_up s n r _ _ h2
      have e : m = j := by omega
      subst e; exact ⟨h1, h2⟩
theorem Rx.empA_iff (s : Nat → Nat) (n : Nat) : ∀ (l : List Rx), Rx.wfL l = true → ∀ j, (Rx.empA l = true ↔ Rx.GoA s n l j j)
  | [], _, j => by simp [Rx.empA, Rx.GoA]
  | x :: r, hw, j => by
    simp only [Rx.wfL, Bool.and_eq_true] at hw
    simp only [Rx.empA, Rx.GoA, Bool.or_eq_true, Rx.emp_iff s n x hw.1 j, Rx.empA_iff s n r hw.2 j]
end
def Ps.Ok (s : Nat → Nat) (n : Nat) (x : Rx) : Prop := ∀ (b : Nat → Bool) (q : Nat), q ≤ n → ((Ps.run s x b q).done = true ↔ ∃ j, j < q ∧ b j = true ∧ Rx.Go s n x j q)
theorem Ps.doneC_iff (s : Nat → Nat) (n q : Nat) (hq : q + 1 ≤ n) : ∀ (l : List Rx), Rx.wfL l = true → (∀ x ∈ l, Ps.Ok s n x) → ∀ (b : Nat → Bool) (d : Bool), (Ps.doneC (s q) (Ps.kidsC s l b q) (b q) d = true ↔ (d = true ∧ Rx.GoC s n l (q + 1) (q + 1)) ∨ ∃ j, j ≤ q ∧ b j = true ∧ Rx.GoC s n l j (q + 1))
  | [], _, _, b, d => by
    simp only [Ps.kidsC, Ps.doneC, Rx.GoC, and_true]
    constructor
    · exact .inl
    · rintro (h | ⟨j, h1, _, h3⟩)
      · exact h
      · omega
  | x :: r, hw, hok, b, d => by
    simp only [Rx.wfL, Bool.and_eq_true] at hw
    have hx := hok x (by simp)
    have hr := fun y hy => hok y (List.mem_cons_of_mem x hy)
    have he := Rx.emp_iff s n x hw.1
    rw [Ps.kidsC, Ps.doneC, Ps.run_empty]
    have ih := Ps.doneC_iff s n q hq r hw.2 hr (fun j => (Ps.run s x b j).done || b j && x.emp) ((Ps.read (s q) (Ps.run s x b q) (b q)).done || d && x.emp)
    rw [ih]
    have h1 := hx b (q + 1) hq
    rw [Ps.run] at h1
    simp only [Bool.or_eq_true, Bool.and_eq_true, h1, Rx.GoC]
    constructor
    · rintro (⟨(⟨j, hj, hb, hg⟩ | ⟨hd, hem⟩), hg2⟩ | ⟨j, hj, (hdn | ⟨hb, hem⟩), hg⟩)
      · exact .inr ⟨j, by omega, hb, _, hg, hg2⟩
      · exact .inl ⟨hd, _, (he _).1 hem, hg2⟩
      · obtain ⟨i, hi, hb, hg1⟩ := (hx b j (by omega)).1 hdn
        exact .inr ⟨i, by omega, hb, _, hg1, hg⟩
      · exact .inr ⟨j, hj, hb, _, (he _).1 hem, hg⟩
    · rintro (⟨hd, m, hg1, hg2⟩ | ⟨i, hi, hb, m, hg1, hg2⟩)
      · have := Rx.go_up s n x _ _ hg1; have := Rx.goC_up s n r _ _ hg2
        have e : m = q + 1 := by omega
        subst e
        exact .inl ⟨.inr ⟨hd, (he _).2 hg1⟩, hg2⟩
      · have h3 := Rx.go_up s n x _ _ hg1; have h4 := Rx.goC_up s n r _ _ hg2
        by_cases hm : m = q + 1
        · subst hm
          exact .inl ⟨.inl ⟨i, by omega, hb, hg1⟩, hg2⟩
        · refine .inr ⟨m, by omega, ?_, hg2⟩
          by_cases hi : i = m
          · subst hi; exact .inr ⟨hb, (he _).2 hg1⟩
          · exact .inl ((hx b m (by omega)).2 ⟨i, by omega, hb, hg1⟩)
theorem Ps.doneA_iff (s : Nat → Nat) (n q : Nat) (hq : q + 1 ≤ n) : ∀ (l : List Rx), (∀ x ∈ l, Ps.Ok s n x) → ∀ (b : Nat → Bool) (d : Bool), (Ps.doneA (s q) (Ps.kidsA s l b q) (b q) d = true ↔ d = true ∨ ∃ j, j ≤ q ∧ b j = true ∧ Rx.GoA s n l j (q + 1))
  | [], _, b, d => by simp [Ps.kidsA, Ps.doneA, Rx.GoA]
  | x :: r, hok, b, d => by
    have hx := hok x (by simp)
    have hr := fun y hy => hok y (List.mem_cons_of_mem x hy)
    rw [Ps.kidsA, Ps.doneA, Ps.doneA_iff s n q hq r hr]
    have h1 := hx b (q + 1) hq
    rw [Ps.run] at h1
    simp only [Bool.or_eq_true, h1, Rx.GoA]
    constructor
    · rintro ((hd | ⟨j, hj, hb, hg⟩) | ⟨j, hj, hb, hg⟩)
      · exact .inl hd
      · exact .inr ⟨j, by omega, hb, .inl hg⟩
      · exact .inr ⟨j, hj, hb, .inr hg⟩
    · rintro (hd | ⟨j, hj, hb, hg | hg⟩)
      · exact .inl (.inl hd)
      · exact .inl (.inr ⟨j, by omega, hb, hg⟩)
      · exact .inr ⟨j, hj, hb, hg⟩
theorem Rx.Clo.last {R : Nat → Nat → Prop} (h : ∀ i k, R i k → i ≤ k) {i k : Nat} (hc : Rx.Clo R i k) : i < k → ∃ m, m < k ∧ i ≤ m ∧ Rx.Clo R i m ∧ R m k := by
  induction hc with
  | refl => intro h; omega
  | @step i j k r hc ih =>
    intro hik
    have h1 := h _ _ r
    by_cases hj : j < k
    · obtain ⟨m, h2, h3, h4, h5⟩ := ih hj
      exact ⟨m, h2, by omega, .step r h4, h5⟩
    · have hle : j ≤ k := by
        clear ih hik r h1 hj
        induction hc with
        | refl => exact Nat.le_refl _
        | step r _ ih => exact Nat.le_trans (h _ _ r) ih
      have e : j = k := by omega
      subst e
      exact ⟨i, hik, Nat.le_refl _, .refl _, r⟩
theorem Ps.runC (s : Nat → Nat) (f : Nat → Bool) (l : List Rx) (b : Nat → Bool) : ∀ q, ∃ d, Ps.run s (.node 2 f l) b q = .node 2 f (Ps.kidsC s l b q) (Rx.emp (.node 2 f l)) d
  | 0 => ⟨false, by rw [Ps.run, Ps.of, Ps.kidsC_zero]⟩
  | q + 1 => by
    obtain ⟨d, h⟩ := Ps.runC s f l b q
    exact ⟨_, by rw [Ps.run, h, Ps.read, if_neg (by decide), if_pos rfl, Ps.kidsC_on]⟩
theorem Ps.runA (s : Nat → Nat) (f : Nat → Bool) (l : List Rx) (b : Nat → Bool) : ∀ q, ∃ d, Ps.run s (.node 3 f l) b q = .node 3 f (Ps.kidsA s l b q) (Rx.emp (.node 3 f l)) d
  | 0 => ⟨false, by rw [Ps.run, Ps.of, Ps.kidsA_zero]⟩
  | q + 1 => by
    obtain ⟨d, h⟩ := Ps.runA s f l b q
    exact ⟨_, by rw [Ps.run, h, Ps.read, if_neg (by decide), if_neg (by decide), if_pos rfl, Ps.kidsA_on]⟩
theorem Ps.runS (s : Nat → Nat) (f : Nat → Bool) (y : Rx) (b : Nat → Bool) : ∃ b' : Nat → Bool, (∀ q, b' q = (b q || (Ps.run s y b' q).done)) ∧ ∀ q, Ps.run s (.node 4 f [y]) b q = .node 4 f [Ps.run s y b' q] true (Ps.run s y b' q).done := by
  have hk : ∀ q, ∃ K : Ps, Ps.run s (.node 4 f [y]) b q = .node 4 f [K] true K.done := by
    intro q
    induction q with
    | zero => exact ⟨Ps.of y, by rw [Ps.run, Ps.of, Ps.of_done]; simp [Ps.ofL, Rx.emp]⟩
    | succ q ih =>
      obtain ⟨K, h⟩ := ih
      exact ⟨Ps.read (s q) K (b q || K.done), by rw [Ps.run, h, Ps.read, if_neg (by decide), if_neg (by decide), if_neg (by decide), if_pos rfl]; rfl⟩
  obtain ⟨K, hK⟩ : ∃ K : Nat → Ps, ∀ q, Ps.run s (.node 4 f [y]) b q = .node 4 f [K q] true (K q).done := ⟨fun q => (hk q).choose, fun q => (hk q).choose_spec⟩
  have h0 : K 0 = Ps.of y := by
    have := hK 0
    rw [Ps.run, Ps.of] at this
    injection this with _ _ h _ _
    simp only [Ps.ofL] at h
    injection h with h _
    exact h.symm
  have h1 : ∀ q, K (q + 1) = Ps.read (s q) (K q) (b q || (K q).done) := by
    intro q
    have := hK (q + 1)
    rw [Ps.run, hK q, Ps.read, if_neg (by decide), if_neg (by decide), if_neg (by decide), if_pos rfl] at this
    injection this with _ _ h _ _
    simp only [Ps.readS] at h
    injection h with h _
    exact h.symm
  have h2 : ∀ q, K q = Ps.run s y (fun j => b j || (K j).done) q := by
    intro q
    induction q with
    | zero => exact h0
    | succ q ih => rw [h1, Ps.run, ← ih]
  refine ⟨fun j => b j || (K j).done, fun q => by rw [← h2 q], fun q => ?_⟩
  rw [hK q, ← h2 q]
mutual
theorem Ps.ok (s : Nat → Nat) (n : Nat) : ∀ (x : Rx), x.wf = true → Ps.Ok s n x
  | .node 0 f l, _, b, q, hq => by
    have h : ∀ q, (Ps.run s (.node 0 f l) b q).done = false := by
      intro q
      have : ∃ e l', Ps.run s (.node 0 f l) b q = .node 0 f l' e false := by
        induction q with
        | zero => exact ⟨_, _, rfl⟩
        | succ q ih => obtain ⟨e, l', h⟩ := ih; exact ⟨e, l', by rw [Ps.run, h, Ps.read]; simp⟩
      obtain ⟨e, l', h⟩ := this
      rw [h]; rfl
    rw [h]
    simp only [Rx.Go]
    constructor
    · simp
    · rintro ⟨j, h1, _, h2⟩; omega
  | .node 1 f l, _, b, q, hq => by
    have hk : ∀ q, ∃ e l' d, Ps.run s (.node 1 f l) b q = .node 1 f l' e d := by
      intro q
      induction q with
      | zero => exact ⟨_, _, _, rfl⟩
      | succ q ih => obtain ⟨e, l', d, h⟩ := ih; exact ⟨e, l', _, by rw [Ps.run, h, Ps.read, if_pos rfl]⟩
    simp only [Rx.Go]
    cases q with
    | zero => rw [Ps.run, Ps.of_done]; simp
    | succ q =>
      obtain ⟨e, l', d, h⟩ := hk q
      rw [Ps.run, h, Ps.read, if_pos rfl]
      simp only [Ps.done, Bool.and_eq_true]
      constructor
      · rintro ⟨h1, h2⟩; exact ⟨q, by omega, h1, by omega, rfl, h2⟩
      · rintro ⟨j, h1, h2, h3, h4, h5⟩
        have e : j = q := by omega
        subst e; exact ⟨h2, h5⟩
  | .node 2 f l, hw, b, q, hq => by
    have hl : Rx.wfL l = true := by simp only [Rx.wf, Bool.and_eq_true] at hw; exact hw.2
    have hok := Ps.okL s n l hl
    simp only [Rx.Go]
    cases q with
    | zero => rw [Ps.run, Ps.of_done]; simp
    | succ q =>
      obtain ⟨d, h⟩ := Ps.runC s f l b q
      rw [Ps.run, h, Ps.read, if_neg (by decide), if_pos rfl]
      simp only [Ps.done]
      rw [Ps.doneC_iff s n q hq l hl hok b false]
      constructor
      · rintro (⟨h1, _⟩ | ⟨j, h1, h2, h3⟩)
        · simp at h1
        · exact ⟨j, by omega, h2, h3⟩
      · rintro ⟨j, h1, h2, h3⟩; exact .inr ⟨j, by omega, h2, h3⟩
  | .node 3 f l, hw, b, q, hq => by
    have hl : Rx.wfL l = true := by simp only [Rx.wf, Bool.and_eq_true] at hw; exact hw.2
    have hok := Ps.okL s n l hl
    simp only [Rx.Go]
    cases q with
    | zero => rw [Ps.run, Ps.of_done]; simp
    | succ q =>
      obtain ⟨d, h⟩ := Ps.runA s f l b q
      rw [Ps.run, h, Ps.read, if_neg (by decide), if_neg (by decide), if_pos rfl]
      simp only [Ps.done]
      rw [Ps.doneA_iff s n q hq l hok b false]
      constructor
      · rintro (h1 | ⟨j, h1, h2, h3⟩)
        · simp at h1
        · exact ⟨j, by omega, h2, h3⟩
      · rintro ⟨j, h1, h2, h3⟩; exact .inr ⟨j, by omega, h2, h3⟩
  | .node 4 f [], hw, b, q, hq => by simp [Rx.wf] at hw
  | .node 4 f [y], hw, b, q, hq => by
    have hy : y.wf = true := by simp only [Rx.wf, Rx.wfL, Bool.and_eq_true] at hw; exact hw.2.1
    have hok := Ps.ok s n y hy
    obtain ⟨b', hb', hr⟩ := Ps.runS s f y b
    simp only [Rx.Go]
    rw [hr q]
    simp only [Ps.done]
    have key : ∀ q, q ≤ n → ((Ps.run s y b' q).done = true ↔ ∃ j, j < q ∧ b j = true ∧ Rx.Clo (Rx.GoA s n [y]) j q) := by
      intro q
      induction q using Nat.strongRecOn with
      | _ q ih =>
        intro hq
        rw [hok b' q hq]
        constructor
        · rintro ⟨j, hj, hbj, hg⟩
          rw [hb' j] at hbj
          simp only [Bool.or_eq_true] at hbj
          have hg' : Rx.GoA s n [y] j q := by simp only [Rx.GoA]; exact .inl hg
          rcases hbj with hbj | hbj
          · exact ⟨j, hj, hbj, .one hg'⟩
          · obtain ⟨i, hi, hbi, hc⟩ := (ih j hj (by omega)).1 hbj
            exact ⟨i, by omega, hbi, hc.trans (.one hg')⟩
        · rintro ⟨j, hj, hbj, hc⟩
          obtain ⟨m, hm, hjm, hc1, hg⟩ := Rx.Clo.last (fun i k h => (Rx.goA_up s n [y] i k h).1) hc hj
          have hg' : Rx.Go s n y m q := by simp only [Rx.GoA, or_false] at hg; exact hg
          refine ⟨m, hm, ?_, hg'⟩
          rw [hb' m]
          simp only [Bool.or_eq_true]
          by_cases e : j = m
          · subst e; exact .inl hbj
          · exact .inr ((ih m hm (by omega)).2 ⟨j, by omega, hbj, hc1⟩)
    exact key q hq
  | .node 4 f (_ :: _ :: _), hw, b, q, hq => by simp [Rx.wf] at hw
  | .node (q + 5) f l, hw, _, _, _ => by simp [Rx.wf] at hw
theorem Ps.okL (s : Nat → Nat) (n : Nat) : ∀ (l : List Rx), Rx.wfL l = true → ∀ x ∈ l, Ps.Ok s n x
  | [], _, x, hx => by simp at hx
  | y :: r, hw, x, hx => by
    simp only [Rx.wfL, Bool.and_eq_true] at hw
    rcases List.mem_cons.1 hx with e | hx
    · rw [e]; exact Ps.ok s n y hw.1
    · exact Ps.okL s n r hw.2 x hx
end
def Px.by (s : ByteArray) (i : Nat) : Nat := (s.data.toList.getD i 0).toNat
end Go.Proofs.YtndkgkokjjphlaaGreat
namespace Go.Proofs.YtndkgkokjjphlaaGreat
set_option linter.unusedVariables false
set_option linter.unusedSimpArgs false
open Go.RowKit
theorem ret_bool {a b : Bool} (h : a = b) : Ending.returned (.bool a) = .returned (.bool b) := by rw [h]
theorem ret_int {k : IntKind} {a b : Int} (h : a = b) : Ending.returned (.int k a) = .returned (.int k b) := by rw [h]
set_option maxHeartbeats 400000 in
theorem follower_any (n : Int) (w : World) : Calls Tryz.prog 112 #[.int .u8 n] w fun e w' => e = .returned (.bool (Rn.folI n)) ∧ w = w' := by
  go_enter Tryz.func112, Tryz.ntmps112
  go_wp2
  all_goals (go_ret; refine ⟨ret_bool ?_, rfl⟩; first | (simp [Rn.folI, *]; done) | (simp [Rn.folI, *]; omega))
set_option maxHeartbeats 400000 in
theorem size_any (n : Int) (w : World) : Calls Tryz.prog 113 #[.int .i64 n] w fun e w' => e = .returned (.int .i64 (Rn.sizeI n)) ∧ w = w' := by
  go_enter Tryz.func113, Tryz.ntmps113
  go_wp2
  all_goals (go_ret; refine ⟨ret_int ?_, rfl⟩; unfold Rn.sizeI; (repeat' split) <;> first | rfl | omega)
set_option maxHeartbeats 400000 in
theorem lead_any (n : Int) (w : World) : Calls Tryz.prog 111 #[.int .i64 n] w fun e w' => e = .returned (.int .i64 (Rn.leadI n)) ∧ w = w' := by
  go_enter Tryz.func111, Tryz.ntmps111
  go_wp2
  all_goals (go_ret; refine ⟨ret_int ?_, rfl⟩; simp_all [Rn.leadI])
set_option maxHeartbeats 400000 in
theorem promised_any (n : Int) (w : World) : Calls Tryz.prog 110 #[.int .u8 n] w fun e w' => e = .returned (.int .i64 (Rn.promI n)) ∧ w = w' := by
  go_enter Tryz.func110, Tryz.ntmps110
  go_wp2
  all_goals (go_ret; refine ⟨ret_int ?_, rfl⟩; unfold Rn.promI; (repeat' split) <;> first | rfl | omega)
end Go.Proofs.YtndkgkokjjphlaaGreat
namespace Go.Proofs.YtndkgkokjjphlaaGreat
set_option linter.unusedVariables false
set_option linter.unusedSimpArgs false
open Go.RowKit
end Go.Proofs.YtndkgkokjjphlaaGreat
namespace Go.Proofs.YtndkgkokjjphlaaGreat
set_option linter.unusedVariables false
set_option linter.unusedSimpArgs false
open Go.RowKit
theorem quietly {P : Program} {f : FuncId} {args : Array Value} {w : World} {n : Nat} {v : Value} (h : Calls P f args (w.drewN n) fun e w' => e = .returned v ∧ w.drewN n = w') : Calls P f args (w.drewN n) fun e w' => e = .returned v ∧ ∃ m, w' = w.drewN m :=
  h.mono fun _ _ hh => ⟨hh.1, n, hh.2.symm⟩
theorem ret_two {a b c d : Int} (h : a = c) (h' : b = d) : Ending.returned (.tuple #[.int .i64 a, .int .i64 b]) = .returned (.tuple #[.int .i64 c, .int .i64 d]) := by rw [h, h']
set_option maxRecDepth 100000 in
set_option maxHeartbeats 400000 in
theorem first_any (s : ByteArray) (w : World) (hs : s.size ≤ maxLen) : Calls Tryz.prog 100 #[.string s] w fun e w' => e = .returned (.tuple #[.int .i64 (Rn.firstL s.data.toList).1, .int .i64 (Rn.firstL s.data.toList).2]) ∧ ∃ n, w' = w.drewN n := by
  unfold maxLen at hs
  by_cases h0 : s.size = 0
  · have e := Rn.firstL_nil s h0
    rw [e]; clear e
    have h1 : s.toList.isEmpty = true := by rw [ByteArray.toList_eq, List.isEmpty_iff_length_eq_zero]; simpa using h0
    clear h0
    go_enter Tryz.func100, Tryz.ntmps100
    go_wp2
    go_ret2
    exact ⟨rfl, 0, rfl⟩
  have h00 : 0 < s.size := by omega
  have h1 : s.toList.isEmpty = false := by rw [ByteArray.toList_eq, ← Bool.not_eq_true, List.isEmpty_iff_length_eq_zero]; simpa using h0
  clear h0
  by_cases hp : Rn.promI s[0].toNat = 0 ∨ (s.size : Int) < Rn.promI s[0].toNat
  · have e := Rn.firstL_no s h00 hp
    rw [e]; clear e
    have hk := Rn.prom_bd s[0].toNat
    by_cases hp0 : Rn.promI s[0].toNat = 0
    · go_enter Tryz.func100, Tryz.ntmps100
      go_wp2_with (go_at_call 110; refine (promised_any _ _).mono ?_; rintro e w' ⟨rfl, rfl⟩)
      go_ret2
      exact ⟨rfl, 0, rfl⟩
    · have hp1 : (Rn.promI s[0].toNat == 0) = false := beq_eq_false_iff_ne.2 hp0
      have hp2 : (s.size : Int) < Rn.promI s[0].toNat := by omega
      clear hp hp0
      go_enter Tryz.func100, Tryz.ntmps100
      go_wp2_with (go_at_call 110; refine (promised_any _ _).mono ?_; rintro e w' ⟨rfl, rfl⟩)
      go_ret2
      exact ⟨rfl, 0, rfl⟩
  have hk := Rn.prom_bd s[0].toNat
  have e := Rn.firstL_yes s h00 hp
  rw [e]; clear e
  have hp1 : (Rn.promI s[0].toNat == 0) = false := beq_eq_false_iff_ne.2 (by omega)
  have hp2 : ¬ (s.size : Int) < Rn.promI s[0].toNat := by omega
  have hp3 : 1 ≤ Rn.promI s[0].toNat := by omega
  clear hp
  have hc : s[0].toNat < 256 := s[0].toNat_lt
  have hl := Rn.lead_bd (Rn.promI s[0].toNat)
  go_enter Tryz.func100, Tryz.ntmps100
  go_wp2_with (go_at_call 110; refine (promised_any _ _).mono ?_; rintro e w' ⟨rfl, rfl⟩)
  have hw1 : IntKind.i64.wrap (s[0].toNat : Int) = s[0].toNat := IntWalk.i64_in _ (by omega)
  have hw2 : IntKind.i64.wrap ((s[0].toNat : Int) - Rn.leadI (Rn.promI s[0].toNat)) = s[0].toNat - Rn.leadI (Rn.promI s[0].toNat) := IntWalk.i64_in _ (by omega)
  go_quiet ((go_at_call 111; exact quietly (lead_any _ _)))
  clear hw1 hw2
  go_wp2
  generalize hn0 : (s[0].toNat : Int) - Rn.leadI (Rn.promI s[0].toNat) = n0
  have hb0 : -256 ≤ n0 ∧ n0 ≤ 256 := by omega
  have HN0 := Lib.hid hn0; clear hn0
  go_loop [5, 29] (fun n i => ∃ (j : Nat) (m : Int), (j : Int) + 1 ≤ Rn.promI s[0].toNat ∧ -(Rn.bd j) ≤ m ∧ m ≤ Rn.bd j ∧ i = .int .i64 j ∧ n = .int .i64 m ∧ Hid (Rn.dec n0 ((s.data.toList.take (Rn.promI s[0].toNat).toNat).drop 1) = Rn.dec m ((s.data.toList.take (Rn.promI s[0].toNat).toNat).drop (1 + j)))) (fun _ i => 4 - (intOf i).toNat)
  case atStart => exact ⟨0, n0, by omega, by simp [Rn.bd]; omega, by simp [Rn.bd]; omega, rfl, rfl, rfl⟩
  case round =>
    obtain ⟨j, m, hj, hm1, hm2, rfl, rfl, HR⟩ := hrel
    have hbd := Rn.bd_le j (by omega)
    by_cases hlt : (j : Int) < Rn.promI s[0].toNat - 1
    · have hj2 : 1 + j < s.size := by omega
      have hdr := Rn.take_drop_at s (Rn.promI s[0].toNat).toNat (1 + j) (by omega) (by omega)
      have HD := Lib.hid hdr; clear hdr
      have hc2 : s[1 + j].toNat < 256 := s[1 + j].toNat_lt
      rcases Bool.eq_false_or_eq_true (Rn.folI ↑s[1 + j].toNat) with hf | hf
      · have hf2 : 128 ≤ (s[1 + j].toNat : Int) ∧ (s[1 + j].toNat : Int) ≤ 191 := by simpa [Rn.folI] using hf
        have hb2 : Rn.bd (j + 1) = 64 * Rn.bd j + 64 := rfl
        have HB := Lib.hid hb2; clear hb2
        go_wp2_with (go_at_call 112; refine (follower_any _ _).mono ?_; rintro e w' ⟨rfl, rfl⟩)
        go_round
        case rel =>
          refine ⟨j + 1, m * 64 + s[1 + j].toNat - 128, by omega, by rw [HB.out]; omega, by rw [HB.out]; omega, by go_num, by go_num, ?_⟩
          have := HR.out; rw [HD.out] at this; simp only [Rn.dec, hf] at this; exact this
        case measure => simp [intOf]; omega
      · go_wp2_with (go_at_call 112; refine (follower_any _ _).mono ?_; rintro e w' ⟨rfl, rfl⟩)
        go_ret2
        have hh := HR.out; rw [HD.out] at hh; simp only [Rn.dec, hf] at hh
        exact ⟨ret_two (by rw [HN0.out, hh]; rfl) (by rw [HN0.out, hh]; rfl), _, rfl⟩
    · have he : 1 + j = (Rn.promI s[0].toNat).toNat := by omega
      have hz := HR.out
      rw [he, Rn.take_drop_end] at hz
      have HZ := Lib.hid hz; clear hz he HR
      by_cases hs2 : Rn.sizeI m = Rn.promI s[0].toNat
      · have hs3 : (Rn.sizeI m != Rn.promI s[0].toNat) = false := by simp [hs2]
        have HS := Lib.hid hs2; clear hs2
        go_wp2_with (go_at_call 113; refine (size_any _ _).mono ?_; rintro e w' ⟨rfl, rfl⟩)
        go_ret2
        exact ⟨ret_two (by rw [HN0.out, HZ.out]; simp [Rn.dec, Rn.fin, HS.out]) (by rw [HN0.out, HZ.out]; simp [Rn.dec, Rn.fin, HS.out]), _, rfl⟩
      · have hs3 : (Rn.sizeI m != Rn.promI s[0].toNat) = true := by simp [hs2]
        have HS := Lib.hid hs2; clear hs2
        go_wp2_with (go_at_call 113; refine (size_any _ _).mono ?_; rintro e w' ⟨rfl, rfl⟩)
        go_ret2
        exact ⟨ret_two (by rw [HN0.out, HZ.out]; simp [Rn.dec, Rn.fin, HS.out]) (by rw [HN0.out, HZ.out]; simp [Rn.dec, Rn.fin, HS.out]), _, rfl⟩
end Go.Proofs.YtndkgkokjjphlaaGreat
namespace Go.Proofs.YtndkgkokjjphlaaGreat
set_option linter.unusedVariables false
set_option linter.unusedSimpArgs false
open Go.RowKit
theorem tail_data (s : ByteArray) (k : Nat) : (s.extract k s.size).data.toList = s.data.toList.drop k := by
  rw [Lib.extract_data]; exact List.take_of_length_le (by simp)
set_option maxRecDepth 100000 in
set_option maxHeartbeats 400000 in
theorem sign_walk (b at' : Nat) (k : Int) (s : ByteArray) (w : World) (hs : s.size ≤ maxLen) (ha : at' ≤ s.size) (hk : (Rn.firstL (s.data.toList.drop at')).2 = k)
    (hc0 : w.cell? ⟨b, 0, none⟩ = some (.string s)) (hc1 : w.cell? ⟨b, 1, none⟩ = some (.int .i64 at')) (hf : w.frozen? ⟨b, 1, none⟩ = false) :
    Calls Tryz.prog 82 #[.pointer (some ⟨b, 0, none⟩)] w fun e w' => e = .returned (.bool (decide (0 < k))) ∧ ∃ n, w' = (w.drewN n).setCell ⟨b, 1, none⟩ (.int .i64 (at' + k)) := by
  unfold maxLen at hs
  have hbd := Rn.firstL_bd (s.data.toList.drop at')
  rw [hk, List.length_drop, Rn.len_data] at hbd
  have hT : (s.data.toList.drop at').take (s.size - at') = s.data.toList.drop at' := List.take_of_length_le (by simp)
  go_enter Tryz.func82, Tryz.ntmps82
  go_wp2
  have hw1 : IntKind.i64.wrap ((at' : Int) + k) = at' + k := IntWalk.i64_in _ (by omega)
  go_quiet ((go_at_call 100; refine Calls.quiet_of (first_any _ _ (by unfold maxLen; simp; omega))))
  rw [tail_data, hk]
  go_wp2
  go_ret
  exact ⟨rfl, _, rfl⟩
structure ReadsAt (w0 : World) (s : ByteArray) (at' : Nat) (wr : World) : Prop where
  c0 : wr.cell? ⟨w0.heap.size, 0, none⟩ = some (.string s)
  c1 : wr.cell? ⟨w0.heap.size, 1, none⟩ = some (.int .i64 at')
  fz : wr.frozen? ⟨w0.heap.size, 1, none⟩ = false
  be : Below w0.heap.size w0 wr
  wh : Rn.wholeL s.data.toList = Rn.wholeL (s.data.toList.drop at')
theorem ReadsAt.on {w0 : World} {s : ByteArray} {at' k : Nat} {wr : World} (h : ReadsAt w0 s at' wr) (hk : (Rn.firstL (s.data.toList.drop at')).2 = k) (h0 : 0 < k) (n : Nat) :
    ReadsAt w0 s (at' + k) ((wr.drewN n).setCell ⟨w0.heap.size, 1, none⟩ (.int .i64 (at' + k : Nat))) where
  c0 := by have := h.c0; simp [go_sem, this]
  c1 := by have := h.c1; simp [go_sem, this]
  fz := by have := h.fz; simp [go_sem, this]
  be := (below_drewN h.be n).setCell (Nat.le_refl _) _
  wh := by
    rw [h.wh, Rn.wholeL_eq, hk, if_neg (by omega), List.drop_drop]; simp
set_option maxRecDepth 100000 in
set_option maxHeartbeats 400000 in
theorem whole_any (s : ByteArray) (w : World) (hs : s.size ≤ maxLen) : Calls Tryz.prog 55 #[.string s] w fun e w' => e = .returned (.bool (Rn.wholeL s.data.toList)) ∧ Below w.heap.size w w' := by
  unfold maxLen at hs
  go_enter Tryz.func55, Tryz.ntmps55
  go_wp2
  go_loopg [] (s.size + 1) (fun g wr => ∃ at' : Nat, at' ≤ s.size ∧ g + at' = s.size + 1 ∧ ReadsAt w s at' wr)
  case atStart => 
    refine ⟨0, by omega, by omega, ⟨by simp, by simp, by simp, ?_, rfl⟩⟩
    exact (Below.refl _ _).alloc (Nat.le_refl _) _
  case round =>
    obtain ⟨at', h1, h2, hr⟩ := hrel
    have hk0 := Rn.firstL_bd (s.data.toList.drop at')
    rw [List.length_drop, Rn.len_data] at hk0
    obtain ⟨k, hk⟩ : ∃ k : Nat, (Rn.firstL (s.data.toList.drop at')).2 = k := ⟨_, (Int.toNat_of_nonneg hk0.1).symm⟩
    rw [hk] at hk0
    have HK := Lib.hid hk; clear hk
    have hc := sign_walk w.heap.size at' k s wr (by unfold maxLen; omega) h1 HK.out hr.c0 hr.c1 hr.fz
    have HC := Lib.hid hc; clear hc
    by_cases hk1 : 0 < k
    · have hk2 : decide (0 < (k : Int)) = true := by simp; omega
      go_wp2_with (go_at_call 82; refine HC.out.mono ?_; rintro e w' ⟨rfl, n, rfl⟩)
      go_roundg (gk - k)
      case measure => omega
      case rel => exact ⟨at' + k, by omega, by omega, hr.on HK.out hk1 n⟩
    · have hk2 : decide (0 < (k : Int)) = false := by simp; omega
      have hc1 := hr.c1
      go_wp2_with (go_at_call 82; refine HC.out.mono ?_; rintro e w' ⟨rfl, n, rfl⟩)
      go_ret
      refine ⟨ret_bool ?_, (below_drewN hr.be n).setCell (Nat.le_refl _) _⟩
      rw [hr.wh, Rn.wholeL_eq, HK.out, if_pos (by omega), Bool.eq_iff_iff, List.isEmpty_iff_length_eq_zero, List.length_drop, Rn.len_data, beq_iff_eq]
      omega
end Go.Proofs.YtndkgkokjjphlaaGreat
namespace Go.Proofs.YtndkgkokjjphlaaGreat
set_option linter.unusedVariables false
set_option linter.unusedSimpArgs false
structure Px.Str (s : ByteArray) (t : List Int) : Prop where
  cat : s.data.toList = Rn.cat t
  sg : Rn.Signs t
  ln : s.size ≤ 100
theorem Px.Str.max {s : ByteArray} {t : List Int} (h : Px.Str s t) : s.size ≤ maxLen := by have := h.ln; unfold maxLen; omega
theorem Px.Str.nil {s : ByteArray} (h : Px.Str s []) : s.size = 0 := by
  have := h.cat
  rw [Rn.cat] at this
  rw [← Rn.len_data, this]; rfl
theorem Px.Str.len {s : ByteArray} {n : Int} {t : List Int} (h : Px.Str s (n :: t)) : 1 ≤ s.size := by
  have h1 := h.cat
  obtain ⟨c, u, hc, _⟩ := Rn.blk_form n (h.sg n (by simp))
  rw [Rn.cat, hc] at h1
  rw [← Rn.len_data, h1]; simp
theorem Px.sign_pos {n : Int} (h : Rn.signI n = true) : 0 ≤ n := by
  simp only [Rn.signI, Bool.and_eq_true, decide_eq_true_eq] at h; omega
theorem Px.head_low {n : Int} (h : Rn.signI n = true) (hn : n < 128) : ∃ c : UInt8, Rn.blk n = [c] ∧ (c.toNat : Int) = n := by
  have h0 := Px.sign_pos h
  refine ⟨UInt8.ofNat n.toNat, ?_, ?_⟩
  · unfold Rn.blk; rw [(Rn.bytesI_1 n ⟨h0, hn⟩).2.1]; rfl
  · have e : (UInt8.ofNat n.toNat).toNat = n.toNat := by simp; omega
    rw [e]; omega
theorem Px.head_high {n : Int} (h : Rn.signI n = true) (hn : ¬ n < 128) : ∃ (c : UInt8) (u : List UInt8), Rn.blk n = c :: u ∧ 192 ≤ (c.toNat : Int) := by
  have hb := (Rn.map_back (Rn.bytesI n) (Rn.blk n) (Rn.bytesI_byte n)).1 rfl
  obtain ⟨c, u, hc, _⟩ := Rn.blk_form n h
  refine ⟨c, u, hc, ?_⟩
  rw [hc, List.map_cons, Rn.toI] at hb
  rcases Rn.sign_cases h with h | h | ⟨h, h2, h3⟩ | h
  · omega
  · rw [(Rn.bytesI_2 n h).2.1] at hb; simp at hb; omega
  · rw [(Rn.bytesI_3 n ⟨h, h2⟩ h3).2.1] at hb; simp at hb; omega
  · rw [(Rn.bytesI_4 n h).2.1] at hb; simp at hb; omega
theorem Px.Str.is {s : ByteArray} {n : Int} {t : List Int} (h : Px.Str s (n :: t)) (h0 : 0 < s.size) (c : Nat) (hc : c < 128) : (s[0].toNat = c) ↔ n = c := by
  have h1 := h.cat
  rw [Rn.list0 s h0, Rn.cat] at h1
  by_cases hn : n < 128
  · obtain ⟨b, hb, e⟩ := Px.head_low (h.sg n (by simp)) hn
    rw [hb] at h1
    have h2 : s[0] = b := by simpa using (List.cons.inj h1).1
    rw [h2]; omega
  · obtain ⟨b, u, hb, e⟩ := Px.head_high (h.sg n (by simp)) hn
    rw [hb] at h1
    have h2 : s[0] = b := by simpa using (List.cons.inj h1).1
    rw [h2]; omega
theorem Px.Str.low {s : ByteArray} {n : Int} {t : List Int} (h : Px.Str s (n :: t)) (hn : n < 128) : Px.Str (s.extract 1 s.size) t := by
  obtain ⟨b, hb, e⟩ := Px.head_low (h.sg n (by simp)) hn
  have h1 := h.cat
  rw [Rn.cat, hb] at h1
  refine ⟨by rw [tail_data, h1]; simp, fun m hm => h.sg m (by simp [hm]), ?_⟩
  have := h.ln
  rw [ByteArray.size_extract]; omega
theorem Px.Str.on {s : ByteArray} {n : Int} {t : List Int} (h : Px.Str s (n :: t)) : ∃ k : Nat, 0 < k ∧ k ≤ s.size ∧ Rn.firstL s.data.toList = (n, (k : Int)) ∧ Px.Str (s.extract k s.size) t := by
  have hs := h.sg n (by simp)
  obtain ⟨c, u, hc, _⟩ := Rn.blk_form n hs
  have h1 := h.cat
  rw [Rn.cat] at h1
  have hl : (Rn.blk n).length ≤ s.size := by rw [← Rn.len_data, h1]; simp
  refine ⟨(Rn.blk n).length, by rw [hc]; simp, hl, by rw [h1, Rn.blk_first n hs], ?_⟩
  refine ⟨by rw [tail_data, h1]; simp, fun m hm => h.sg m (by simp [hm]), ?_⟩
  have := h.ln
  rw [ByteArray.size_extract]; omega
def Px.oneOf (S : List UInt8) : List Int → Bool
  | [] => false
  | n :: _ => S.any fun b => (b.toNat : Int) == n
theorem Px.Str.any {s : ByteArray} {n : Int} {t : List Int} (h : Px.Str s (n :: t)) (h0 : 0 < s.size) (S : List UInt8) (hS : ∀ b ∈ S, b.toNat < 128) : S.contains s[0] = Px.oneOf S (n :: t) := by
  rw [Bool.eq_iff_iff]
  simp only [Px.oneOf, List.any_eq_true, beq_iff_eq, List.contains_iff_mem]
  constructor
  · intro hm
    exact ⟨_, hm, ((h.is h0 _ (hS _ hm)).1 rfl).symm⟩
  · rintro ⟨b, hb, e⟩
    have := (h.is h0 b.toNat (hS _ hb)).2 (by omega)
    rwa [show s[0] = b from UInt8.toNat_inj.1 this]
theorem Px.whole_signs : ∀ (k : Nat) (l : List UInt8), l.length ≤ k → Rn.wholeL l = true → ∃ t, Rn.Signs t ∧ l = Rn.cat t := by
  intro k
  induction k with
  | zero =>
    intro l hl _
    have : l = [] := List.eq_nil_of_length_eq_zero (by omega)
    exact ⟨[], by intro n hn; simp at hn, by rw [this]; rfl⟩
  | succ k ih =>
    intro l hl h
    rw [Rn.wholeL_eq] at h
    split at h
    · exact ⟨[], by intro n hn; simp at hn, by rw [Rn.cat]; simpa using h⟩
    · rename_i hk
      obtain ⟨n, j, hf⟩ : ∃ n j, Rn.firstL l = (n, j) := ⟨_, _, rfl⟩
      rw [hf] at h hk
      simp only at h hk
      have hof := Rn.of_first l n j hf (by omega)
      have hbd := Rn.firstL_bd l
      rw [hf] at hbd
      simp only at hbd
      obtain ⟨t, ht, e⟩ := ih (l.drop j.toNat) (by rw [List.length_drop]; omega) h
      have hx : Rn.signI n = true ∧ Rn.blk n = l.take j.toNat := by
        refine ⟨hof.1, ?_⟩
        unfold Rn.blk
        obtain ⟨i, e, _, _, _, e2, _⟩ := hof.2
        subst e
        exact (Rn.map_back _ _ (Rn.bytesI_byte n)).2 e2
      refine ⟨n :: t, ?_, ?_⟩
      · intro m hm
        rcases List.mem_cons.1 hm with rfl | hm
        · exact hx.1
        · exact ht m hm
      · rw [Rn.cat, hx.2, ← e, List.take_append_drop]
end Go.Proofs.YtndkgkokjjphlaaGreat
namespace Go.Proofs.YtndkgkokjjphlaaGreat
set_option linter.unusedVariables false
set_option linter.unusedSimpArgs false
open Go.RowKit
def Px.up (why : Int) : Ending := .panicked [{ v := .iface 155 (.agg #[.int .i64 why]), recovered := false }]
structure Px.St (w : World) (r : Nat) (t : List Int) (big : Bool) : Prop where
  c0 : ∃ s, w.cell? ⟨r, 0, none⟩ = some (.string s) ∧ Px.Str s t
  c1 : w.cell? ⟨r, 1, none⟩ = some (.bool big)
  z0 : w.frozen? ⟨r, 0, none⟩ = false
  z1 : w.frozen? ⟨r, 1, none⟩ = false
  only : ∀ j v, w.cell? ⟨r, j, none⟩ = some v → j < 2
theorem Px.St.lt {w : World} {r : Nat} {t : List Int} {big : Bool} (h : Px.St w r t big) : r < w.heap.size := World.block_lt_of_cell? w _ h.c1
theorem Px.St.up {w w' : World} {r : Nat} {t : List Int} {big : Bool} (h : Px.St w r t big) (hb : Below w.heap.size w w') : Px.St w' r t big := by
  have hl := h.lt
  obtain ⟨s, h0, hs⟩ := h.c0
  exact ⟨⟨s, Bs.cell_up hb h0, hs⟩, Bs.cell_up hb h.c1, by rw [hb.frozen hl]; exact h.z0, by rw [hb.frozen hl]; exact h.z1, fun j v hv => h.only j v (by rw [← hb.cell (p := ⟨r, j, none⟩) hl]; exact hv)⟩
theorem Px.only_set {w : World} {r i : Nat} {u : Value} (h : ∀ j v, w.cell? ⟨r, j, none⟩ = some v → j < 2) (hi : i < 2) : ∀ j v, (w.setCell ⟨r, i, none⟩ u).cell? ⟨r, j, none⟩ = some v → j < 2 := fun j v hv => by
  by_cases e : i = j
  · omega
  · rw [World.cell?_setCell_other _ _ _ _ (by simp [e])] at hv
    exact h j v hv
theorem Px.St.text {w : World} {r : Nat} {t : List Int} {big : Bool} (h : Px.St w r t big) {s : ByteArray} {u : List Int} (hs : Px.Str s u) : Px.St (w.setCell ⟨r, 0, none⟩ (.string s)) r u big := by
  obtain ⟨⟨s0, c0, _⟩, c1, z0, z1, only⟩ := h
  refine ⟨⟨s, ?_, hs⟩, ?_, ?_, ?_, Px.only_set only (by omega)⟩ <;> simp [go_sem, c0, c1, z0, z1]
theorem Px.St.big {w : World} {r : Nat} {t : List Int} {big : Bool} (h : Px.St w r t big) (b : Bool) : Px.St (w.setCell ⟨r, 1, none⟩ (.bool b)) r t b := by
  obtain ⟨⟨s0, c0, hs⟩, c1, z0, z1, only⟩ := h
  refine ⟨⟨s0, ?_, hs⟩, ?_, ?_, ?_, Px.only_set only (by omega)⟩ <;> simp [go_sem, c0, c1, z0, z1]
theorem need_yes (why : Int) (w : World) : Calls Tryz.prog 85 #[.bool true, .int .i64 why] w fun e w' => e = .returned (.tuple #[]) ∧ w' = w := by
  go_enter Tryz.func85, Tryz.ntmps85
  go_wp2_with fail
  go_end0
  exact ⟨rfl, rfl⟩
theorem need_no (why : Int) (w : World) : Calls Tryz.prog 85 #[.bool false, .int .i64 why] w fun e w' => e = Px.up why ∧ w' = w := by
  go_enter Tryz.func85, Tryz.ntmps85
  go_wp2_with fail
  exact ⟨rfl, rfl, rfl⟩
theorem Px.empty {s : ByteArray} (h : s.size = 0) : s.toList.isEmpty = true := by
  rw [ByteArray.toList_eq, List.isEmpty_iff_length_eq_zero, Rn.len_data0]; exact h
theorem Px.not_empty {s : ByteArray} (h : 1 ≤ s.size) : s.toList.isEmpty = false := by
  rw [ByteArray.toList_eq, ← Bool.not_eq_true, List.isEmpty_iff_length_eq_zero, Rn.len_data0]; omega
def Px.passed (c : Int) (t : List Int) : List Int := if t.head? = some c then t.drop 1 else t
def Px.PassPost (w : World) (r : Nat) (t : List Int) (big : Bool) (c : Int) (e : Ending) (w' : World) : Prop := e = .returned (.bool (decide (t.head? = some c))) ∧ Px.St w' r (Px.passed c t) big ∧ w.grownBy w' (some r)
set_option maxRecDepth 100000 in
set_option maxHeartbeats 400000 in
theorem pass_any (r : Nat) (t : List Int) (big : Bool) (c : Nat) (hc : c < 128) (w : World) (h : Px.St w r t big) : Calls Tryz.prog 102 #[.pointer (some ⟨r, 0, none⟩), .int .u8 c] w (Px.PassPost w r t big c) := by
  have HS := Lib.hid h
  obtain ⟨⟨s, c0, hs⟩, c1, z0, z1, _⟩ := h
  have G := Lib.hid (Rx.grown_of r (Below.refl w.heap.size w))
  cases t with
  | nil =>
    have e0 := Px.empty hs.nil
    clear hs
    go_enter Tryz.func102, Tryz.ntmps102
    go_wp2_with fail
    go_ret
    exact ⟨by simp, by simpa [Px.passed] using HS.out, G.out⟩
  | cons n t =>
    have h1 := hs.len
    have e0 := Px.not_empty h1
    have hl := hs.max
    unfold maxLen at hl
    have HI := Lib.hid (hs.is h1 c hc)
    have HT := Lib.hid hs
    clear hs
    by_cases hn : n = c
    · have e1 : ((s[0].toNat : Int) != (c : Int)) = false := by have := HI.out.2 hn; simp; omega
      have HE := Lib.hid hn
      clear hn
      have hlo : Px.Str (s.extract 1 s.size) t := HT.out.low (by have := HE.out; omega)
      have HL := Lib.hid hlo
      clear hlo
      go_enter Tryz.func102, Tryz.ntmps102
      go_wp2_with fail
      go_ret
      exact ⟨by rw [HE.out]; simp, by rw [Px.passed, if_pos (by rw [HE.out]; rfl)]; exact HS.out.text HL.out, Rx.grown_set G.out _ _⟩
    · have e1 : ((s[0].toNat : Int) != (c : Int)) = true := by
        have := mt HI.out.1 hn
        simp; omega
      have HE := Lib.hid hn
      clear hn
      go_enter Tryz.func102, Tryz.ntmps102
      go_wp2_with fail
      go_ret
      exact ⟨by simp [HE.out], by rw [Px.passed, if_neg (by simp [HE.out])]; exact HS.out, G.out⟩
end Go.Proofs.YtndkgkokjjphlaaGreat
