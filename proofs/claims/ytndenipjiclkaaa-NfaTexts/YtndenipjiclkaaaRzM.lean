/- Expressions read byte by byte: plain facts: what is done is what is matched. -/
import Derived.Test.YtndenipjiclkaaaRxN
namespace Go.Proofs.Ytndenipjiclkaaa
set_option linter.unusedVariables false
set_option linter.unusedSimpArgs false
mutual
/-- it matches the empty text -/
def Rx.emp : Rx → Bool
  | .node k _ l => if k = 0 then true else if k = 4 then true else if k = 3 then Rx.empA l else if k = 2 then Rx.empC l else false
def Rx.empA : List Rx → Bool
  | [] => false
  | x :: r => Rx.emp x || Rx.empA r
def Rx.empC : List Rx → Bool
  | [] => true
  | x :: r => Rx.emp x && Rx.empC r
end
/-- an expression while a text is read: what it is, whether it is empty, whether it is done -/
inductive Ps where
  | node (kind : Nat) (set : Nat → Bool) (kids : List Ps) (empty done : Bool) : Ps
def Ps.done : Ps → Bool
  | .node _ _ _ _ d => d
def Ps.empty : Ps → Bool
  | .node _ _ _ e _ => e
mutual
def Ps.size : Ps → Nat
  | .node _ _ l _ _ => 1 + Ps.sizeL l
def Ps.sizeL : List Ps → Nat
  | [] => 0
  | x :: r => Ps.size x + Ps.sizeL r
end
theorem Ps.size_pos : ∀ x : Ps, 1 ≤ x.size
  | .node _ _ _ _ _ => by simp [Ps.size]
mutual
/-- of which nothing is read -/
def Ps.of : Rx → Ps
  | .node k f l => .node k f (Ps.ofL l) (Rx.emp (.node k f l)) false
def Ps.ofL : List Rx → List Ps
  | [] => []
  | x :: r => Ps.of x :: Ps.ofL r
end
mutual
/-- one byte more -/
def Ps.read (c : Nat) : Ps → Bool → Ps
  | .node k f l e d, b =>
    if k = 1 then .node k f l e (b && f c)
    else if k = 2 then .node k f (Ps.readC c l b) e (Ps.doneC c l b false)
    else if k = 3 then .node k f (Ps.readA c l b) e (Ps.doneA c l b false)
    else if k = 4 then .node k f (Ps.readS c l b) e (Ps.doneS c l b)
    else .node k f l e d
/-- kids one behind the other -/
def Ps.readC (c : Nat) : List Ps → Bool → List Ps
  | [], _ => []
  | x :: r, b => Ps.read c x b :: Ps.readC c r (x.done || b && x.empty)
def Ps.doneC (c : Nat) : List Ps → Bool → Bool → Bool
  | [], _, d => d
  | x :: r, b, d => Ps.doneC c r (x.done || b && x.empty) ((Ps.read c x b).done || d && x.empty)
def Ps.readA (c : Nat) : List Ps → Bool → List Ps
  | [], _ => []
  | x :: r, b => Ps.read c x b :: Ps.readA c r b
def Ps.doneA (c : Nat) : List Ps → Bool → Bool → Bool
  | [], _, d => d
  | x :: r, b, d => Ps.doneA c r b (d || (Ps.read c x b).done)
def Ps.readS (c : Nat) : List Ps → Bool → List Ps
  | [], _ => []
  | x :: r, b => Ps.read c x (b || x.done) :: r
def Ps.doneS (c : Nat) : List Ps → Bool → Bool
  | [], _ => false
  | x :: _, b => (Ps.read c x (b || x.done)).done
end
theorem Ps.of_empty (x : Rx) : (Ps.of x).empty = x.emp := by cases x; rfl
theorem Ps.of_done (x : Rx) : (Ps.of x).done = false := by cases x; rfl
theorem Ps.read_empty (c : Nat) (x : Ps) (b : Bool) : (Ps.read c x b).empty = x.empty := by
  cases x
  rw [Ps.read]
  repeat' split
  all_goals rfl
/-- behind q bytes, with these beginnings -/
def Ps.run (s : Nat → Nat) (x : Rx) (b : Nat → Bool) : Nat → Ps
  | 0 => Ps.of x
  | q + 1 => Ps.read (s q) (Ps.run s x b q) (b q)
theorem Ps.run_empty (s : Nat → Nat) (x : Rx) (b : Nat → Bool) (q : Nat) : (Ps.run s x b q).empty = x.emp := by
  induction q with
  | zero => exact Ps.of_empty x
  | succ q ih => rw [Ps.run, Ps.read_empty, ih]
theorem Ps.run_congr (s : Nat → Nat) (x : Rx) (b b' : Nat → Bool) (q : Nat) (h : ∀ j, j < q → b j = b' j) : Ps.run s x b q = Ps.run s x b' q := by
  induction q with
  | zero => rfl
  | succ q ih => rw [Ps.run, Ps.run, ih (fun j hj => h j (by omega)), h q (by omega)]
/-- the kids of a Cat -/
def Ps.kidsC (s : Nat → Nat) : List Rx → (Nat → Bool) → Nat → List Ps
  | [], _, _ => []
  | x :: r, b, q => Ps.run s x b q :: Ps.kidsC s r (fun j => (Ps.run s x b j).done || b j && x.emp) q
def Ps.kidsA (s : Nat → Nat) : List Rx → (Nat → Bool) → Nat → List Ps
  | [], _, _ => []
  | x :: r, b, q => Ps.run s x b q :: Ps.kidsA s r b q
theorem Ps.kidsC_zero (s : Nat → Nat) : ∀ (l : List Rx) (b : Nat → Bool), Ps.kidsC s l b 0 = Ps.ofL l
  | [], _ => rfl
  | x :: r, b => by rw [Ps.kidsC, Ps.kidsC_zero s r]; rfl
theorem Ps.kidsA_zero (s : Nat → Nat) : ∀ (l : List Rx) (b : Nat → Bool), Ps.kidsA s l b 0 = Ps.ofL l
  | [], _ => rfl
  | x :: r, b => by rw [Ps.kidsA, Ps.kidsA_zero s r]; rfl
theorem Ps.kidsC_on (s : Nat → Nat) (q : Nat) : ∀ (l : List Rx) (b : Nat → Bool), Ps.readC (s q) (Ps.kidsC s l b q) (b q) = Ps.kidsC s l b (q + 1)
  | [], _ => rfl
  | x :: r, b => by
    rw [Ps.kidsC, Ps.readC, Ps.kidsC, Ps.run_empty]
    have := Ps.kidsC_on s q r (fun j => (Ps.run s x b j).done || b j && x.emp)
    rw [this]; rfl
theorem Ps.kidsA_on (s : Nat → Nat) (q : Nat) : ∀ (l : List Rx) (b : Nat → Bool), Ps.readA (s q) (Ps.kidsA s l b q) (b q) = Ps.kidsA s l b (q + 1)
  | [], _ => rfl
  | x :: r, b => by
    rw [Ps.kidsA, Ps.readA, Ps.kidsA, Ps.kidsA_on s q r]; rfl
mutual
theorem Rx.emp_iff (s : Nat → Nat) (n : Nat) : ∀ (x : Rx), x.wf = true → ∀ j, (x.emp = true ↔ Rx.Go s n x j j)
  | .node 0 f l, _, j => by simp [Rx.emp, Rx.Go]
  | .node 1 f l, _, j => by simp [Rx.emp, Rx.Go]
  | .node 2 f l, hw, j => by
    have hl : Rx.wfL l = true := by simp only [Rx.wf, Bool.and_eq_true] at hw; exact hw.2
    simp only [Rx.emp, Rx.Go]
    exact Rx.empC_iff s n l hl j
  | .node 3 f l, hw, j => by
    have hl : Rx.wfL l = true := by simp only [Rx.wf, Bool.and_eq_true] at hw; exact hw.2
    simp only [Rx.emp, Rx.Go]
    exact Rx.empA_iff s n l hl j
  | .node 4 f l, hw, j => by
    simp only [Rx.emp, Rx.Go]
    exact ⟨fun _ => .refl _, fun _ => by simp⟩
  | .node (q + 5) f l, hw, j => by simp [Rx.wf] at hw
theorem Rx.empC_iff (s : Nat → Nat) (n : Nat) : ∀ (l : List Rx), Rx.wfL l = true → ∀ j, (Rx.empC l = true ↔ Rx.GoC s n l j j)
  | [], _, j => by simp [Rx.empC, Rx.GoC]
  | x :: r, hw, j => by
    simp only [Rx.wfL, Bool.and_eq_true] at hw
    simp only [Rx.empC, Rx.GoC, Bool.and_eq_true, Rx.emp_iff s n x hw.1 j, Rx.empC_iff s n r hw.2 j]
    constructor
    · rintro ⟨h1, h2⟩; exact ⟨j, h1, h2⟩
    · rintro ⟨m, h1, h2⟩
      have := Rx.go_up s n x _ _ h1; have := Rx.goC_up s n r _ _ h2
      have e : m = j := by omega
      subst e; exact ⟨h1, h2⟩
theorem Rx.empA_iff (s : Nat → Nat) (n : Nat) : ∀ (l : List Rx), Rx.wfL l = true → ∀ j, (Rx.empA l = true ↔ Rx.GoA s n l j j)
  | [], _, j => by simp [Rx.empA, Rx.GoA]
  | x :: r, hw, j => by
    simp only [Rx.wfL, Bool.and_eq_true] at hw
    simp only [Rx.empA, Rx.GoA, Bool.or_eq_true, Rx.emp_iff s n x hw.1 j, Rx.empA_iff s n r hw.2 j]
end
/-- what is done is what is matched from a beginning on -/
def Ps.Ok (s : Nat → Nat) (n : Nat) (x : Rx) : Prop := ∀ (b : Nat → Bool) (q : Nat), q ≤ n → ((Ps.run s x b q).done = true ↔ ∃ j, j < q ∧ b j = true ∧ Rx.Go s n x j q)
theorem Ps.doneC_iff (s : Nat → Nat) (n q : Nat) (hq : q + 1 ≤ n) : ∀ (l : List Rx), Rx.wfL l = true → (∀ x ∈ l, Ps.Ok s n x) → ∀ (b : Nat → Bool) (d : Bool), (Ps.doneC (s q) (Ps.kidsC s l b q) (b q) d = true ↔ (d = true ∧ Rx.GoC s n l (q + 1) (q + 1)) ∨ ∃ j, j ≤ q ∧ b j = true ∧ Rx.GoC s n l j (q + 1))
  | [], _, _, b, d => by
    simp only [Ps.kidsC, Ps.doneC, Rx.GoC, and_true]
    constructor
    · exact .inl
    · rintro (h | ⟨j, h1, _, h3⟩)
      · exact h
      · omega
  | x :: r, hw, hok, b, d => by
    simp only [Rx.wfL, Bool.and_eq_true] at hw
    have hx := hok x (by simp)
    have hr := fun y hy => hok y (List.mem_cons_of_mem x hy)
    have he := Rx.emp_iff s n x hw.1
    rw [Ps.kidsC, Ps.doneC, Ps.run_empty]
    have ih := Ps.doneC_iff s n q hq r hw.2 hr (fun j => (Ps.run s x b j).done || b j && x.emp) ((Ps.read (s q) (Ps.run s x b q) (b q)).done || d && x.emp)
    rw [ih]
    have h1 := hx b (q + 1) hq
    rw [Ps.run] at h1
    simp only [Bool.or_eq_true, Bool.and_eq_true, h1, Rx.GoC]
    constructor
    · rintro (⟨(⟨j, hj, hb, hg⟩ | ⟨hd, hem⟩), hg2⟩ | ⟨j, hj, (hdn | ⟨hb, hem⟩), hg⟩)
      · exact .inr ⟨j, by omega, hb, _, hg, hg2⟩
      · exact .inl ⟨hd, _, (he _).1 hem, hg2⟩
      · obtain ⟨i, hi, hb, hg1⟩ := (hx b j (by omega)).1 hdn
        exact .inr ⟨i, by omega, hb, _, hg1, hg⟩
      · exact .inr ⟨j, hj, hb, _, (he _).1 hem, hg⟩
    · rintro (⟨hd, m, hg1, hg2⟩ | ⟨i, hi, hb, m, hg1, hg2⟩)
      · have := Rx.go_up s n x _ _ hg1; have := Rx.goC_up s n r _ _ hg2
        have e : m = q + 1 := by omega
        subst e
        exact .inl ⟨.inr ⟨hd, (he _).2 hg1⟩, hg2⟩
      · have h3 := Rx.go_up s n x _ _ hg1; have h4 := Rx.goC_up s n r _ _ hg2
        by_cases hm : m = q + 1
        · subst hm
          exact .inl ⟨.inl ⟨i, by omega, hb, hg1⟩, hg2⟩
        · refine .inr ⟨m, by omega, ?_, hg2⟩
          by_cases hi : i = m
          · subst hi; exact .inr ⟨hb, (he _).2 hg1⟩
          · exact .inl ((hx b m (by omega)).2 ⟨i, by omega, hb, hg1⟩)
theorem Ps.doneA_iff (s : Nat → Nat) (n q : Nat) (hq : q + 1 ≤ n) : ∀ (l : List Rx), (∀ x ∈ l, Ps.Ok s n x) → ∀ (b : Nat → Bool) (d : Bool), (Ps.doneA (s q) (Ps.kidsA s l b q) (b q) d = true ↔ d = true ∨ ∃ j, j ≤ q ∧ b j = true ∧ Rx.GoA s n l j (q + 1))
  | [], _, b, d => by simp [Ps.kidsA, Ps.doneA, Rx.GoA]
  | x :: r, hok, b, d => by
    have hx := hok x (by simp)
    have hr := fun y hy => hok y (List.mem_cons_of_mem x hy)
    rw [Ps.kidsA, Ps.doneA, Ps.doneA_iff s n q hq r hr]
    have h1 := hx b (q + 1) hq
    rw [Ps.run] at h1
    simp only [Bool.or_eq_true, h1, Rx.GoA]
    constructor
    · rintro ((hd | ⟨j, hj, hb, hg⟩) | ⟨j, hj, hb, hg⟩)
      · exact .inl hd
      · exact .inr ⟨j, by omega, hb, .inl hg⟩
      · exact .inr ⟨j, hj, hb, .inr hg⟩
    · rintro (hd | ⟨j, hj, hb, hg | hg⟩)
      · exact .inl (.inl hd)
      · exact .inl (.inr ⟨j, by omega, hb, hg⟩)
      · exact .inr ⟨j, hj, hb, hg⟩
theorem Rx.Clo.last {R : Nat → Nat → Prop} (h : ∀ i k, R i k → i ≤ k) {i k : Nat} (hc : Rx.Clo R i k) : i < k → ∃ m, m < k ∧ i ≤ m ∧ Rx.Clo R i m ∧ R m k := by
  induction hc with
  | refl => intro h; omega
  | @step i j k r hc ih =>
    intro hik
    have h1 := h _ _ r
    by_cases hj : j < k
    · obtain ⟨m, h2, h3, h4, h5⟩ := ih hj
      exact ⟨m, h2, by omega, .step r h4, h5⟩
    · have hle : j ≤ k := by
        clear ih hik r h1 hj
        induction hc with
        | refl => exact Nat.le_refl _
        | step r _ ih => exact Nat.le_trans (h _ _ r) ih
      have e : j = k := by omega
      subst e
      exact ⟨i, hik, Nat.le_refl _, .refl _, r⟩
theorem Ps.runC (s : Nat → Nat) (f : Nat → Bool) (l : List Rx) (b : Nat → Bool) : ∀ q, ∃ d, Ps.run s (.node 2 f l) b q = .node 2 f (Ps.kidsC s l b q) (Rx.emp (.node 2 f l)) d
  | 0 => ⟨false, by rw [Ps.run, Ps.of, Ps.kidsC_zero]⟩
  | q + 1 => by
    obtain ⟨d, h⟩ := Ps.runC s f l b q
    exact ⟨_, by rw [Ps.run, h, Ps.read, if_neg (by decide), if_pos rfl, Ps.kidsC_on]⟩
theorem Ps.runA (s : Nat → Nat) (f : Nat → Bool) (l : List Rx) (b : Nat → Bool) : ∀ q, ∃ d, Ps.run s (.node 3 f l) b q = .node 3 f (Ps.kidsA s l b q) (Rx.emp (.node 3 f l)) d
  | 0 => ⟨false, by rw [Ps.run, Ps.of, Ps.kidsA_zero]⟩
  | q + 1 => by
    obtain ⟨d, h⟩ := Ps.runA s f l b q
    exact ⟨_, by rw [Ps.run, h, Ps.read, if_neg (by decide), if_neg (by decide), if_pos rfl, Ps.kidsA_on]⟩
theorem Ps.runS (s : Nat → Nat) (f : Nat → Bool) (y : Rx) (b : Nat → Bool) : ∃ b' : Nat → Bool, (∀ q, b' q = (b q || (Ps.run s y b' q).done)) ∧ ∀ q, Ps.run s (.node 4 f [y]) b q = .node 4 f [Ps.run s y b' q] true (Ps.run s y b' q).done := by
  have hk : ∀ q, ∃ K : Ps, Ps.run s (.node 4 f [y]) b q = .node 4 f [K] true K.done := by
    intro q
    induction q with
    | zero => exact ⟨Ps.of y, by rw [Ps.run, Ps.of, Ps.of_done]; simp [Ps.ofL, Rx.emp]⟩
    | succ q ih =>
      obtain ⟨K, h⟩ := ih
      exact ⟨Ps.read (s q) K (b q || K.done), by rw [Ps.run, h, Ps.read, if_neg (by decide), if_neg (by decide), if_neg (by decide), if_pos rfl]; rfl⟩
  obtain ⟨K, hK⟩ : ∃ K : Nat → Ps, ∀ q, Ps.run s (.node 4 f [y]) b q = .node 4 f [K q] true (K q).done := ⟨fun q => (hk q).choose, fun q => (hk q).choose_spec⟩
  have h0 : K 0 = Ps.of y := by
    have := hK 0
    rw [Ps.run, Ps.of] at this
    injection this with _ _ h _ _
    simp only [Ps.ofL] at h
    injection h with h _
    exact h.symm
  have h1 : ∀ q, K (q + 1) = Ps.read (s q) (K q) (b q || (K q).done) := by
    intro q
    have := hK (q + 1)
    rw [Ps.run, hK q, Ps.read, if_neg (by decide), if_neg (by decide), if_neg (by decide), if_pos rfl] at this
    injection this with _ _ h _ _
    simp only [Ps.readS] at h
    injection h with h _
    exact h.symm
  have h2 : ∀ q, K q = Ps.run s y (fun j => b j || (K j).done) q := by
    intro q
    induction q with
    | zero => exact h0
    | succ q ih => rw [h1, Ps.run, ← ih]
  refine ⟨fun j => b j || (K j).done, fun q => by rw [← h2 q], fun q => ?_⟩
  rw [hK q, ← h2 q]
mutual
theorem Ps.ok (s : Nat → Nat) (n : Nat) : ∀ (x : Rx), x.wf = true → Ps.Ok s n x
  | .node 0 f l, _, b, q, hq => by
    have h : ∀ q, (Ps.run s (.node 0 f l) b q).done = false := by
      intro q
      have : ∃ e l', Ps.run s (.node 0 f l) b q = .node 0 f l' e false := by
        induction q with
        | zero => exact ⟨_, _, rfl⟩
        | succ q ih => obtain ⟨e, l', h⟩ := ih; exact ⟨e, l', by rw [Ps.run, h, Ps.read]; simp⟩
      obtain ⟨e, l', h⟩ := this
      rw [h]; rfl
    rw [h]
    simp only [Rx.Go]
    constructor
    · simp
    · rintro ⟨j, h1, _, h2⟩; omega
  | .node 1 f l, _, b, q, hq => by
    have hk : ∀ q, ∃ e l' d, Ps.run s (.node 1 f l) b q = .node 1 f l' e d := by
      intro q
      induction q with
      | zero => exact ⟨_, _, _, rfl⟩
      | succ q ih => obtain ⟨e, l', d, h⟩ := ih; exact ⟨e, l', _, by rw [Ps.run, h, Ps.read, if_pos rfl]⟩
    simp only [Rx.Go]
    cases q with
    | zero => rw [Ps.run, Ps.of_done]; simp
    | succ q =>
      obtain ⟨e, l', d, h⟩ := hk q
      rw [Ps.run, h, Ps.read, if_pos rfl]
      simp only [Ps.done, Bool.and_eq_true]
      constructor
      · rintro ⟨h1, h2⟩; exact ⟨q, by omega, h1, by omega, rfl, h2⟩
      · rintro ⟨j, h1, h2, h3, h4, h5⟩
        have e : j = q := by omega
        subst e; exact ⟨h2, h5⟩
  | .node 2 f l, hw, b, q, hq => by
    have hl : Rx.wfL l = true := by simp only [Rx.wf, Bool.and_eq_true] at hw; exact hw.2
    have hok := Ps.okL s n l hl
    simp only [Rx.Go]
    cases q with
    | zero => rw [Ps.run, Ps.of_done]; simp
    | succ q =>
      obtain ⟨d, h⟩ := Ps.runC s f l b q
      rw [Ps.run, h, Ps.read, if_neg (by decide), if_pos rfl]
      simp only [Ps.done]
      rw [Ps.doneC_iff s n q hq l hl hok b false]
      constructor
      · rintro (⟨h1, _⟩ | ⟨j, h1, h2, h3⟩)
        · simp at h1
        · exact ⟨j, by omega, h2, h3⟩
      · rintro ⟨j, h1, h2, h3⟩; exact .inr ⟨j, by omega, h2, h3⟩
  | .node 3 f l, hw, b, q, hq => by
    have hl : Rx.wfL l = true := by simp only [Rx.wf, Bool.and_eq_true] at hw; exact hw.2
    have hok := Ps.okL s n l hl
    simp only [Rx.Go]
    cases q with
    | zero => rw [Ps.run, Ps.of_done]; simp
    | succ q =>
      obtain ⟨d, h⟩ := Ps.runA s f l b q
      rw [Ps.run, h, Ps.read, if_neg (by decide), if_neg (by decide), if_pos rfl]
      simp only [Ps.done]
      rw [Ps.doneA_iff s n q hq l hok b false]
      constructor
      · rintro (h1 | ⟨j, h1, h2, h3⟩)
        · simp at h1
        · exact ⟨j, by omega, h2, h3⟩
      · rintro ⟨j, h1, h2, h3⟩; exact .inr ⟨j, by omega, h2, h3⟩
  | .node 4 f [], hw, b, q, hq => by simp [Rx.wf] at hw
  | .node 4 f [y], hw, b, q, hq => by
    have hy : y.wf = true := by simp only [Rx.wf, Rx.wfL, Bool.and_eq_true] at hw; exact hw.2.1
    have hok := Ps.ok s n y hy
    obtain ⟨b', hb', hr⟩ := Ps.runS s f y b
    simp only [Rx.Go]
    rw [hr q]
    simp only [Ps.done]
    have key : ∀ q, q ≤ n → ((Ps.run s y b' q).done = true ↔ ∃ j, j < q ∧ b j = true ∧ Rx.Clo (Rx.GoA s n [y]) j q) := by
      intro q
      induction q using Nat.strongRecOn with
      | _ q ih =>
        intro hq
        rw [hok b' q hq]
        constructor
        · rintro ⟨j, hj, hbj, hg⟩
          rw [hb' j] at hbj
          simp only [Bool.or_eq_true] at hbj
          have hg' : Rx.GoA s n [y] j q := by simp only [Rx.GoA]; exact .inl hg
          rcases hbj with hbj | hbj
          · exact ⟨j, hj, hbj, .one hg'⟩
          · obtain ⟨i, hi, hbi, hc⟩ := (ih j hj (by omega)).1 hbj
            exact ⟨i, by omega, hbi, hc.trans (.one hg')⟩
        · rintro ⟨j, hj, hbj, hc⟩
          obtain ⟨m, hm, hjm, hc1, hg⟩ := Rx.Clo.last (fun i k h => (Rx.goA_up s n [y] i k h).1) hc hj
          have hg' : Rx.Go s n y m q := by simp only [Rx.GoA, or_false] at hg; exact hg
          refine ⟨m, hm, ?_, hg'⟩
          rw [hb' m]
          simp only [Bool.or_eq_true]
          by_cases e : j = m
          · subst e; exact .inl hbj
          · exact .inr ((ih m hm (by omega)).2 ⟨j, by omega, hbj, hc1⟩)
    exact key q hq
  | .node 4 f (_ :: _ :: _), hw, b, q, hq => by simp [Rx.wf] at hw
  | .node (q + 5) f l, hw, _, _, _ => by simp [Rx.wf] at hw
theorem Ps.okL (s : Nat → Nat) (n : Nat) : ∀ (l : List Rx), Rx.wfL l = true → ∀ x ∈ l, Ps.Ok s n x
  | [], _, x, hx => by simp at hx
  | y :: r, hw, x, hx => by
    simp only [Rx.wfL, Bool.and_eq_true] at hw
    rcases List.mem_cons.1 hx with e | hx
    · rw [e]; exact Ps.ok s n y hw.1
    · exact Ps.okL s n r hw.2 x hx
end
end Go.Proofs.Ytndenipjiclkaaa
