/- A text is matched just if it goes along an expression's Ones: plain facts. Fronts: plain facts: a rule is in a text's front just if it matches the text. -/
import Derived.Test.YthapedadnbkgnaaGreatG10
namespace Go.Proofs.YthapedadnbkgnaaGreat
set_option linter.unusedVariables false
set_option linter.unusedSimpArgs false
namespace Nf
inductive Seg (F : Nat → Nat → Prop) (O : Nat → Nat → Prop) (s : Nat → Nat) (n : Nat) : Nat → Nat → Nat → Nat → Prop
  | one {i p : Nat} : i < n → O p (s i) → Seg F O s n i p (i + 1) p
  | step {i p p' k q : Nat} : i < n → O p (s i) → F p p' → Seg F O s n (i + 1) p' k q → Seg F O s n i p k q
theorem Seg.map {F F' O O' : Nat → Nat → Prop} {s : Nat → Nat} {n : Nat} (m : Nat) (hF : ∀ p q, F p q → F' (m + p) (m + q)) (hO : ∀ p c, O p c → O' (m + p) c) {i p k q : Nat} (h : Seg F O s n i p k q) : Seg F' O' s n i (m + p) k (m + q) := by
  induction h with
  | one h1 h2 => exact .one h1 (hO _ _ h2)
  | step h1 h2 h3 _ ih => exact .step h1 (hO _ _ h2) (hF _ _ h3) ih
theorem Seg.mono {F F' O O' : Nat → Nat → Prop} {s : Nat → Nat} {n : Nat} (hF : ∀ p q, F p q → F' p q) (hO : ∀ p c, O p c → O' p c) {i p k q : Nat} (h : Seg F O s n i p k q) : Seg F' O' s n i p k q := by
  induction h with
  | one h1 h2 => exact .one h1 (hO _ _ h2)
  | step h1 h2 h3 _ ih => exact .step h1 (hO _ _ h2) (hF _ _ h3) ih
theorem Seg.cat {F O : Nat → Nat → Prop} {s : Nat → Nat} {n : Nat} {i p j q p' k q' : Nat} (h : Seg F O s n i p j q) (hl : F q p') (h' : Seg F O s n j p' k q') : Seg F O s n i p k q' := by
  induction h with
  | one h1 h2 => exact .step h1 h2 hl h'
  | step h1 h2 h3 _ ih => exact .step h1 h2 h3 (ih hl h')
def on (x : Rx) (p c : Nat) : Prop := ∃ f, (Rx.sets x)[p]? = some f ∧ f c = true
def onL (l : List Rx) (p c : Nat) : Prop := ∃ f, (Rx.setsL l)[p]? = some f ∧ f c = true
theorem on_lt {x : Rx} {p c : Nat} (h : on x p c) : p < ones x := by
  obtain ⟨f, h, _⟩ := h
  rw [← sets_len]
  exact (List.getElem?_eq_some_iff.1 h).1
theorem onL_lo {x : Rx} {r : List Rx} {p c : Nat} (hp : p < ones x) : onL (x :: r) p c ↔ on x p c := by
  unfold onL on
  rw [Rx.setsL, List.getElem?_append_left (by rw [sets_len]; exact hp)]
theorem onL_hi {x : Rx} {r : List Rx} {p c : Nat} : onL (x :: r) (ones x + p) c ↔ onL r p c := by
  unfold onL
  rw [Rx.setsL, List.getElem?_append_right (by rw [sets_len]; omega), sets_len, Nat.add_sub_cancel_left]
theorem on_kids {k : Nat} (f : Nat → Bool) (l : List Rx) (h : k ≠ 1) : on (.node k f l) = onL l := by
  funext p c
  simp only [on, onL, Rx.sets, if_neg h]
theorem cat_way {x : Rx} {r : List Rx} {s : Nat → Nat} {n i p k q : Nat} (h : Seg (folC (x :: r)) (onL (x :: r)) s n i p k q) :
    (∀ p', p = ones x + p' → ∃ q', q = ones x + q' ∧ Seg (folC r) (onL r) s n i p' k q') ∧
    (p < ones x → (q < ones x ∧ Seg (fol x) (on x) s n i p k q) ∨ ∃ j q1 p1 q', q = ones x + q' ∧ lst x q1 ∧ fstC r p1 ∧ Seg (fol x) (on x) s n i p j q1 ∧ Seg (folC r) (onL r) s n j p1 k q') := by
  induction h with
  | @one i p h1 h2 =>
    refine ⟨fun p' e => ?_, fun hp => .inl ⟨hp, .one h1 ((onL_lo hp).1 h2)⟩⟩
    subst e
    exact ⟨p', rfl, .one h1 (onL_hi.1 h2)⟩
  | @step i p p2 k q h1 h2 h3 h4 ih =>
    refine ⟨fun p' e => ?_, fun hp => ?_⟩
    · subst e
      simp only [folC] at h3
      rcases h3 with h3 | ⟨h3, _⟩ | ⟨p3, q3, e3, rfl, h3⟩
      · have := (fol_lt x _ _ h3).1; omega
      · have := lst_lt x _ h3; omega
      · obtain ⟨q', rfl, h5⟩ := ih.1 q3 rfl
        obtain rfl : p3 = p' := by omega
        exact ⟨q', rfl, .step h1 (onL_hi.1 h2) h3 h5⟩
    · have h2' := (onL_lo hp).1 h2
      simp only [folC] at h3
      rcases h3 with h3 | ⟨h3, q3, rfl, h3'⟩ | ⟨p3, q3, rfl, _, _⟩
      · rcases ih.2 (fol_lt x _ _ h3).2 with ⟨hq, h5⟩ | ⟨j, q1, p1, q', rfl, h6, h7, h8, h9⟩
        · exact .inl ⟨hq, .step h1 h2' h3 h5⟩
        · exact .inr ⟨j, q1, p1, q', rfl, h6, h7, .step h1 h2' h3 h8, h9⟩
      · obtain ⟨q', rfl, h5⟩ := ih.1 q3 rfl
        exact .inr ⟨i + 1, p, q3, q', rfl, h3, h3', .one h1 h2', h5⟩
      · omega
theorem alt_way {x : Rx} {r : List Rx} {s : Nat → Nat} {n i p k q : Nat} (h : Seg (folA (x :: r)) (onL (x :: r)) s n i p k q) :
    (∀ p', p = ones x + p' → ∃ q', q = ones x + q' ∧ Seg (folA r) (onL r) s n i p' k q') ∧
    (p < ones x → q < ones x ∧ Seg (fol x) (on x) s n i p k q) := by
  induction h with
  | @one i p h1 h2 =>
    refine ⟨fun p' e => ?_, fun hp => ⟨hp, .one h1 ((onL_lo hp).1 h2)⟩⟩
    subst e
    exact ⟨p', rfl, .one h1 (onL_hi.1 h2)⟩
  | @step i p p2 k q h1 h2 h3 h4 ih =>
    refine ⟨fun p' e => ?_, fun hp => ?_⟩
    · subst e
      simp only [folA] at h3
      rcases h3 with h3 | ⟨p3, q3, e3, rfl, h3⟩
      · have := (fol_lt x _ _ h3).1; omega
      · obtain ⟨q', rfl, h5⟩ := ih.1 q3 rfl
        obtain rfl : p3 = p' := by omega
        exact ⟨q', rfl, .step h1 (onL_hi.1 h2) h3 h5⟩
    · have h2' := (onL_lo hp).1 h2
      simp only [folA] at h3
      rcases h3 with h3 | ⟨p3, q3, rfl, _, _⟩
      · obtain ⟨hq, h5⟩ := ih.2 (fol_lt x _ _ h3).2
        exact ⟨hq, .step h1 h2' h3 h5⟩
      · omega
theorem seg_head {x : Rx} {r : List Rx} {F : Nat → Nat → Prop} {s : Nat → Nat} {n i p k q : Nat} (hF : ∀ p q, fol x p q → F p q) (h : Seg (fol x) (on x) s n i p k q) : Seg F (onL (x :: r)) s n i p k q :=
  h.mono hF (fun p c hc => (onL_lo (on_lt hc)).2 hc)
theorem seg_tail {x : Rx} {r : List Rx} {F G : Nat → Nat → Prop} {s : Nat → Nat} {n i p k q : Nat} (hF : ∀ p q, G p q → F (ones x + p) (ones x + q)) (h : Seg G (onL r) s n i p k q) : Seg F (onL (x :: r)) s n i (ones x + p) k (ones x + q) :=
  h.map (ones x) hF (fun p c hc => onL_hi.2 hc)
mutual
theorem go_iff (s : Nat → Nat) (n : Nat) : ∀ (x : Rx), x.wf = true → ∀ (i k : Nat), Rx.Go s n x i k ↔ (i = k ∧ x.emp = true) ∨ ∃ p q, fst x p ∧ lst x q ∧ Seg (fol x) (on x) s n i p k q
  | .node 0 f l, hw, i, k => by
    simp only [Rx.Go, Rx.emp, fst]
    simp
  | .node 1 f l, hw, i, k => by
    simp only [Rx.Go, Rx.emp, fst, lst]
    constructor
    · rintro ⟨h1, rfl, h3⟩
      exact .inr ⟨0, 0, rfl, rfl, .one h1 ⟨f, by simp [Rx.sets], h3⟩⟩
    · rintro (⟨_, h⟩ | ⟨p, q, rfl, rfl, h⟩)
      · simp at h
      · cases h with
        | one h1 h2 =>
          obtain ⟨g, hg, hc⟩ := h2
          simp [Rx.sets] at hg
          subst hg
          exact ⟨h1, rfl, hc⟩
        | step _ _ h3 _ => simp [fol] at h3
  | .node 2 f l, hw, i, k => by
    have hl : Rx.wfL l = true := by simp only [Rx.wf, Bool.and_eq_true] at hw; exact hw.2
    have h := goC_iff s n l hl i k
    rw [on_kids f l (by decide)]
    simpa only [Rx.Go, Rx.emp, fst, lst, fol, Nat.reduceEqDiff, if_false, if_true] using h
  | .node 3 f l, hw, i, k => by
    have hl : Rx.wfL l = true := by simp only [Rx.wf, Bool.and_eq_true] at hw; exact hw.2
    have h := goA_iff s n l hl i k
    rw [on_kids f l (by decide)]
    simpa only [Rx.Go, Rx.emp, fst, lst, fol, Nat.reduceEqDiff, if_false, if_true] using h
  | .node (c + 4) f l, hw, i, k => by
    have hl : Rx.wfL l = true := by simp only [Rx.wf, Bool.and_eq_true] at hw; exact hw.2
    have hc : c = 0 := by simp only [Rx.wf, Bool.and_eq_true, decide_eq_true_eq] at hw; omega
    subst hc
    have hA := goA_iff s n l hl
    rw [on_kids f l (by decide)]
    simp only [Rx.Go, Rx.emp, fst, lst]
    constructor
    · intro h
      induction h with
      | refl i => exact .inl ⟨rfl, by simp⟩
      | @step i j k r _ ih =>
        have up : ∀ {i p k q}, Seg (folA l) (onL l) s n i p k q → Seg (fol (.node (0 + 4) f l)) (onL l) s n i p k q := fun h => h.mono (fun p q h => by simp only [fol]; exact .inl h) (fun _ _ h => h)
        rcases (hA i j).1 r with ⟨rfl, _⟩ | ⟨p, q, h1, h2, h3⟩
        · exact ih
        · rcases ih with ⟨rfl, _⟩ | ⟨p', q', h4, h5, h6⟩
          · exact .inr ⟨p, q, h1, h2, up h3⟩
          · exact .inr ⟨p, q', h1, h5, (up h3).cat (by simp only [fol]; exact .inr ⟨h2, h4⟩) h6⟩
    · rintro (⟨rfl, _⟩ | ⟨p, q, h1, h2, h3⟩)
      · exact .refl _
      · have key : ∀ {i p k q}, Seg (fol (.node (0 + 4) f l)) (onL l) s n i p k q → lstA l q → ∃ j q1, Seg (folA l) (onL l) s n i p j q1 ∧ lstA l q1 ∧ Rx.Clo (Rx.GoA s n l) j k := by
          intro i p k q h hq
          induction h with
          | @one i p h1 h2 => exact ⟨i + 1, p, .one h1 h2, hq, .refl _⟩
          | @step i p p2 k q h1 h2 h3 _ ih =>
            obtain ⟨j, q1, h5, h6, h7⟩ := ih hq
            simp only [fol] at h3
            rcases h3 with h3 | ⟨h3, h4⟩
            · exact ⟨j, q1, .step h1 h2 h3 h5, h6, h7⟩
            · exact ⟨i + 1, p, .one h1 h2, h3, .step ((hA (i + 1) j).2 (.inr ⟨p2, q1, h4, h6, h5⟩)) h7⟩
        obtain ⟨j, q1, h5, h6, h7⟩ := key h3 h2
        exact .step ((hA i j).2 (.inr ⟨p, q1, h1, h6, h5⟩)) h7
theorem goC_iff (s : Nat → Nat) (n : Nat) : ∀ (l : List Rx), Rx.wfL l = true → ∀ (i k : Nat), Rx.GoC s n l i k ↔ (i = k ∧ Rx.empC l = true) ∨ ∃ p q, fstC l p ∧ lstC l q ∧ Seg (folC l) (onL l) s n i p k q
  | [], _, i, k => by simp [Rx.GoC, Rx.empC, fstC]
  | x :: r, hw, i, k => by
    simp only [Rx.wfL, Bool.and_eq_true] at hw
    have hx := go_iff s n x hw.1
    have hr := goC_iff s n r hw.2
    simp only [Rx.GoC, Rx.empC, Bool.and_eq_true]
    have fh : ∀ p q, fol x p q → folC (x :: r) p q := fun p q h => by simp only [folC]; exact .inl h
    have ft : ∀ p q, folC r p q → folC (x :: r) (ones x + p) (ones x + q) := fun p q h => by simp only [folC]; exact .inr (.inr ⟨p, q, rfl, rfl, h⟩)
    constructor
    · rintro ⟨j, h1, h2⟩
      rcases (hx i j).1 h1 with ⟨rfl, e1⟩ | ⟨p, q, a1, a2, a3⟩
      · rcases (hr i k).1 h2 with ⟨rfl, e2⟩ | ⟨p', q', b1, b2, b3⟩
        · exact .inl ⟨rfl, e1, e2⟩
        · exact .inr ⟨ones x + p', ones x + q', by simp only [fstC]; exact .inr ⟨e1, p', rfl, b1⟩, by simp only [lstC]; exact .inr ⟨q', rfl, b2⟩, seg_tail ft b3⟩
      · rcases (hr j k).1 h2 with ⟨rfl, e2⟩ | ⟨p', q', b1, b2, b3⟩
        · exact .inr ⟨p, q, by simp only [fstC]; exact .inl a1, by simp only [lstC]; exact .inl ⟨a2, e2⟩, seg_head fh a3⟩
        · exact .inr ⟨p, ones x + q', by simp only [fstC]; exact .inl a1, by simp only [lstC]; exact .inr ⟨q', rfl, b2⟩, (seg_head fh a3).cat (by simp only [folC]; exact .inr (.inl ⟨a2, p', rfl, b1⟩)) (seg_tail ft b3)⟩
    · rintro (⟨rfl, e1, e2⟩ | ⟨p, q, h1, h2, h3⟩)
      · exact ⟨i, (hx i i).2 (.inl ⟨rfl, e1⟩), (hr i i).2 (.inl ⟨rfl, e2⟩)⟩
      · obtain ⟨w1, w2⟩ := cat_way h3
        simp only [fstC] at h1
        simp only [lstC] at h2
        rcases h1 with h1 | ⟨e1, p', rfl, h1⟩
        · rcases w2 (fst_lt x p h1) with ⟨hq, h5⟩ | ⟨j, q1, p1, q', rfl, h6, h7, h8, h9⟩
          · rcases h2 with ⟨h2, e2⟩ | ⟨q', rfl, _⟩
            · exact ⟨k, (hx i k).2 (.inr ⟨p, q, h1, h2, h5⟩), (hr k k).2 (.inl ⟨rfl, e2⟩)⟩
            · omega
          · rcases h2 with ⟨h2, _⟩ | ⟨q2, e, h2⟩
            · have := lst_lt x _ h2; omega
            · obtain rfl : q2 = q' := by omega
              exact ⟨j, (hx i j).2 (.inr ⟨p, q1, h1, h6, h8⟩), (hr j k).2 (.inr ⟨p1, q2, h7, h2, h9⟩)⟩
        · obtain ⟨q', rfl, h5⟩ := w1 p' rfl
          rcases h2 with ⟨h2, _⟩ | ⟨q2, e, h2⟩
          · have := lst_lt x _ h2; omega
          · obtain rfl : q2 = q' := by omega
            exact ⟨i, (hx i i).2 (.inl ⟨rfl, e1⟩), (hr i k).2 (.inr ⟨p', q2, h1, h2, h5⟩)⟩
theorem goA_iff (s : Nat → Nat) (n : Nat) : ∀ (l : List Rx), Rx.wfL l = true → ∀ (i k : Nat), Rx.GoA s n l i k ↔ (i = k ∧ Rx.empA l = true) ∨ ∃ p q, fstA l p ∧ lstA l q ∧ Seg (folA l) (onL l) s n i p k q
  | [], _, i, k => by simp [Rx.GoA, Rx.empA, fstA]
  | x :: r, hw, i, k => by
    simp only [Rx.wfL, Bool.and_eq_true] at hw
    have hx := go_iff s n x hw.1 i k
    have hr := goA_iff s n r hw.2 i k
    simp only [Rx.GoA, Rx.empA, Bool.or_eq_true]
    have fh : ∀ p q, fol x p q → folA (x :: r) p q := fun p q h => by simp only [folA]; exact .inl h
    have ft : ∀ p q, folA r p q → folA (x :: r) (ones x + p) (ones x + q) := fun p q h => by simp only [folA]; exact .inr ⟨p, q, rfl, rfl, h⟩
    constructor
    · rintro (h | h)
      · rcases hx.1 h with ⟨rfl, e⟩ | ⟨p, q, a1, a2, a3⟩
        · exact .inl ⟨rfl, .inl e⟩
        · exact .inr ⟨p, q, by simp only [fstA]; exact .inl a1, by simp only [lstA]; exact .inl a2, seg_head fh a3⟩
      · rcases hr.1 h with ⟨rfl, e⟩ | ⟨p, q, a1, a2, a3⟩
        · exact .inl ⟨rfl, .inr e⟩
        · exact .inr ⟨ones x + p, ones x + q, by simp only [fstA]; exact .inr ⟨p, rfl, a1⟩, by simp only [lstA]; exact .inr ⟨q, rfl, a2⟩, seg_tail ft a3⟩
    · rintro (⟨rfl, e | e⟩ | ⟨p, q, h1, h2, h3⟩)
      · exact .inl (hx.2 (.inl ⟨rfl, e⟩))
      · exact .inr (hr.2 (.inl ⟨rfl, e⟩))
      · obtain ⟨w1, w2⟩ := alt_way h3
        simp only [fstA] at h1
        simp only [lstA] at h2
        rcases h1 with h1 | ⟨p', rfl, h1⟩
        · obtain ⟨hq, h5⟩ := w2 (fst_lt x p h1)
          rcases h2 with h2 | ⟨q', rfl, _⟩
          · exact .inl (hx.2 (.inr ⟨p, q, h1, h2, h5⟩))
          · omega
        · obtain ⟨q', rfl, h5⟩ := w1 p' rfl
          rcases h2 with h2 | ⟨q2, e, h2⟩
          · have := lst_lt x _ h2; omega
          · obtain rfl : q2 = q' := by omega
            exact .inr (hr.2 (.inr ⟨p', q2, h1, h2, h5⟩))
end
end Nf
namespace Nf
def fro (l : List Rx) (s : Nat → Nat) : Nat → Nat → Prop
  | 0, j => ∃ r, rfst l r j
  | i + 1, j => ∃ k, fro l s i k ∧ onL l k (s i) ∧ folA l k j
def frr (l : List Rx) (s : Nat → Nat) : Nat → Nat → Prop
  | 0, r => remp l r
  | i + 1, r => ∃ k, fro l s i k ∧ onL l k (s i) ∧ rlst l r k
def xfro (x : Rx) (s : Nat → Nat) : Nat → Nat → Prop
  | 0, p => fst x p
  | i + 1, p => ∃ k, xfro x s i k ∧ on x k (s i) ∧ fol x k p
def xend (x : Rx) (s : Nat → Nat) : Nat → Prop
  | 0 => x.emp = true
  | i + 1 => ∃ k, xfro x s i k ∧ on x k (s i) ∧ lst x k
theorem xfro_lt {x : Rx} {s : Nat → Nat} : ∀ {i p : Nat}, xfro x s i p → p < ones x
  | 0, p, h => fst_lt _ _ h
  | i + 1, p, h => by obtain ⟨k, _, _, h⟩ := h; exact (fol_lt _ _ _ h).2
theorem fro_lo {x : Rx} {l : List Rx} {s : Nat → Nat} : ∀ {i p : Nat}, p < ones x → (fro (x :: l) s i p ↔ xfro x s i p)
  | 0, p, hp => by
    simp only [fro, xfro]
    constructor
    · rintro ⟨r, h⟩
      exact ((rfst_lo hp).1 h).2
    · intro h
      exact ⟨0, (rfst_lo hp).2 ⟨rfl, h⟩⟩
  | i + 1, p, hp => by
    simp only [fro, xfro]
    constructor
    · rintro ⟨k, h1, h2, h3⟩
      by_cases hk : k < ones x
      · exact ⟨k, (fro_lo hk).1 h1, (onL_lo hk).1 h2, (folA_ll hk).1 h3⟩
      · obtain ⟨k', rfl⟩ : ∃ k', k = ones x + k' := ⟨k - ones x, by omega⟩
        exact absurd h3 (folA_hl hp)
    · rintro ⟨k, h1, h2, h3⟩
      have hk := xfro_lt h1
      exact ⟨k, (fro_lo hk).2 h1, (onL_lo hk).2 h2, (folA_ll hk).2 h3⟩
theorem fro_hi {x : Rx} {l : List Rx} {s : Nat → Nat} : ∀ {i q : Nat}, fro (x :: l) s i (ones x + q) ↔ fro l s i q
  | 0, q => by
    simp only [fro]
    constructor
    · rintro ⟨r, h⟩
      cases r with
      | zero => simp only [rfst] at h; have := fst_lt _ _ h; omega
      | succ r =>
        simp only [rfst] at h
        obtain ⟨q', e, h⟩ := h
        obtain rfl : q' = q := by omega
        exact ⟨r, h⟩
    · rintro ⟨r, h⟩
      exact ⟨r + 1, by simp only [rfst]; exact ⟨q, rfl, h⟩⟩
  | i + 1, q => by
    simp only [fro]
    constructor
    · rintro ⟨k, h1, h2, h3⟩
      by_cases hk : k < ones x
      · have := (fol_lt _ _ _ ((folA_ll hk).1 h3)).2
        omega
      · obtain ⟨k', rfl⟩ : ∃ k', k = ones x + k' := ⟨k - ones x, by omega⟩
        exact ⟨k', fro_hi.1 h1, onL_hi.1 h2, folA_hh.1 h3⟩
    · rintro ⟨k, h1, h2, h3⟩
      exact ⟨ones x + k, fro_hi.2 h1, onL_hi.2 h2, folA_hh.2 h3⟩
theorem frr_at {s : Nat → Nat} : ∀ {l : List Rx} {i r : Nat}, frr l s i r ↔ ∃ h : r < l.length, xend l[r] s i
  | [], 0, r => by simp [frr, remp]
  | [], i + 1, r => by
    simp only [frr]
    constructor
    · rintro ⟨k, _, _, h⟩; simp [rlst] at h
    · rintro ⟨h, _⟩; simp at h
  | x :: l, 0, 0 => by simp [frr, remp, xend]
  | x :: l, 0, r + 1 => by
    have := frr_at (s := s) (l := l) (i := 0) (r := r)
    simp only [frr] at this ⊢
    simp only [remp, this]
    simp
  | x :: l, i + 1, 0 => by
    simp only [frr]
    constructor
    · rintro ⟨k, h1, h2, h3⟩
      simp only [rlst] at h3
      have hk := lst_lt _ _ h3
      exact ⟨by simp, k, (fro_lo hk).1 h1, (onL_lo hk).1 h2, h3⟩
    · rintro ⟨_, k, h1, h2, h3⟩
      have hk := xfro_lt h1
      exact ⟨k, (fro_lo hk).2 h1, (onL_lo hk).2 h2, by simp only [rlst]; exact h3⟩
  | x :: l, i + 1, r + 1 => by
    have := frr_at (s := s) (l := l) (i := i + 1) (r := r)
    simp only [frr] at this ⊢
    constructor
    · rintro ⟨k, h1, h2, h3⟩
      simp only [rlst] at h3
      obtain ⟨q, rfl, h3⟩ := h3
      obtain ⟨h4, h5⟩ := this.1 ⟨q, fro_hi.1 h1, onL_hi.1 h2, h3⟩
      exact ⟨by simpa using h4, by simpa using h5⟩
    · rintro ⟨h4, h5⟩
      obtain ⟨q, h1, h2, h3⟩ := this.2 ⟨by simpa using h4, by simpa using h5⟩
      exact ⟨ones x + q, fro_hi.2 h1, onL_hi.2 h2, by simp only [rlst]; exact ⟨q, rfl, h3⟩⟩
theorem seg_fro {x : Rx} {s : Nat → Nat} {n : Nat} {i p k q : Nat} (h : Seg (fol x) (on x) s n i p k q) : xfro x s i p → ∃ j, k = j + 1 ∧ xfro x s j q ∧ on x q (s j) := by
  induction h with
  | @one i p h1 h2 => exact fun hp => ⟨i, rfl, hp, h2⟩
  | @step i p p' k q h1 h2 h3 _ ih => exact fun hp => ih ⟨p, hp, h2, h3⟩
theorem fro_seg {x : Rx} {s : Nat → Nat} {n : Nat} : ∀ (j q : Nat), j < n → xfro x s j q → on x q (s j) → ∃ p, fst x p ∧ Seg (fol x) (on x) s n 0 p (j + 1) q
  | 0, q, hj, h1, h2 => ⟨q, h1, .one hj h2⟩
  | j + 1, q, hj, h1, h2 => by
    obtain ⟨k, h3, h4, h5⟩ := h1
    obtain ⟨p, h6, h7⟩ := fro_seg (n := n) j k (by omega) h3 h4
    exact ⟨p, h6, h7.cat h5 (.one hj h2)⟩
theorem xend_go {x : Rx} (hw : x.wf = true) (s : Nat → Nat) (n i : Nat) (hi : i ≤ n) : xend x s i ↔ Rx.Go s n x 0 i := by
  rw [go_iff s n x hw]
  cases i with
  | zero =>
    simp only [xend]
    constructor
    · exact fun h => .inl ⟨by first | rfl | trivial, h⟩
    · rintro (⟨_, h⟩ | ⟨p, q, h1, h2, h3⟩)
      · exact h
      · obtain ⟨j, e, _⟩ := seg_fro h3 h1
        omega
  | succ i =>
    simp only [xend]
    constructor
    · rintro ⟨k, h1, h2, h3⟩
      obtain ⟨p, h4, h5⟩ := fro_seg (n := n) i k (by omega) h1 h2
      exact .inr ⟨p, k, h4, h3, h5⟩
    · rintro (⟨h, _⟩ | ⟨p, q, h1, h2, h3⟩)
      · omega
      · obtain ⟨j, e, h4, h5⟩ := seg_fro h3 h1
        obtain rfl : j = i := by omega
        exact ⟨q, h4, h5, h2⟩
theorem frr_go {l : List Rx} (hw : Rx.wfL l = true) (s : Nat → Nat) (n r : Nat) : frr l s n r ↔ ∃ h : r < l.length, Rx.Go s n l[r] 0 n := by
  rw [frr_at]
  constructor
  · rintro ⟨h, h1⟩
    exact ⟨h, (xend_go (Rx.wfL_all.1 hw _ (List.getElem_mem h)) s n n (Nat.le_refl _)).1 h1⟩
  · rintro ⟨h, h1⟩
    exact ⟨h, (xend_go (Rx.wfL_all.1 hw _ (List.getElem_mem h)) s n n (Nat.le_refl _)).2 h1⟩
end Nf
end Go.Proofs.YthapedadnbkgnaaGreat
