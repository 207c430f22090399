/- The places of an expression's Ones: plain facts: which may be first, which last, what follows each; and that a text is matched just if it goes along them. Ways over free steps: plain facts: two parts one behind the other, side by side, and round. The machine's places: plain facts: how an expression's ways are laid, and that they lead as its Ones follow one another. The machine's places: plain facts: what is laid for a CAT, an ALT and a STAR leads as it should. The machine's places: plain facts: an expression's ways lead from place to place as its Ones follow one another. The machine of some rules: plain facts: from where one comes to which Ones and ends. -/
import Derived.Test.YthapedadnbkgnaaG5
import Derived.Test.YthapedadnbkgnaaG9
namespace Go.Proofs.Ythapedadnbkgnaa
set_option linter.unusedVariables false
set_option linter.unusedSimpArgs false
namespace Nf
mutual
def ones : Rx → Nat
  | .node k _ l => if k = 1 then 1 else onesL l
def onesL : List Rx → Nat
  | [] => 0
  | x :: r => ones x + onesL r
end
mutual
def fst : Rx → Nat → Prop
  | .node 0 _ _, _ => False
  | .node 1 _ _, p => p = 0
  | .node 2 _ l, p => fstC l p
  | .node 3 _ l, p => fstA l p
  | .node (_ + 4) _ l, p => fstA l p
def fstC : List Rx → Nat → Prop
  | [], _ => False
  | x :: r, p => fst x p ∨ (x.emp = true ∧ ∃ q, p = ones x + q ∧ fstC r q)
def fstA : List Rx → Nat → Prop
  | [], _ => False
  | x :: r, p => fst x p ∨ ∃ q, p = ones x + q ∧ fstA r q
end
mutual
def lst : Rx → Nat → Prop
  | .node 0 _ _, _ => False
  | .node 1 _ _, p => p = 0
  | .node 2 _ l, p => lstC l p
  | .node 3 _ l, p => lstA l p
  | .node (_ + 4) _ l, p => lstA l p
def lstC : List Rx → Nat → Prop
  | [], _ => False
  | x :: r, p => (lst x p ∧ Rx.empC r = true) ∨ ∃ q, p = ones x + q ∧ lstC r q
def lstA : List Rx → Nat → Prop
  | [], _ => False
  | x :: r, p => lst x p ∨ ∃ q, p = ones x + q ∧ lstA r q
end
mutual
def fol : Rx → Nat → Nat → Prop
  | .node 0 _ _, _, _ => False
  | .node 1 _ _, _, _ => False
  | .node 2 _ l, p, q => folC l p q
  | .node 3 _ l, p, q => folA l p q
  | .node (_ + 4) _ l, p, q => folA l p q ∨ (lstA l p ∧ fstA l q)
def folC : List Rx → Nat → Nat → Prop
  | [], _, _ => False
  | x :: r, p, q => fol x p q ∨ (lst x p ∧ ∃ q', q = ones x + q' ∧ fstC r q') ∨ ∃ p' q', p = ones x + p' ∧ q = ones x + q' ∧ folC r p' q'
def folA : List Rx → Nat → Nat → Prop
  | [], _, _ => False
  | x :: r, p, q => fol x p q ∨ ∃ p' q', p = ones x + p' ∧ q = ones x + q' ∧ folA r p' q'
end
mutual
theorem sets_len : ∀ (x : Rx), (Rx.sets x).length = ones x
  | .node k f l => by
    rw [Rx.sets, ones]
    split
    · rfl
    · exact setsL_len l
theorem setsL_len : ∀ (l : List Rx), (Rx.setsL l).length = onesL l
  | [] => rfl
  | x :: r => by rw [Rx.setsL, onesL, List.length_append, sets_len x, setsL_len r]
end
theorem ones_kids {k : Nat} (f : Nat → Bool) (l : List Rx) (h : k ≠ 1) : ones (.node k f l) = onesL l := by rw [ones, if_neg h]
mutual
theorem fst_lt : ∀ (x : Rx) (p : Nat), fst x p → p < ones x
  | .node 0 _ _, p, h => by simp [fst] at h
  | .node 1 _ _, p, h => by simp only [fst] at h; subst h; simp [ones]
  | .node 2 f l, p, h => by rw [ones_kids f l (by decide)]; simp only [fst] at h; exact fstC_lt l p h
  | .node 3 f l, p, h => by rw [ones_kids f l (by decide)]; simp only [fst] at h; exact fstA_lt l p h
  | .node (k + 4) f l, p, h => by rw [ones_kids f l (by omega)]; simp only [fst] at h; exact fstA_lt l p h
theorem fstC_lt : ∀ (l : List Rx) (p : Nat), fstC l p → p < onesL l
  | [], p, h => by simp [fstC] at h
  | x :: r, p, h => by
    simp only [fstC] at h
    rw [onesL]
    rcases h with h | ⟨_, q, rfl, h⟩
    · have := fst_lt x p h; omega
    · have := fstC_lt r q h; omega
theorem fstA_lt : ∀ (l : List Rx) (p : Nat), fstA l p → p < onesL l
  | [], p, h => by simp [fstA] at h
  | x :: r, p, h => by
    simp only [fstA] at h
    rw [onesL]
    rcases h with h | ⟨q, rfl, h⟩
    · have := fst_lt x p h; omega
    · have := fstA_lt r q h; omega
end
mutual
theorem lst_lt : ∀ (x : Rx) (p : Nat), lst x p → p < ones x
  | .node 0 _ _, p, h => by simp [lst] at h
  | .node 1 _ _, p, h => by simp only [lst] at h; subst h; simp [ones]
  | .node 2 f l, p, h => by rw [ones_kids f l (by decide)]; simp only [lst] at h; exact lstC_lt l p h
  | .node 3 f l, p, h => by rw [ones_kids f l (by decide)]; simp only [lst] at h; exact lstA_lt l p h
  | .node (k + 4) f l, p, h => by rw [ones_kids f l (by omega)]; simp only [lst] at h; exact lstA_lt l p h
theorem lstC_lt : ∀ (l : List Rx) (p : Nat), lstC l p → p < onesL l
  | [], p, h => by simp [lstC] at h
  | x :: r, p, h => by
    simp only [lstC] at h
    rw [onesL]
    rcases h with ⟨h, _⟩ | ⟨q, rfl, h⟩
    · have := lst_lt x p h; omega
    · have := lstC_lt r q h; omega
theorem lstA_lt : ∀ (l : List Rx) (p : Nat), lstA l p → p < onesL l
  | [], p, h => by simp [lstA] at h
  | x :: r, p, h => by
    simp only [lstA] at h
    rw [onesL]
    rcases h with h | ⟨q, rfl, h⟩
    · have := lst_lt x p h; omega
    · have := lstA_lt r q h; omega
end
mutual
theorem fol_lt : ∀ (x : Rx) (p q : Nat), fol x p q → p < ones x ∧ q < ones x
  | .node 0 _ _, p, q, h => by simp [fol] at h
  | .node 1 _ _, p, q, h => by simp [fol] at h
  | .node 2 f l, p, q, h => by rw [ones_kids f l (by decide)]; simp only [fol] at h; exact folC_lt l p q h
  | .node 3 f l, p, q, h => by rw [ones_kids f l (by decide)]; simp only [fol] at h; exact folA_lt l p q h
  | .node (k + 4) f l, p, q, h => by
    rw [ones_kids f l (by omega)]
    simp only [fol] at h
    rcases h with h | ⟨h1, h2⟩
    · exact folA_lt l p q h
    · exact ⟨lstA_lt l p h1, fstA_lt l q h2⟩
theorem folC_lt : ∀ (l : List Rx) (p q : Nat), folC l p q → p < onesL l ∧ q < onesL l
  | [], p, q, h => by simp [folC] at h
  | x :: r, p, q, h => by
    simp only [folC] at h
    rw [onesL]
    rcases h with h | ⟨h, q', rfl, h'⟩ | ⟨p', q', rfl, rfl, h⟩
    · have := fol_lt x p q h; omega
    · have := lst_lt x p h; have := fstC_lt r q' h'; omega
    · have := folC_lt r p' q' h; omega
theorem folA_lt : ∀ (l : List Rx) (p q : Nat), folA l p q → p < onesL l ∧ q < onesL l
  | [], p, q, h => by simp [folA] at h
  | x :: r, p, q, h => by
    simp only [folA] at h
    rw [onesL]
    rcases h with h | ⟨p', q', rfl, rfl, h⟩
    · have := fol_lt x p q h; omega
    · have := folA_lt r p' q' h; omega
end
end Nf
namespace Nf
abbrev Clo := @Rx.Clo
def or2 (A B : Nat → Nat → Prop) (u v : Nat) : Prop := A u v ∨ B u v
theorem clo_l {A B : Nat → Nat → Prop} {u v : Nat} (h : Clo A u v) : Clo (or2 A B) u v := h.of fun _ _ h => .inl h
theorem clo_r {A B : Nat → Nat → Prop} {u v : Nat} (h : Clo B u v) : Clo (or2 A B) u v := h.of fun _ _ h => .inr h
theorem seq_right {A B : Nat → Nat → Prop} {R : Nat → Prop} (hA : ∀ u v, A u v → ¬ R u) (hB : ∀ u v, B u v → R u ∧ R v) {u v : Nat} (hu : R u) : Clo (or2 A B) u v ↔ Clo B u v := by
  constructor
  · intro h
    induction h with
    | refl => exact .refl _
    | step r _ ih =>
      rcases r with r | r
      · exact absurd hu (hA _ _ r)
      · exact .step r (ih (hB _ _ r).2)
  · exact clo_r
theorem seq_left {A B : Nat → Nat → Prop} {R : Nat → Prop} (hB : ∀ u v, B u v → R u ∧ R v) (hA : ∀ u v, A u v → ¬ R u) {u v : Nat} (hu : ¬ R u) (hv : ¬ R v) : Clo (or2 A B) u v ↔ Clo A u v := by
  constructor
  · intro h
    induction h with
    | refl => exact .refl _
    | @step i j k r h ih =>
      rcases r with r | r
      · by_cases hj : R j
        · have hk := (seq_right hA hB hj).1 h
          have key : ∀ {a b : Nat}, Clo B a b → R a → R b := by
            intro a b h
            induction h with
            | refl => exact fun h => h
            | step r _ ih => exact fun _ => ih (hB _ _ r).2
          exact absurd (key hk hj) hv
        · exact .step r (ih hj hv)
      · exact absurd (hB _ _ r).1 hu
  · exact clo_l
theorem seq_over {A B : Nat → Nat → Prop} {R : Nat → Prop} {c : Nat} (hA : ∀ u v, A u v → ¬ R u ∧ (R v → v = c)) (hB : ∀ u v, B u v → R u ∧ R v) {u v : Nat} (hu : ¬ R u) (hv : R v) : Clo (or2 A B) u v ↔ Clo A u c ∧ Clo B c v := by
  constructor
  · intro h
    induction h with
    | refl => exact absurd hv hu
    | @step i j k r h ih =>
      rcases r with r | r
      · by_cases hj : R j
        · have e := (hA _ _ r).2 hj
          subst e
          exact ⟨.one r, (seq_right (fun u v h => (hA u v h).1) hB hj).1 h⟩
        · obtain ⟨h1, h2⟩ := ih hj hv
          exact ⟨.step r h1, h2⟩
      · exact absurd (hB _ _ r).1 hu
  · rintro ⟨h1, h2⟩
    exact (clo_l h1).trans (clo_r h2)
structure Side (A : Nat → Nat → Prop) (X : Nat → Prop) (a b : Nat) : Prop where
  src : ∀ u v, A u v → u = a ∨ X u
  dst : ∀ u v, A u v → v = b ∨ X v
  na : ¬ X a
  nb : ¬ X b
  ne : a ≠ b
theorem Side.end_ {A : Nat → Nat → Prop} {X : Nat → Prop} {a b : Nat} (h : Side A X a b) {v : Nat} : Clo A b v ↔ v = b := by
  constructor
  · intro hc
    cases hc with
    | refl => rfl
    | step r _ =>
      rcases h.src _ _ r with e | e
      · exact absurd e.symm h.ne
      · exact absurd e h.nb
  · rintro rfl
    exact .refl _
theorem Side.inside {A : Nat → Nat → Prop} {X : Nat → Prop} {a b : Nat} (h : Side A X a b) {u v : Nat} (hc : Clo A u v) : X u → X v ∨ v = b := by
  induction hc with
  | refl => exact fun hu => .inl hu
  | step r hc ih =>
    intro _
    rcases h.dst _ _ r with e | e
    · subst e; exact .inr (h.end_.1 hc)
    · exact ih e
theorem Side.both {A B : Nat → Nat → Prop} {X Y : Nat → Prop} {a b : Nat} (hA : Side A X a b) (hB : Side B Y a b) : Side (or2 A B) (fun u => X u ∨ Y u) a b :=
  ⟨fun u v h => by rcases h with h | h; exact (hA.src u v h).imp id .inl; exact (hB.src u v h).imp id .inr, fun u v h => by rcases h with h | h; exact (hA.dst u v h).imp id .inl; exact (hB.dst u v h).imp id .inr, fun h => h.elim hA.na hB.na, fun h => h.elim hA.nb hB.nb, hA.ne⟩
theorem side_in {A B : Nat → Nat → Prop} {X Y : Nat → Prop} {a b : Nat} (hA : Side A X a b) (hB : Side B Y a b) (hXY : ∀ u, X u → ¬ Y u) {u v : Nat} (hu : X u) : Clo (or2 A B) u v ↔ Clo A u v := by
  constructor
  · intro h
    induction h with
    | refl => exact .refl _
    | step r hc ih =>
      rcases r with r | r
      · rcases hA.dst _ _ r with e | e
        · subst e
          have := (hA.both hB).end_.1 hc
          subst this
          exact .one r
        · exact .step r (ih e)
      · rcases hB.src _ _ r with e | e
        · subst e; exact absurd hu hA.na
        · exact absurd e (hXY _ hu)
  · exact clo_l
theorem or2_comm (A B : Nat → Nat → Prop) : or2 A B = or2 B A := by
  funext u v
  exact propext ⟨fun h => h.symm, fun h => h.symm⟩
theorem side_from {A B : Nat → Nat → Prop} {X Y : Nat → Prop} {a b : Nat} (hA : Side A X a b) (hB : Side B Y a b) (hXY : ∀ u, X u → ¬ Y u) {v : Nat} : Clo (or2 A B) a v ↔ Clo A a v ∨ Clo B a v := by
  constructor
  · intro h
    cases h with
    | refl => exact .inl (.refl _)
    | @step _ j _ r hc =>
      rcases r with r | r
      · left
        rcases hA.dst _ _ r with e | e
        · subst e
          have := (hA.both hB).end_.1 hc
          subst this
          exact .one r
        · exact .step r ((side_in hA hB hXY e).1 hc)
      · right
        rcases hB.dst _ _ r with e | e
        · subst e
          have := (hA.both hB).end_.1 hc
          subst this
          exact .one r
        · rw [or2_comm] at hc
          exact .step r ((side_in hB hA (fun u h1 h2 => hXY u h2 h1) e).1 hc)
  · rintro (h | h)
    · exact clo_l h
    · exact clo_r h
def ring (a b f l : Nat) (u v : Nat) : Prop := (u = a ∨ u = l) ∧ (v = f ∨ v = b)
theorem ring_in {A : Nat → Nat → Prop} {X : Nat → Prop} {a b f l : Nat} (hA : Side A X f l) (haX : ¬ X a) (hbX : ¬ X b) (haf : a ≠ f) (hal : a ≠ l) (hbf : b ≠ f) (hbl : b ≠ l) (hab : a ≠ b) {u v : Nat} (hu : X u ∨ u = f ∨ u = l) (hv : X v ∨ v = f) :
    Clo (or2 A (ring a b f l)) u v ↔ Clo A u v ∨ (Clo A u l ∧ Clo A f v) := by
  have hb : ∀ w, Clo (or2 A (ring a b f l)) b w → w = b := by
    intro w h
    cases h with
    | refl => rfl
    | step r _ =>
      rcases r with r | ⟨r, _⟩
      · rcases hA.src _ _ r with e | e
        · exact absurd e hbf
        · exact absurd e hbX
      · rcases r with e | e
        · exact absurd e.symm hab
        · exact absurd e hbl
  constructor
  · intro h
    induction h with
    | refl => exact .inl (.refl _)
    | @step i j k r hc ih =>
      rcases r with r | ⟨r1, r2⟩
      · have hj : X j ∨ j = f ∨ j = l := by
          rcases hA.dst _ _ r with e | e
          · exact .inr (.inr e)
          · exact .inl e
        rcases ih hj hv with h1 | ⟨h1, h2⟩
        · exact .inl (.step r h1)
        · exact .inr ⟨.step r h1, h2⟩
      · have hi : i = l := by
          rcases r1 with e | e
          · subst e
            rcases hu with h | h | h
            · exact absurd h haX
            · exact absurd h haf
            · exact absurd h hal
          · exact e
        subst hi
        rcases r2 with e | e
        · subst e
          rcases ih (.inr (.inl rfl)) hv with h1 | ⟨h1, h2⟩
          · exact .inr ⟨.refl _, h1⟩
          · exact .inr ⟨.refl _, h2⟩
        · subst e
          have := hb _ hc
          subst this
          rcases hv with h | h
          · exact absurd h hbX
          · exact absurd h hbf
  · rintro (h | ⟨h1, h2⟩)
    · exact clo_l h
    · exact (clo_l h1).trans (.step (.inr ⟨.inr rfl, .inl rfl⟩) (clo_l h2))
theorem ring_out {A : Nat → Nat → Prop} {X : Nat → Prop} {a b f l : Nat} (hA : Side A X f l) (haX : ¬ X a) (hbX : ¬ X b) (haf : a ≠ f) (hal : a ≠ l) (hbf : b ≠ f) (hbl : b ≠ l) {u : Nat} (hu : X u ∨ u = f ∨ u = l) :
    Clo (or2 A (ring a b f l)) u b ↔ Clo A u l := by
  constructor
  · intro h
    have key : ∀ {u v : Nat}, Clo (or2 A (ring a b f l)) u v → v = b → (X u ∨ u = f ∨ u = l) → Clo A u l := by
      intro u v h
      induction h with
      | refl =>
        rintro rfl hu
        rcases hu with h | h | h
        · exact absurd h hbX
        · exact absurd h hbf
        · exact absurd h hbl
      | @step i j k r hc ih =>
        intro hv hu
        rcases r with r | ⟨r1, _⟩
        · have hj : X j ∨ j = f ∨ j = l := by
            rcases hA.dst _ _ r with e | e
            · exact .inr (.inr e)
            · exact .inl e
          exact .step r (ih hv hj)
        · rcases r1 with e | e
          · subst e
            rcases hu with h | h | h
            · exact absurd h haX
            · exact absurd h haf
            · exact absurd h hal
          · subst e; exact .refl _
    exact key h rfl hu
  · intro h
    exact (clo_l h).trans (.one (.inr ⟨.inr rfl, .inr rfl⟩))
theorem ring_from {A : Nat → Nat → Prop} {X : Nat → Prop} {a b f l : Nat} (hA : Side A X f l) (haX : ¬ X a) (hbX : ¬ X b) (haf : a ≠ f) (hal : a ≠ l) (hbf : b ≠ f) (hbl : b ≠ l) (hab : a ≠ b) {v : Nat} (hv : X v ∨ v = f) :
    Clo (or2 A (ring a b f l)) a v ↔ Clo A f v := by
  constructor
  · intro h
    cases h with
    | refl =>
      rcases hv with h | h
      · exact absurd h haX
      · exact absurd h haf
    | step r hc =>
      rcases r with r | ⟨_, r2⟩
      · rcases hA.src _ _ r with e | e
        · exact absurd e haf
        · exact absurd e haX
      · rcases r2 with e | e
        · subst e
          rcases (ring_in hA haX hbX haf hal hbf hbl hab (.inr (.inl rfl)) hv).1 hc with h1 | ⟨_, h2⟩
          · exact h1
          · exact h2
        · subst e
          cases hc with
          | refl =>
            rcases hv with h | h
            · exact absurd h hbX
            · exact absurd h hbf
          | step r _ =>
            rcases r with r | ⟨r, _⟩
            · rcases hA.src _ _ r with e | e
              · exact absurd e hbf
              · exact absurd e hbX
            · rcases r with e | e
              · exact absurd e.symm hab
              · exact absurd e hbl
  · intro h
    exact .step (.inr ⟨.inl rfl, .inl rfl⟩) (clo_l h)
end Nf
namespace Nf
theorem fstC_lo {x : Rx} {r : List Rx} {p : Nat} (h : p < ones x) : fstC (x :: r) p ↔ fst x p := by
  simp only [fstC]
  constructor
  · rintro (h1 | ⟨_, q, rfl, _⟩)
    · exact h1
    · omega
  · exact .inl
theorem fstC_hi {x : Rx} {r : List Rx} {q : Nat} : fstC (x :: r) (ones x + q) ↔ x.emp = true ∧ fstC r q := by
  simp only [fstC]
  constructor
  · rintro (h1 | ⟨h1, q', e, h2⟩)
    · have := fst_lt _ _ h1; omega
    · obtain rfl : q' = q := by omega
      exact ⟨h1, h2⟩
  · rintro ⟨h1, h2⟩
    exact .inr ⟨h1, q, rfl, h2⟩
theorem fstA_lo {x : Rx} {r : List Rx} {p : Nat} (h : p < ones x) : fstA (x :: r) p ↔ fst x p := by
  simp only [fstA]
  constructor
  · rintro (h1 | ⟨q, rfl, _⟩)
    · exact h1
    · omega
  · exact .inl
theorem fstA_hi {x : Rx} {r : List Rx} {q : Nat} : fstA (x :: r) (ones x + q) ↔ fstA r q := by
  simp only [fstA]
  constructor
  · rintro (h1 | ⟨q', e, h2⟩)
    · have := fst_lt _ _ h1; omega
    · obtain rfl : q' = q := by omega
      exact h2
  · exact fun h => .inr ⟨q, rfl, h⟩
theorem lstC_lo {x : Rx} {r : List Rx} {p : Nat} (h : p < ones x) : lstC (x :: r) p ↔ lst x p ∧ Rx.empC r = true := by
  simp only [lstC]
  constructor
  · rintro (h1 | ⟨q, rfl, _⟩)
    · exact h1
    · omega
  · exact .inl
theorem lstC_hi {x : Rx} {r : List Rx} {q : Nat} : lstC (x :: r) (ones x + q) ↔ lstC r q := by
  simp only [lstC]
  constructor
  · rintro (⟨h1, _⟩ | ⟨q', e, h2⟩)
    · have := lst_lt _ _ h1; omega
    · obtain rfl : q' = q := by omega
      exact h2
  · exact fun h => .inr ⟨q, rfl, h⟩
theorem lstA_lo {x : Rx} {r : List Rx} {p : Nat} (h : p < ones x) : lstA (x :: r) p ↔ lst x p := by
  simp only [lstA]
  constructor
  · rintro (h1 | ⟨q, rfl, _⟩)
    · exact h1
    · omega
  · exact .inl
theorem lstA_hi {x : Rx} {r : List Rx} {q : Nat} : lstA (x :: r) (ones x + q) ↔ lstA r q := by
  simp only [lstA]
  constructor
  · rintro (h1 | ⟨q', e, h2⟩)
    · have := lst_lt _ _ h1; omega
    · obtain rfl : q' = q := by omega
      exact h2
  · exact fun h => .inr ⟨q, rfl, h⟩
theorem folC_ll {x : Rx} {r : List Rx} {p q : Nat} (hp : p < ones x) (hq : q < ones x) : folC (x :: r) p q ↔ fol x p q := by
  simp only [folC]
  constructor
  · rintro (h1 | ⟨_, q', rfl, _⟩ | ⟨p', q', rfl, _, _⟩)
    · exact h1
    · omega
    · omega
  · exact .inl
theorem folC_lh {x : Rx} {r : List Rx} {p q : Nat} (hp : p < ones x) : folC (x :: r) p (ones x + q) ↔ lst x p ∧ fstC r q := by
  simp only [folC]
  constructor
  · rintro (h1 | ⟨h1, q', e, h2⟩ | ⟨p', q', rfl, _, _⟩)
    · have := (fol_lt _ _ _ h1).2; omega
    · obtain rfl : q' = q := by omega
      exact ⟨h1, h2⟩
    · omega
  · rintro ⟨h1, h2⟩
    exact .inr (.inl ⟨h1, q, rfl, h2⟩)
theorem folC_hl {x : Rx} {r : List Rx} {p q : Nat} (hq : q < ones x) : ¬ folC (x :: r) (ones x + p) q := by
  simp only [folC]
  rintro (h1 | ⟨h1, _⟩ | ⟨p', q', _, rfl, _⟩)
  · have := (fol_lt _ _ _ h1).1; omega
  · have := lst_lt _ _ h1; omega
  · omega
theorem folC_hh {x : Rx} {r : List Rx} {p q : Nat} : folC (x :: r) (ones x + p) (ones x + q) ↔ folC r p q := by
  simp only [folC]
  constructor
  · rintro (h1 | ⟨h1, _⟩ | ⟨p', q', e1, e2, h⟩)
    · have := (fol_lt _ _ _ h1).1; omega
    · have := lst_lt _ _ h1; omega
    · obtain rfl : p' = p := by omega
      obtain rfl : q' = q := by omega
      exact h
  · exact fun h => .inr (.inr ⟨p, q, rfl, rfl, h⟩)
theorem folA_ll {x : Rx} {r : List Rx} {p q : Nat} (hp : p < ones x) : folA (x :: r) p q ↔ fol x p q := by
  simp only [folA]
  constructor
  · rintro (h1 | ⟨p', q', rfl, _, _⟩)
    · exact h1
    · omega
  · exact .inl
theorem folA_hl {x : Rx} {r : List Rx} {p q : Nat} (hq : q < ones x) : ¬ folA (x :: r) (ones x + p) q := by
  simp only [folA]
  rintro (h1 | ⟨p', q', _, rfl, _⟩)
  · have := (fol_lt _ _ _ h1).1; omega
  · omega
theorem folA_hh {x : Rx} {r : List Rx} {p q : Nat} : folA (x :: r) (ones x + p) (ones x + q) ↔ folA r p q := by
  simp only [folA]
  constructor
  · rintro (h1 | ⟨p', q', e1, e2, h⟩)
    · have := (fol_lt _ _ _ h1).1; omega
    · obtain rfl : p' = p := by omega
      obtain rfl : q' = q := by omega
      exact h
  · exact fun h => .inr ⟨p, q, rfl, rfl, h⟩
structure Mach where
  free : List (List Nat)
  ones : List (Nat × Nat)
def Mach.place (m : Mach) : Mach := { m with free := m.free ++ [[]] }
def Mach.join (m : Mach) (a : Nat) (ts : List Nat) : Mach := { m with free := m.free.set a (m.free.getD a [] ++ ts) }
mutual
def lay : Rx → Nat → Nat → Mach → Mach
  | .node 0 _ _, a, b, m => m.join a [b]
  | .node 1 _ _, a, b, m => { m with ones := m.ones ++ [(a, b)] }
  | .node 2 _ l, a, b, m => layC l a b m
  | .node 3 _ l, a, b, m => layA l a b m
  | .node (_ + 4) _ l, a, b, m => layS l a b m
def layC : List Rx → Nat → Nat → Mach → Mach
  | [], a, b, m => m.join a [b]
  | x :: r, a, b, m => layC r m.free.length b (lay x a m.free.length m.place)
def layA : List Rx → Nat → Nat → Mach → Mach
  | [], _, _, m => m
  | x :: r, a, b, m => layA r a b (lay x a b m)
def layS : List Rx → Nat → Nat → Mach → Mach
  | [], _, _, m => m
  | x :: _, a, b, m => ((lay x m.free.length (m.free.length + 1) m.place.place).join a [m.free.length, b]).join (m.free.length + 1) [m.free.length, b]
end
def Mach.E (m : Mach) (u v : Nat) : Prop := ∃ l, m.free[u]? = some l ∧ v ∈ l
theorem Mach.place_E (m : Mach) (u v : Nat) : m.place.E u v ↔ m.E u v := by
  simp only [Mach.E, Mach.place]
  constructor
  · rintro ⟨l, h1, h2⟩
    by_cases hu : u < m.free.length
    · rw [List.getElem?_append_left hu] at h1; exact ⟨l, h1, h2⟩
    · rw [List.getElem?_append_right (by omega)] at h1
      cases hk : u - m.free.length with
      | zero => rw [hk] at h1; simp at h1; subst h1; simp at h2
      | succ k => rw [hk] at h1; simp at h1
  · rintro ⟨l, h1, h2⟩
    exact ⟨l, by rw [List.getElem?_append_left (List.getElem?_eq_some_iff.1 h1).1]; exact h1, h2⟩
theorem Mach.place_len (m : Mach) : m.place.free.length = m.free.length + 1 := by simp [Mach.place]
theorem Mach.join_len (m : Mach) (a : Nat) (ts : List Nat) : (m.join a ts).free.length = m.free.length := by simp [Mach.join]
theorem Mach.join_E (m : Mach) (a : Nat) (ts : List Nat) (ha : a < m.free.length) (u v : Nat) : (m.join a ts).E u v ↔ m.E u v ∨ (u = a ∧ v ∈ ts) := by
  simp only [Mach.E, Mach.join]
  by_cases e : u = a
  · subst e
    rw [List.getElem?_set_self ha]
    have hg : m.free[u]? = some m.free[u] := List.getElem?_eq_getElem ha
    rw [List.getD_eq_getElem?_getD, hg]
    simp only [Option.getD_some]
    constructor
    · rintro ⟨l, e1, h⟩
      injection e1 with e1
      subst e1
      rcases List.mem_append.1 h with h | h
      · exact .inl ⟨_, rfl, h⟩
      · exact .inr ⟨trivial, h⟩
    · rintro (⟨l, e1, h⟩ | ⟨_, h⟩)
      · injection e1 with e1
        subst e1
        exact ⟨_, rfl, List.mem_append.2 (.inl h)⟩
      · exact ⟨_, rfl, List.mem_append.2 (.inr h)⟩
  · rw [List.getElem?_set_ne (Ne.symm e)]
    constructor
    · exact .inl
    · rintro (h | ⟨h, _⟩)
      · exact h
      · exact absurd h e
structure LaidBy (D : Nat → Nat → Prop) (os : List (Nat × Nat)) (cnt : Nat) (em : Prop) (F L : Nat → Prop) (W : Nat → Nat → Prop) (a b : Nat) (m m' : Mach) : Prop where
  len : m.free.length ≤ m'.free.length
  ons : m'.ones = m.ones ++ os
  num : os.length = cnt
  stp : ∀ u v, m'.E u v ↔ m.E u v ∨ D u v
  side : Side D (fun u => m.free.length ≤ u ∧ u < m'.free.length) a b
  ah : ∀ p (h : p < os.length), os[p].1 = a ∨ (m.free.length ≤ os[p].1 ∧ os[p].1 < m'.free.length)
  bh : ∀ p (h : p < os.length), os[p].2 = b ∨ (m.free.length ≤ os[p].2 ∧ os[p].2 < m'.free.length)
  emp : Clo D a b ↔ em
  fsts : ∀ p (h : p < os.length), Clo D a os[p].1 ↔ F p
  lsts : ∀ p (h : p < os.length), Clo D os[p].2 b ↔ L p
  fols : ∀ p q (hp : p < os.length) (hq : q < os.length), Clo D os[p].2 os[q].1 ↔ W p q
def Laid (cnt : Nat) (em : Prop) (F L : Nat → Prop) (W : Nat → Nat → Prop) (a b : Nat) (m m' : Mach) : Prop := ∃ D os, LaidBy D os cnt em F L W a b m m'
theorem laid_nil (a b : Nat) (m : Mach) (ha : a < m.free.length) (hb : b < m.free.length) (hab : a ≠ b) (F L : Nat → Prop) (W : Nat → Nat → Prop) : Laid 0 True F L W a b m (m.join a [b]) := by
  refine ⟨fun u v => u = a ∧ v = b, [], ⟨by rw [Mach.join_len]; exact Nat.le_refl _, by simp [Mach.join], rfl, fun u v => ?_, ⟨fun u v h => .inl h.1, fun u v h => .inl h.2, fun h => by omega, fun h => by omega, hab⟩, fun p h => by simp at h, fun p h => by simp at h, ⟨fun _ => trivial, fun _ => .one ⟨rfl, rfl⟩⟩, fun p h => by simp at h, fun p h => by simp at h, fun p q h => by simp at h⟩⟩
  rw [Mach.join_E m a [b] ha]
  simp
theorem clo_none {u v : Nat} : Clo (fun _ _ => False) u v ↔ u = v := by
  constructor
  · intro h
    cases h with
    | refl => rfl
    | step r _ => exact r.elim
  · rintro rfl
    exact .refl _
theorem laid_one (f : Nat → Bool) (l : List Rx) (a b : Nat) (m : Mach) (ha : a < m.free.length) (hb : b < m.free.length) (hab : a ≠ b) : Laid 1 False (fun p => p = 0) (fun p => p = 0) (fun _ _ => False) a b m { m with ones := m.ones ++ [(a, b)] } := by
  refine ⟨fun _ _ => False, [(a, b)], ⟨Nat.le_refl _, rfl, rfl, fun u v => by simp [Mach.E], ⟨fun u v h => h.elim, fun u v h => h.elim, fun h => by omega, fun h => by omega, hab⟩, fun p h => ?_, fun p h => ?_, by rw [clo_none]; exact ⟨fun h => hab h, fun h => h.elim⟩, fun p h => ?_, fun p h => ?_, fun p q hp hq => ?_⟩⟩
  · have : p = 0 := by simpa using h
    subst this; exact .inl rfl
  · have : p = 0 := by simpa using h
    subst this; exact .inl rfl
  · have : p = 0 := by simpa using h
    subst this
    exact ⟨fun _ => rfl, fun _ => .refl _⟩
  · have : p = 0 := by simpa using h
    subst this
    exact ⟨fun _ => rfl, fun _ => .refl _⟩
  · have : p = 0 := by simpa using hp
    subst this
    have : q = 0 := by simpa using hq
    subst this
    rw [clo_none]
    exact ⟨fun h => hab h.symm, fun h => h.elim⟩
end Nf
namespace Nf
theorem two_rows {os1 os2 : List (Nat × Nat)} {n : Nat} (h1 : os1.length = n) (p : Nat) (h : p < (os1 ++ os2).length) :
    (∃ h1 : p < os1.length, (os1 ++ os2)[p] = os1[p] ∧ p < n) ∨ ∃ q, ∃ h2 : q < os2.length, p = n + q ∧ (os1 ++ os2)[p] = os2[q] := by
  by_cases hp : p < os1.length
  · exact .inl ⟨hp, List.getElem_append_left hp, by omega⟩
  · refine .inr ⟨p - os1.length, by simp at h; omega, by omega, ?_⟩
    rw [List.getElem_append_right (by omega)]
theorem laid_cat {x : Rx} {r : List Rx} {D1 D2 : Nat → Nat → Prop} {os1 os2 : List (Nat × Nat)} {a b : Nat} {m m2 m3 : Mach} (ha : a < m.free.length) (hb : b < m.free.length) (hab : a ≠ b)
    (H1 : LaidBy D1 os1 (ones x) (x.emp = true) (fst x) (lst x) (fol x) a m.free.length m.place m2) (H2 : LaidBy D2 os2 (onesL r) (Rx.empC r = true) (fstC r) (lstC r) (folC r) m.free.length b m2 m3) :
    LaidBy (or2 D1 D2) (os1 ++ os2) (onesL (x :: r)) (Rx.empC (x :: r) = true) (fstC (x :: r)) (lstC (x :: r)) (folC (x :: r)) a b m m3 := by
  obtain ⟨c, hc⟩ : ∃ c, m.free.length = c := ⟨_, rfl⟩
  have l1 := H1.len
  have l2 := H2.len
  have S1 := H1.side
  have S2 := H2.side
  have A1 := H1.ah
  have B1 := H1.bh
  have A2 := H2.ah
  have B2 := H2.bh
  rw [Mach.place_len] at l1 S1 A1 B1
  rw [hc] at ha hb l1 S1 S2 A1 B1 A2 H1 H2
  have hA : ∀ u v, D1 u v → ¬ (u = c ∨ u = b ∨ (m2.free.length ≤ u ∧ u < m3.free.length)) ∧ ((v = c ∨ v = b ∨ (m2.free.length ≤ v ∧ v < m3.free.length)) → v = c) := by
    intro u v h
    refine ⟨?_, ?_⟩
    · rcases S1.src u v h with e | e <;> omega
    · rcases S1.dst u v h with e | e <;> omega
  have hB : ∀ u v, D2 u v → (u = c ∨ u = b ∨ (m2.free.length ≤ u ∧ u < m3.free.length)) ∧ (v = c ∨ v = b ∨ (m2.free.length ≤ v ∧ v < m3.free.length)) := by
    intro u v h
    refine ⟨?_, ?_⟩
    · rcases S2.src u v h with e | e
      · exact .inl e
      · exact .inr (.inr e)
    · rcases S2.dst u v h with e | e
      · exact .inr (.inl e)
      · exact .inr (.inr e)
  have hA' := fun u v h => (hA u v h).1
  have hRa : ¬ (a = c ∨ a = b ∨ (m2.free.length ≤ a ∧ a < m3.free.length)) := by omega
  have hRb : b = c ∨ b = b ∨ (m2.free.length ≤ b ∧ b < m3.free.length) := .inr (.inl rfl)
  have hRc : c = c ∨ c = b ∨ (m2.free.length ≤ c ∧ c < m3.free.length) := .inl rfl
  have ahR1 : ∀ p (h : p < os1.length), ¬ (os1[p].1 = c ∨ os1[p].1 = b ∨ (m2.free.length ≤ os1[p].1 ∧ os1[p].1 < m3.free.length)) := fun p h => by
    rcases A1 p h with e | e <;> omega
  have ahR2 : ∀ p (h : p < os2.length), os2[p].1 = c ∨ os2[p].1 = b ∨ (m2.free.length ≤ os2[p].1 ∧ os2[p].1 < m3.free.length) := fun p h => by
    rcases A2 p h with e | e
    · exact .inl e
    · exact .inr (.inr e)
  have bhR2 : ∀ p (h : p < os2.length), os2[p].2 = c ∨ os2[p].2 = b ∨ (m2.free.length ≤ os2[p].2 ∧ os2[p].2 < m3.free.length) := fun p h => by
    rcases B2 p h with e | e
    · exact .inr (.inl e)
    · exact .inr (.inr e)
  have bh1 : ∀ p (h : p < os1.length), os1[p].2 = c ∨ ¬ (os1[p].2 = c ∨ os1[p].2 = b ∨ (m2.free.length ≤ os1[p].2 ∧ os1[p].2 < m3.free.length)) := fun p h => by
    rcases B1 p h with e | e
    · exact .inl e
    · right; omega
  refine ⟨by omega, by rw [H2.ons, H1.ons]; simp [Mach.place], by rw [List.length_append, H1.num, H2.num, onesL], fun u v => ?_, ⟨fun u v h => ?_, fun u v h => ?_, by omega, by omega, hab⟩, fun p h => ?_, fun p h => ?_, ?_, fun p h => ?_, fun p h => ?_, fun p q hp hq => ?_⟩
  · rw [H2.stp, H1.stp, Mach.place_E, or2, or_assoc]
  · rcases h with h | h
    · rcases S1.src u v h with e | e
      · exact .inl e
      · right; omega
    · rcases S2.src u v h with e | e
      · right; omega
      · right; omega
  · rcases h with h | h
    · rcases S1.dst u v h with e | e
      · right; omega
      · right; omega
    · rcases S2.dst u v h with e | e
      · exact .inl e
      · right; omega
  · rcases two_rows H1.num p h with ⟨h1, e, _⟩ | ⟨q, h2, rfl, e⟩
    · rw [e]; rcases A1 p h1 with e | e
      · exact .inl e
      · right; omega
    · rw [e]; rcases A2 q h2 with e | e
      · right; omega
      · right; omega
  · rcases two_rows H1.num p h with ⟨h1, e, _⟩ | ⟨q, h2, rfl, e⟩
    · rw [e]; rcases B1 p h1 with e | e
      · right; omega
      · right; omega
    · rw [e]; rcases B2 q h2 with e | e
      · exact .inl e
      · right; omega
  · rw [seq_over hA hB hRa hRb, H1.emp, H2.emp, Rx.empC, Bool.and_eq_true]
  · rcases two_rows H1.num p h with ⟨h1, e, hp⟩ | ⟨q, h2, rfl, e⟩
    · rw [e, seq_left hB hA' hRa (ahR1 p h1), H1.fsts p h1, fstC_lo hp]
    · rw [e, seq_over hA hB hRa (ahR2 q h2), H1.emp, H2.fsts q h2, fstC_hi]
  · rcases two_rows H1.num p h with ⟨h1, e, hp⟩ | ⟨q, h2, rfl, e⟩
    · rw [e, lstC_lo hp, ← H1.lsts p h1, ← H2.emp]
      rcases bh1 p h1 with eb | eb
      · rw [eb, seq_right hA' hB hRc]
        exact ⟨fun h => ⟨.refl _, h⟩, fun h => h.2⟩
      · rw [seq_over hA hB eb hRb]
    · rw [e, seq_right hA' hB (bhR2 q h2), H2.lsts q h2, lstC_hi]
  · have stay : ∀ {u v : Nat}, Clo D2 u v → (u = c ∨ u = b ∨ (m2.free.length ≤ u ∧ u < m3.free.length)) → (v = c ∨ v = b ∨ (m2.free.length ≤ v ∧ v < m3.free.length)) := by
      intro u v h
      induction h with
      | refl => exact fun h => h
      | step r _ ih => exact fun _ => ih (hB _ _ r).2
    rcases two_rows H1.num p hp with ⟨h1, e, hpn⟩ | ⟨p', h2, rfl, e⟩
    · rcases two_rows H1.num q hq with ⟨h3, e', hqn⟩ | ⟨q', h4, rfl, e'⟩
      · rw [e, e', folC_ll hpn hqn, ← H1.fols p q h1 h3]
        rcases bh1 p h1 with eb | eb
        · rw [eb, seq_right hA' hB hRc]
          constructor
          · intro h; exact absurd (stay h hRc) (ahR1 q h3)
          · intro h
            have := S1.end_.1 h
            exact absurd (.inl this) (ahR1 q h3)
        · rw [seq_left hB hA' eb (ahR1 q h3)]
      · rw [e, e', folC_lh hpn, ← H1.lsts p h1, ← H2.fsts q' h4]
        rcases bh1 p h1 with eb | eb
        · rw [eb, seq_right hA' hB hRc]
          exact ⟨fun h => ⟨.refl _, h⟩, fun h => h.2⟩
        · rw [seq_over hA hB eb (ahR2 q' h4)]
    · rcases two_rows H1.num q hq with ⟨h3, e', hqn⟩ | ⟨q', h4, rfl, e'⟩
      · rw [e, e', seq_right hA' hB (bhR2 p' h2)]
        constructor
        · intro h; exact absurd (stay h (bhR2 p' h2)) (ahR1 q h3)
        · intro h; exact absurd h (folC_hl hqn)
      · rw [e, e', seq_right hA' hB (bhR2 p' h2), H2.fols p' q' h2 h4, folC_hh]
theorem laid_alt {x : Rx} {r : List Rx} {D1 D2 : Nat → Nat → Prop} {os1 os2 : List (Nat × Nat)} {a b : Nat} {m m2 m3 : Mach} (ha : a < m.free.length) (hb : b < m.free.length) (hab : a ≠ b)
    (H1 : LaidBy D1 os1 (ones x) (x.emp = true) (fst x) (lst x) (fol x) a b m m2) (H2 : LaidBy D2 os2 (onesL r) (Rx.empA r = true) (fstA r) (lstA r) (folA r) a b m2 m3) :
    LaidBy (or2 D1 D2) (os1 ++ os2) (onesL (x :: r)) (Rx.empA (x :: r) = true) (fstA (x :: r)) (lstA (x :: r)) (folA (x :: r)) a b m m3 := by
  have l1 := H1.len
  have l2 := H2.len
  have S1 := H1.side
  have S2 := H2.side
  have A1 := H1.ah
  have B1 := H1.bh
  have A2 := H2.ah
  have B2 := H2.bh
  have hXY : ∀ u, (m.free.length ≤ u ∧ u < m2.free.length) → ¬ (m2.free.length ≤ u ∧ u < m3.free.length) := fun u h => by omega
  have hYX : ∀ u, (m2.free.length ≤ u ∧ u < m3.free.length) → ¬ (m.free.length ≤ u ∧ u < m2.free.length) := fun u h => by omega
  have SB := S1.both S2
  -- from what is behind a One of the first
  have from1 : ∀ p (h : p < os1.length) v, Clo (or2 D1 D2) os1[p].2 v ↔ Clo D1 os1[p].2 v := fun p h v => by
    rcases B1 p h with e | e
    · rw [e, SB.end_, S1.end_]
    · exact side_in S1 S2 hXY e
  have from2 : ∀ p (h : p < os2.length) v, Clo (or2 D1 D2) os2[p].2 v ↔ Clo D2 os2[p].2 v := fun p h v => by
    rcases B2 p h with e | e
    · rw [e, SB.end_, S2.end_]
    · rw [or2_comm]; exact side_in S2 S1 hYX e
  have reach1 : ∀ p (h : p < os1.length) v, Clo D1 os1[p].2 v → v = b ∨ (m.free.length ≤ v ∧ v < m2.free.length) := fun p h v hc => by
    rcases B1 p h with e | e
    · rw [e] at hc; exact .inl (S1.end_.1 hc)
    · exact (S1.inside hc e).symm
  have reach2 : ∀ p (h : p < os2.length) v, Clo D2 os2[p].2 v → v = b ∨ (m2.free.length ≤ v ∧ v < m3.free.length) := fun p h v hc => by
    rcases B2 p h with e | e
    · rw [e] at hc; exact .inl (S2.end_.1 hc)
    · exact (S2.inside hc e).symm
  -- from the beginning
  have far1 : ∀ v, Clo D1 a v → v = a ∨ v = b ∨ (m.free.length ≤ v ∧ v < m2.free.length) := fun v hc => by
    cases hc with
    | refl => exact .inl rfl
    | step r h =>
      rcases S1.dst _ _ r with e | e
      · subst e; exact .inr (.inl (S1.end_.1 h))
      · rcases S1.inside h e with h | h
        · exact .inr (.inr h)
        · exact .inr (.inl h)
  have far2 : ∀ v, Clo D2 a v → v = a ∨ v = b ∨ (m2.free.length ≤ v ∧ v < m3.free.length) := fun v hc => by
    cases hc with
    | refl => exact .inl rfl
    | step r h =>
      rcases S2.dst _ _ r with e | e
      · subst e; exact .inr (.inl (S2.end_.1 h))
      · rcases S2.inside h e with h | h
        · exact .inr (.inr h)
        · exact .inr (.inl h)
  refine ⟨by omega, by rw [H2.ons, H1.ons, List.append_assoc], by rw [List.length_append, H1.num, H2.num, onesL], fun u v => ?_, ⟨fun u v h => ?_, fun u v h => ?_, by omega, by omega, hab⟩, fun p h => ?_, fun p h => ?_, ?_, fun p h => ?_, fun p h => ?_, fun p q hp hq => ?_⟩
  · rw [H2.stp, H1.stp, or2, or_assoc]
  · rcases h with h | h
    · rcases S1.src u v h with e | e
      · exact .inl e
      · right; omega
    · rcases S2.src u v h with e | e
      · exact .inl e
      · right; omega
  · rcases h with h | h
    · rcases S1.dst u v h with e | e
      · exact .inl e
      · right; omega
    · rcases S2.dst u v h with e | e
      · exact .inl e
      · right; omega
  · rcases two_rows H1.num p h with ⟨h1, e, _⟩ | ⟨q, h2, rfl, e⟩
    · rw [e]; rcases A1 p h1 with e | e
      · exact .inl e
      · right; omega
    · rw [e]; rcases A2 q h2 with e | e
      · exact .inl e
      · right; omega
  · rcases two_rows H1.num p h with ⟨h1, e, _⟩ | ⟨q, h2, rfl, e⟩
    · rw [e]; rcases B1 p h1 with e | e
      · exact .inl e
      · right; omega
    · rw [e]; rcases B2 q h2 with e | e
      · exact .inl e
      · right; omega
  · rw [side_from S1 S2 hXY, H1.emp, H2.emp, Rx.empA, Bool.or_eq_true]
  · rcases two_rows H1.num p h with ⟨h1, e, hp⟩ | ⟨q, h2, rfl, e⟩
    · rw [e, side_from S1 S2 hXY, fstA_lo hp, ← H1.fsts p h1]
      constructor
      · rintro (h | h)
        · exact h
        · rcases far2 _ h with e | e | e
          · rw [e]; exact .refl _
          · rcases A1 p h1 with e' | e' <;> omega
          · rcases A1 p h1 with e' | e' <;> omega
      · exact .inl
    · rw [e, side_from S1 S2 hXY, fstA_hi, ← H2.fsts q h2]
      constructor
      · rintro (h | h)
        · rcases far1 _ h with e | e | e
          · rw [e]; exact .refl _
          · rcases A2 q h2 with e' | e' <;> omega
          · rcases A2 q h2 with e' | e' <;> omega
        · exact h
      · exact .inr
  · rcases two_rows H1.num p h with ⟨h1, e, hp⟩ | ⟨q, h2, rfl, e⟩
    · rw [e, from1 p h1, H1.lsts p h1, lstA_lo hp]
    · rw [e, from2 q h2, H2.lsts q h2, lstA_hi]
  · rcases two_rows H1.num p hp with ⟨h1, e, hpn⟩ | ⟨p', h2, rfl, e⟩
    · rcases two_rows H1.num q hq with ⟨h3, e', hqn⟩ | ⟨q', h4, rfl, e'⟩
      · rw [e, e', from1 p h1, H1.fols p q h1 h3, folA_ll hpn]
      · rw [e, e', from1 p h1]
        constructor
        · intro h
          rcases reach1 p h1 _ h with e2 | e2 <;> rcases A2 q' h4 with e3 | e3 <;> omega
        · intro h
          rw [folA_ll hpn] at h
          have := (fol_lt _ _ _ h).2
          omega
    · rcases two_rows H1.num q hq with ⟨h3, e', hqn⟩ | ⟨q', h4, rfl, e'⟩
      · rw [e, e', from2 p' h2]
        constructor
        · intro h
          rcases reach2 p' h2 _ h with e2 | e2 <;> rcases A1 q h3 with e3 | e3 <;> omega
        · intro h; exact absurd h (folA_hl hqn)
      · rw [e, e', from2 p' h2, H2.fols p' q' h2 h4, folA_hh]
end Nf
namespace Nf
theorem Laid.turn {cnt cnt' : Nat} {em em' : Prop} {F F' L L' : Nat → Prop} {W W' : Nat → Nat → Prop} {a b : Nat} {m m' : Mach} (h : Laid cnt em F L W a b m m') (hc : cnt = cnt') (he : em ↔ em') (hF : ∀ p, p < cnt → (F p ↔ F' p)) (hL : ∀ p, p < cnt → (L p ↔ L' p)) (hW : ∀ p q, p < cnt → q < cnt → (W p q ↔ W' p q)) : Laid cnt' em' F' L' W' a b m m' := by
  obtain ⟨D, os, H⟩ := h
  have hn := H.num
  exact ⟨D, os, ⟨H.len, H.ons, by omega, H.stp, H.side, H.ah, H.bh, H.emp.trans he, fun p h => (H.fsts p h).trans (hF p (by omega)), fun p h => (H.lsts p h).trans (hL p (by omega)), fun p q hp hq => (H.fols p q hp hq).trans (hW p q (by omega) (by omega))⟩⟩
theorem laid_star {x : Rx} {D : Nat → Nat → Prop} {os : List (Nat × Nat)} {a b : Nat} {m m2 : Mach} (ha : a < m.free.length) (hb : b < m.free.length) (hab : a ≠ b)
    (H : LaidBy D os (ones x) (x.emp = true) (fst x) (lst x) (fol x) m.free.length (m.free.length + 1) m.place.place m2) :
    Laid (ones x) True (fst x) (lst x) (fun p q => fol x p q ∨ (lst x p ∧ fst x q)) a b m ((m2.join a [m.free.length, b]).join (m.free.length + 1) [m.free.length, b]) := by
  obtain ⟨N, hN⟩ : ∃ N, m.free.length = N := ⟨_, rfl⟩
  have l1 := H.len
  have S := H.side
  have A := H.ah
  have B := H.bh
  rw [Mach.place_len, Mach.place_len] at l1 S A B
  rw [hN] at ha hb l1 S A B H ⊢
  have haX : ¬ (N + 1 + 1 ≤ a ∧ a < m2.free.length) := by omega
  have hbX : ¬ (N + 1 + 1 ≤ b ∧ b < m2.free.length) := by omega
  have inA : ∀ p (h : p < os.length), (N + 1 + 1 ≤ os[p].1 ∧ os[p].1 < m2.free.length) ∨ os[p].1 = N := fun p h => (A p h).symm
  have inB : ∀ p (h : p < os.length), (N + 1 + 1 ≤ os[p].2 ∧ os[p].2 < m2.free.length) ∨ os[p].2 = N ∨ os[p].2 = N + 1 := fun p h => by
    rcases B p h with e | e
    · exact .inr (.inr e)
    · exact .inl e
  have hl1 : ((m2.join a [N, b]).join (N + 1) [N, b]).free.length = m2.free.length := by rw [Mach.join_len, Mach.join_len]
  refine ⟨or2 D (ring a b N (N + 1)), os, ⟨by rw [hl1]; omega, by simp [Mach.join, H.ons, Mach.place], H.num, fun u v => ?_, ⟨fun u v h => ?_, fun u v h => ?_, by omega, by omega, hab⟩, fun p h => ?_, fun p h => ?_, ⟨fun _ => trivial, fun _ => .one (.inr ⟨.inl rfl, .inr rfl⟩)⟩, fun p h => ?_, fun p h => ?_, fun p q hp hq => ?_⟩⟩
  · rw [Mach.join_E _ _ _ (by rw [Mach.join_len]; omega), Mach.join_E _ _ _ (by omega), H.stp, Mach.place_E, Mach.place_E]
    simp only [or2, ring, List.mem_cons, List.not_mem_nil, or_false]
    constructor
    · rintro (((h | h) | ⟨h1, h2⟩) | ⟨h1, h2⟩)
      · exact .inl h
      · exact .inr (.inl h)
      · exact .inr (.inr ⟨.inl h1, h2⟩)
      · exact .inr (.inr ⟨.inr h1, h2⟩)
    · rintro (h | h | ⟨h1 | h1, h2⟩)
      · exact .inl (.inl (.inl h))
      · exact .inl (.inl (.inr h))
      · exact .inl (.inr ⟨h1, h2⟩)
      · exact .inr ⟨h1, h2⟩
  · rw [hl1]
    rcases h with h | ⟨h | h, _⟩
    · rcases S.src u v h with e | e <;> (right; omega)
    · exact .inl h
    · right; omega
  · rw [hl1]
    rcases h with h | ⟨_, h | h⟩
    · rcases S.dst u v h with e | e <;> (right; omega)
    · right; omega
    · exact .inl h
  · rw [hl1]; rcases A p h with e | e <;> (right; omega)
  · rw [hl1]; rcases B p h with e | e <;> (right; omega)
  · rw [ring_from S haX hbX (by omega) (by omega) (by omega) (by omega) hab (inA p h)]
    exact H.fsts p h
  · rw [ring_out S haX hbX (by omega) (by omega) (by omega) (by omega) (inB p h)]
    exact H.lsts p h
  · rw [ring_in S haX hbX (by omega) (by omega) (by omega) (by omega) hab (inB p hp) (inA q hq), H.fols p q hp hq, H.lsts p hp, H.fsts q hq]
mutual
theorem lay_spec : ∀ (x : Rx), x.wf = true → ∀ (a b : Nat) (m : Mach), a < m.free.length → b < m.free.length → a ≠ b → Laid (ones x) (x.emp = true) (fst x) (lst x) (fol x) a b m (lay x a b m)
  | .node 0 f l, hw, a, b, m, ha, hb, hab => by
    have hl : l = [] := by
      simp only [Rx.wf, Bool.and_eq_true] at hw
      have := hw.1.1.2
      cases l with
      | nil => rfl
      | cons y r => simp at this
    subst hl
    rw [lay]
    exact (laid_nil a b m ha hb hab (fun _ => False) (fun _ => False) (fun _ _ => False)).turn (by simp [ones, onesL]) (by simp [Rx.emp]) (fun p hp => by omega) (fun p hp => by omega) (fun p q hp => by omega)
  | .node 1 f l, hw, a, b, m, ha, hb, hab => by
    rw [lay]
    exact (laid_one f l a b m ha hb hab).turn (by simp [ones]) (by simp [Rx.emp]) (fun p hp => by simp [fst]) (fun p hp => by simp [lst]) (fun p q hp hq => by simp [fol])
  | .node 2 f l, hw, a, b, m, ha, hb, hab => by
    have hl : Rx.wfL l = true := by simp only [Rx.wf, Bool.and_eq_true] at hw; exact hw.2
    rw [lay]
    exact (layC_spec l hl a b m ha hb hab).turn (by rw [ones_kids f l (by decide)]) (by simp [Rx.emp]) (fun p hp => by simp only [fst]) (fun p hp => by simp only [lst]) (fun p q hp hq => by simp only [fol])
  | .node 3 f l, hw, a, b, m, ha, hb, hab => by
    have hl : Rx.wfL l = true := by simp only [Rx.wf, Bool.and_eq_true] at hw; exact hw.2
    rw [lay]
    exact (layA_spec l hl a b m ha hb hab).turn (by rw [ones_kids f l (by decide)]) (by simp [Rx.emp]) (fun p hp => by simp only [fst]) (fun p hp => by simp only [lst]) (fun p q hp hq => by simp only [fol])
  | .node (c + 4) f l, hw, a, b, m, ha, hb, hab => by
    have hl : Rx.wfL l = true := by simp only [Rx.wf, Bool.and_eq_true] at hw; exact hw.2
    have hc : c = 0 := by simp only [Rx.wf, Bool.and_eq_true, decide_eq_true_eq] at hw; omega
    subst hc
    have h1 : l.length = 1 := by
      simp only [Rx.wf, Bool.and_eq_true] at hw
      simpa using hw.1.2
    match l, h1, hl with
    | [x], _, hl =>
      simp only [Rx.wfL, Bool.and_eq_true] at hl
      rw [lay, layS]
      obtain ⟨D, os, H⟩ := lay_spec x hl.1 m.free.length (m.free.length + 1) m.place.place (by rw [Mach.place_len, Mach.place_len]; omega) (by rw [Mach.place_len, Mach.place_len]; omega) (by omega)
      refine (laid_star ha hb hab H).turn (by rw [ones_kids f [x] (by decide)]; simp [onesL]) (by simp [Rx.emp]) (fun p hp => ?_) (fun p hp => ?_) (fun p q hp hq => ?_)
      · simp only [fst]; exact (fstA_lo hp).symm
      · simp only [lst]; exact (lstA_lo hp).symm
      · simp only [fol]
        rw [folA_ll hp, lstA_lo hp, fstA_lo hq]
theorem layC_spec : ∀ (l : List Rx), Rx.wfL l = true → ∀ (a b : Nat) (m : Mach), a < m.free.length → b < m.free.length → a ≠ b → Laid (onesL l) (Rx.empC l = true) (fstC l) (lstC l) (folC l) a b m (layC l a b m)
  | [], _, a, b, m, ha, hb, hab => by
    rw [layC]
    exact (laid_nil a b m ha hb hab (fun _ => False) (fun _ => False) (fun _ _ => False)).turn (by simp [onesL]) (by simp [Rx.empC]) (fun p hp => by omega) (fun p hp => by omega) (fun p q hp => by omega)
  | x :: r, hw, a, b, m, ha, hb, hab => by
    simp only [Rx.wfL, Bool.and_eq_true] at hw
    rw [layC]
    obtain ⟨D1, os1, H1⟩ := lay_spec x hw.1 a m.free.length m.place (by rw [Mach.place_len]; omega) (by rw [Mach.place_len]; omega) (by omega)
    have hl := H1.len
    rw [Mach.place_len] at hl
    obtain ⟨D2, os2, H2⟩ := layC_spec r hw.2 m.free.length b (lay x a m.free.length m.place) (by omega) (by omega) (by omega)
    exact ⟨_, _, laid_cat ha hb hab H1 H2⟩
theorem layA_spec : ∀ (l : List Rx), Rx.wfL l = true → ∀ (a b : Nat) (m : Mach), a < m.free.length → b < m.free.length → a ≠ b → Laid (onesL l) (Rx.empA l = true) (fstA l) (lstA l) (folA l) a b m (layA l a b m)
  | [], _, a, b, m, ha, hb, hab => by
    rw [layA]
    refine ⟨fun _ _ => False, [], ⟨Nat.le_refl _, by simp, by simp [onesL], fun u v => by simp, ⟨fun u v h => h.elim, fun u v h => h.elim, fun h => by omega, fun h => by omega, hab⟩, fun p h => by simp at h, fun p h => by simp at h, ?_, fun p h => by simp at h, fun p h => by simp at h, fun p q h => by simp at h⟩⟩
    rw [clo_none]
    simp [Rx.empA, hab]
  | x :: r, hw, a, b, m, ha, hb, hab => by
    simp only [Rx.wfL, Bool.and_eq_true] at hw
    rw [layA]
    obtain ⟨D1, os1, H1⟩ := lay_spec x hw.1 a b m ha hb hab
    have hl := H1.len
    obtain ⟨D2, os2, H2⟩ := layA_spec r hw.2 a b (lay x a b m) (by omega) (by omega) hab
    exact ⟨_, _, laid_alt ha hb hab H1 H2⟩
end
end Nf
namespace Nf
def build : List Rx → Mach → Mach
  | [], m => m
  | x :: r, m => build r (lay x m.free.length (m.free.length + 1) m.place.place)
def ends : List Rx → Mach → List (Nat × Nat)
  | [], _ => []
  | x :: r, m => (m.free.length, m.free.length + 1) :: ends r (lay x m.free.length (m.free.length + 1) m.place.place)
def rfst : List Rx → Nat → Nat → Prop
  | [], _, _ => False
  | x :: _, 0, j => fst x j
  | x :: l, r + 1, j => ∃ q, j = ones x + q ∧ rfst l r q
def rlst : List Rx → Nat → Nat → Prop
  | [], _, _ => False
  | x :: _, 0, j => lst x j
  | x :: l, r + 1, j => ∃ q, j = ones x + q ∧ rlst l r q
def remp : List Rx → Nat → Prop
  | [], _ => False
  | x :: _, 0 => x.emp = true
  | _ :: l, r + 1 => remp l r
theorem apart_in {A B : Nat → Nat → Prop} {X Y : Nat → Prop} (hA : ∀ u v, A u v → X u ∧ X v) (hB : ∀ u v, B u v → Y u ∧ Y v) (hXY : ∀ u, X u → ¬ Y u) {u v : Nat} (hu : X u) : Clo (or2 A B) u v ↔ Clo A u v := by
  constructor
  · intro h
    induction h with
    | refl => exact .refl _
    | step r _ ih =>
      rcases r with r | r
      · exact .step r (ih (hA _ _ r).2)
      · exact absurd (hB _ _ r).1 (hXY _ hu)
  · exact clo_l
theorem stay {A : Nat → Nat → Prop} {X : Nat → Prop} (hA : ∀ u v, A u v → X u ∧ X v) {u v : Nat} (h : Clo A u v) : X u → X v := by
  induction h with
  | refl => exact fun h => h
  | step r _ ih => exact fun _ => ih (hA _ _ r).2
structure Built (D : Nat → Nat → Prop) (os : List (Nat × Nat)) (l : List Rx) (m m' : Mach) : Prop where
  len : m.free.length ≤ m'.free.length
  ons : m'.ones = m.ones ++ os
  num : os.length = onesL l
  cnt : (ends l m).length = l.length
  stp : ∀ u v, m'.E u v ↔ m.E u v ∨ D u v
  inn : ∀ u v, D u v → (m.free.length ≤ u ∧ u < m'.free.length) ∧ (m.free.length ≤ v ∧ v < m'.free.length)
  ose : ∀ p (h : p < os.length), (m.free.length ≤ os[p].1 ∧ os[p].1 < m'.free.length) ∧ (m.free.length ≤ os[p].2 ∧ os[p].2 < m'.free.length)
  ens : ∀ r (h : r < (ends l m).length), (m.free.length ≤ (ends l m)[r].1 ∧ (ends l m)[r].1 < m'.free.length) ∧ (m.free.length ≤ (ends l m)[r].2 ∧ (ends l m)[r].2 < m'.free.length)
  emp : ∀ r r' (h : r < (ends l m).length) (h' : r' < (ends l m).length), Clo D (ends l m)[r].1 (ends l m)[r'].2 ↔ r = r' ∧ remp l r
  fsts : ∀ r p (h : r < (ends l m).length) (hp : p < os.length), Clo D (ends l m)[r].1 os[p].1 ↔ rfst l r p
  lsts : ∀ r p (h : r < (ends l m).length) (hp : p < os.length), Clo D os[p].2 (ends l m)[r].2 ↔ rlst l r p
  fols : ∀ p q (hp : p < os.length) (hq : q < os.length), Clo D os[p].2 os[q].1 ↔ folA l p q
theorem rfst_lo {x : Rx} {l : List Rx} {r p : Nat} (hp : p < ones x) : rfst (x :: l) r p ↔ r = 0 ∧ fst x p := by
  cases r with
  | zero => simp [rfst]
  | succ r =>
    simp only [rfst]
    constructor
    · rintro ⟨q, rfl, _⟩; omega
    · rintro ⟨h, _⟩; omega
theorem rlst_lo {x : Rx} {l : List Rx} {r p : Nat} (hp : p < ones x) : rlst (x :: l) r p ↔ r = 0 ∧ lst x p := by
  cases r with
  | zero => simp [rlst]
  | succ r =>
    simp only [rlst]
    constructor
    · rintro ⟨q, rfl, _⟩; omega
    · rintro ⟨h, _⟩; omega
theorem build_spec : ∀ (l : List Rx), Rx.wfL l = true → ∀ (m : Mach), ∃ D os, Built D os l m (build l m)
  | [], _, m => ⟨fun _ _ => False, [], ⟨Nat.le_refl _, by simp [build], rfl, rfl, fun u v => by simp [build], fun u v h => h.elim, fun p h => by simp at h, fun r h => by simp [ends] at h, fun r r' h => by simp [ends] at h, fun r p h => by simp [ends] at h, fun r p h => by simp [ends] at h, fun p q h => by simp at h⟩⟩
  | x :: l, hw, m => by
    simp only [Rx.wfL, Bool.and_eq_true] at hw
    obtain ⟨N, hN⟩ : ∃ N, m.free.length = N := ⟨_, rfl⟩
    obtain ⟨D1, os1, H1⟩ := lay_spec x hw.1 m.free.length (m.free.length + 1) m.place.place (by rw [Mach.place_len, Mach.place_len]; omega) (by rw [Mach.place_len, Mach.place_len]; omega) (by omega)
    obtain ⟨D2, os2, H2⟩ := build_spec l hw.2 (lay x m.free.length (m.free.length + 1) m.place.place)
    have l1 := H1.len
    have S1 := H1.side
    have A1 := H1.ah
    have B1 := H1.bh
    rw [Mach.place_len, Mach.place_len] at l1 S1 A1 B1
    have l2 := H2.len
    obtain ⟨m2, hm2⟩ : ∃ m2, lay x m.free.length (m.free.length + 1) m.place.place = m2 := ⟨_, rfl⟩
    have hbuild : build (x :: l) m = build l m2 := by rw [build, hm2]
    have hends : ends (x :: l) m = (m.free.length, m.free.length + 1) :: ends l m2 := by rw [ends, hm2]
    rw [hm2] at H1 H2 l1 S1 A1 B1 l2
    rw [hN] at H1 l1 S1 A1 B1 hends
    refine ⟨or2 D1 D2, os1 ++ os2, ?_⟩
    have i1 : ∀ u v, D1 u v → (N ≤ u ∧ u < m2.free.length) ∧ (N ≤ v ∧ v < m2.free.length) := fun u v h => by
      have h1 := S1.src u v h
      have h2 := S1.dst u v h
      omega
    have i2 := H2.inn
    have hXY : ∀ u, (N ≤ u ∧ u < m2.free.length) → ¬ (m2.free.length ≤ u ∧ u < (build l m2).free.length) := fun u h => by omega
    have hYX : ∀ u, (m2.free.length ≤ u ∧ u < (build l m2).free.length) → ¬ (N ≤ u ∧ u < m2.free.length) := fun u h => by omega
    have in1 : ∀ {u v : Nat}, (N ≤ u ∧ u < m2.free.length) → (Clo (or2 D1 D2) u v ↔ Clo D1 u v) := fun hu => apart_in i1 i2 hXY hu
    have in2 : ∀ {u v : Nat}, (m2.free.length ≤ u ∧ u < (build l m2).free.length) → (Clo (or2 D1 D2) u v ↔ Clo D2 u v) := fun hu => by rw [or2_comm]; exact apart_in i2 i1 hYX hu
    have no1 : ∀ {u v : Nat}, (N ≤ u ∧ u < m2.free.length) → (m2.free.length ≤ v ∧ v < (build l m2).free.length) → ¬ Clo D1 u v := fun hu hv h => hXY _ (stay i1 h hu) hv
    have no2 : ∀ {u v : Nat}, (m2.free.length ≤ u ∧ u < (build l m2).free.length) → (N ≤ v ∧ v < m2.free.length) → ¬ Clo D2 u v := fun hu hv h => hYX _ (stay i2 h hu) hv
    have a1 : ∀ p (h : p < os1.length), N ≤ os1[p].1 ∧ os1[p].1 < m2.free.length := fun p h => by rcases A1 p h with e | e <;> omega
    have b1 : ∀ p (h : p < os1.length), N ≤ os1[p].2 ∧ os1[p].2 < m2.free.length := fun p h => by rcases B1 p h with e | e <;> omega
    have s0 : N ≤ N ∧ N < m2.free.length := by omega
    have s1 : N ≤ N + 1 ∧ N + 1 < m2.free.length := by omega
    constructor
    · rw [hbuild]; omega
    · rw [hbuild, H2.ons, H1.ons]; simp [Mach.place]
    · rw [List.length_append, H1.num, H2.num, onesL]
    · rw [hends]; simp [H2.cnt]
    · intro u v
      rw [hbuild, H2.stp, H1.stp, Mach.place_E, Mach.place_E, or2, or_assoc]
    · intro u v h
      rw [hbuild]
      rcases h with h | h
      · have := i1 u v h; omega
      · have := i2 u v h; omega
    · intro p h
      rw [hbuild]
      rcases two_rows H1.num p h with ⟨h1, e, _⟩ | ⟨q, h2, rfl, e⟩
      · rw [e]; have := a1 p h1; have := b1 p h1; omega
      · rw [e]; have := H2.ose q h2; omega
    · intro r h
      rw [hbuild]
      simp only [hends] at h ⊢
      cases r with
      | zero => simp only [List.getElem_cons_zero]; omega
      | succ r => simp only [List.getElem_cons_succ]; have := H2.ens r (by simpa using h); omega
    · intro r r' h h'
      simp only [hends] at h h' ⊢
      cases r with
      | zero =>
        simp only [List.getElem_cons_zero]
        cases r' with
        | zero => simp only [List.getElem_cons_zero]; rw [in1 s0, H1.emp]; simp [remp]
        | succ r' =>
          simp only [List.getElem_cons_succ]
          rw [in1 s0]
          constructor
          · intro h3; exact absurd h3 (no1 s0 (H2.ens r' (by simpa using h')).2)
          · rintro ⟨h3, _⟩; omega
      | succ r =>
        have hr : r < (ends l m2).length := by simpa using h
        simp only [List.getElem_cons_succ]
        cases r' with
        | zero =>
          simp only [List.getElem_cons_zero]
          rw [in2 (H2.ens r hr).1]
          constructor
          · intro h3; exact absurd h3 (no2 (H2.ens r hr).1 s1)
          · rintro ⟨h3, _⟩; omega
        | succ r' =>
          simp only [List.getElem_cons_succ]
          rw [in2 (H2.ens r hr).1, H2.emp r r' hr (by simpa using h')]
          simp [remp]
    · intro r p h hp
      simp only [hends] at h ⊢
      rcases two_rows H1.num p hp with ⟨h1, e, hpn⟩ | ⟨q, h2, rfl, e⟩
      · rw [e, rfst_lo hpn]
        cases r with
        | zero =>
          simp only [List.getElem_cons_zero]
          rw [in1 s0, H1.fsts p h1]
          simp
        | succ r =>
          have hr : r < (ends l m2).length := by simpa using h
          simp only [List.getElem_cons_succ]
          rw [in2 (H2.ens r hr).1]
          constructor
          · intro h3; exact absurd h3 (no2 (H2.ens r hr).1 (a1 p h1))
          · rintro ⟨h3, _⟩; omega
      · rw [e]
        cases r with
        | zero =>
          simp only [List.getElem_cons_zero]
          rw [in1 s0]
          constructor
          · intro h3; exact absurd h3 (no1 s0 (H2.ose q h2).1)
          · intro h3
            simp only [rfst] at h3
            have := fst_lt _ _ h3
            omega
        | succ r =>
          have hr : r < (ends l m2).length := by simpa using h
          simp only [List.getElem_cons_succ]
          rw [in2 (H2.ens r hr).1, H2.fsts r q hr h2]
          simp only [rfst]
          constructor
          · exact fun h3 => ⟨q, rfl, h3⟩
          · rintro ⟨q', e', h3⟩
            obtain rfl : q' = q := by omega
            exact h3
    · intro r p h hp
      simp only [hends] at h ⊢
      rcases two_rows H1.num p hp with ⟨h1, e, hpn⟩ | ⟨q, h2, rfl, e⟩
      · rw [e, rlst_lo hpn, in1 (b1 p h1)]
        cases r with
        | zero =>
          simp only [List.getElem_cons_zero]
          rw [H1.lsts p h1]
          simp
        | succ r =>
          have hr : r < (ends l m2).length := by simpa using h
          simp only [List.getElem_cons_succ]
          constructor
          · intro h3; exact absurd h3 (no1 (b1 p h1) (H2.ens r hr).2)
          · rintro ⟨h3, _⟩; omega
      · rw [e, in2 (H2.ose q h2).2]
        cases r with
        | zero =>
          simp only [List.getElem_cons_zero]
          constructor
          · intro h3; exact absurd h3 (no2 (H2.ose q h2).2 s1)
          · intro h3
            simp only [rlst] at h3
            have := lst_lt _ _ h3
            omega
        | succ r =>
          have hr : r < (ends l m2).length := by simpa using h
          simp only [List.getElem_cons_succ]
          rw [H2.lsts r q hr h2]
          simp only [rlst]
          constructor
          · exact fun h3 => ⟨q, rfl, h3⟩
          · rintro ⟨q', e', h3⟩
            obtain rfl : q' = q := by omega
            exact h3
    · intro p q hp hq
      rcases two_rows H1.num p hp with ⟨h1, e, hpn⟩ | ⟨p', h2, rfl, e⟩
      · rw [e, in1 (b1 p h1)]
        rcases two_rows H1.num q hq with ⟨h3, e', hqn⟩ | ⟨q', h4, rfl, e'⟩
        · rw [e', H1.fols p q h1 h3, folA_ll hpn]
        · rw [e']
          constructor
          · intro h; exact absurd h (no1 (b1 p h1) (H2.ose q' h4).1)
          · intro h
            rw [folA_ll hpn] at h
            have := (fol_lt _ _ _ h).2
            omega
      · rw [e, in2 (H2.ose p' h2).2]
        rcases two_rows H1.num q hq with ⟨h3, e', hqn⟩ | ⟨q', h4, rfl, e'⟩
        · rw [e']
          constructor
          · intro h; exact absurd h (no2 (H2.ose p' h2).2 (a1 q h3))
          · intro h; exact absurd h (folA_hl hqn)
        · rw [e', H2.fols p' q' h2 h4, folA_hh]
end Nf
end Go.Proofs.Ythapedadnbkgnaa
