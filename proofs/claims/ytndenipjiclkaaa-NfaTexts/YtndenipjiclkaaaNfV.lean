/- The places of Ones, kid by kid from the left: plain facts. The document's parts of a machine: plain facts: rising rows that hold just the Ones that may be first, last, and behind each. -/
import Derived.Test.YtndenipjiclkaaaNfT
import Derived.Test.YtndenipjiclkaaaNfC
namespace Go.Proofs.Ytndenipjiclkaaa
set_option linter.unusedVariables false
set_option linter.unusedSimpArgs false
namespace Nf
theorem onesL_snoc (y : Rx) : ∀ xs : List Rx, onesL (xs ++ [y]) = onesL xs + ones y
  | [] => by simp [onesL]
  | x :: r => by rw [List.cons_append, onesL, onesL, onesL_snoc y r]; omega
theorem empC_snoc (y : Rx) : ∀ xs : List Rx, Rx.empC (xs ++ [y]) = (Rx.empC xs && y.emp)
  | [] => by simp [Rx.empC]
  | x :: r => by rw [List.cons_append, Rx.empC, Rx.empC, empC_snoc y r, Bool.and_assoc]
theorem empA_snoc (y : Rx) : ∀ xs : List Rx, Rx.empA (xs ++ [y]) = (Rx.empA xs || y.emp)
  | [] => by simp [Rx.empA]
  | x :: r => by rw [List.cons_append, Rx.empA, Rx.empA, empA_snoc y r, Bool.or_assoc]
theorem fstC_snoc (y : Rx) : ∀ (xs : List Rx) (p : Nat), fstC (xs ++ [y]) p ↔ fstC xs p ∨ (Rx.empC xs = true ∧ ∃ q, p = onesL xs + q ∧ fst y q)
  | [], p => by
    simp only [List.nil_append, fstC, Rx.empC, onesL]
    constructor
    · rintro (h | ⟨_, q, _, h⟩)
      · exact .inr ⟨trivial, p, by omega, h⟩
      · exact h.elim
    · rintro (h | ⟨_, q, rfl, h⟩)
      · exact h.elim
      · exact .inl (by simpa using h)
  | x :: r, p => by
    simp only [List.cons_append, fstC, Rx.empC, onesL, Bool.and_eq_true]
    constructor
    · rintro (h | ⟨h1, q, rfl, h2⟩)
      · exact .inl (.inl h)
      · rcases (fstC_snoc y r q).1 h2 with h3 | ⟨h3, q', rfl, h4⟩
        · exact .inl (.inr ⟨h1, q, rfl, h3⟩)
        · exact .inr ⟨⟨h1, h3⟩, q', by omega, h4⟩
    · rintro ((h | ⟨h1, q, rfl, h2⟩) | ⟨⟨h1, h3⟩, q, rfl, h4⟩)
      · exact .inl h
      · exact .inr ⟨h1, q, rfl, (fstC_snoc y r q).2 (.inl h2)⟩
      · exact .inr ⟨h1, onesL r + q, by omega, (fstC_snoc y r _).2 (.inr ⟨h3, q, rfl, h4⟩)⟩
theorem fstA_snoc (y : Rx) : ∀ (xs : List Rx) (p : Nat), fstA (xs ++ [y]) p ↔ fstA xs p ∨ ∃ q, p = onesL xs + q ∧ fst y q
  | [], p => by
    simp only [List.nil_append, fstA, onesL]
    constructor
    · rintro (h | ⟨q, _, h⟩)
      · exact .inr ⟨p, by omega, h⟩
      · exact h.elim
    · rintro (h | ⟨q, rfl, h⟩)
      · exact h.elim
      · exact .inl (by simpa using h)
  | x :: r, p => by
    simp only [List.cons_append, fstA, onesL]
    constructor
    · rintro (h | ⟨q, rfl, h2⟩)
      · exact .inl (.inl h)
      · rcases (fstA_snoc y r q).1 h2 with h3 | ⟨q', rfl, h4⟩
        · exact .inl (.inr ⟨q, rfl, h3⟩)
        · exact .inr ⟨q', by omega, h4⟩
    · rintro ((h | ⟨q, rfl, h2⟩) | ⟨q, rfl, h4⟩)
      · exact .inl h
      · exact .inr ⟨q, rfl, (fstA_snoc y r q).2 (.inl h2)⟩
      · exact .inr ⟨onesL r + q, by omega, (fstA_snoc y r _).2 (.inr ⟨q, rfl, h4⟩)⟩
theorem lstA_snoc (y : Rx) : ∀ (xs : List Rx) (p : Nat), lstA (xs ++ [y]) p ↔ lstA xs p ∨ ∃ q, p = onesL xs + q ∧ lst y q
  | [], p => by
    simp only [List.nil_append, lstA, onesL]
    constructor
    · rintro (h | ⟨q, _, h⟩)
      · exact .inr ⟨p, by omega, h⟩
      · exact h.elim
    · rintro (h | ⟨q, rfl, h⟩)
      · exact h.elim
      · exact .inl (by simpa using h)
  | x :: r, p => by
    simp only [List.cons_append, lstA, onesL]
    constructor
    · rintro (h | ⟨q, rfl, h2⟩)
      · exact .inl (.inl h)
      · rcases (lstA_snoc y r q).1 h2 with h3 | ⟨q', rfl, h4⟩
        · exact .inl (.inr ⟨q, rfl, h3⟩)
        · exact .inr ⟨q', by omega, h4⟩
    · rintro ((h | ⟨q, rfl, h2⟩) | ⟨q, rfl, h4⟩)
      · exact .inl h
      · exact .inr ⟨q, rfl, (lstA_snoc y r q).2 (.inl h2)⟩
      · exact .inr ⟨onesL r + q, by omega, (lstA_snoc y r _).2 (.inr ⟨q, rfl, h4⟩)⟩
theorem lstC_snoc (y : Rx) : ∀ (xs : List Rx) (p : Nat), lstC (xs ++ [y]) p ↔ (lstC xs p ∧ y.emp = true) ∨ ∃ q, p = onesL xs + q ∧ lst y q
  | [], p => by
    simp only [List.nil_append, lstC, onesL, Rx.empC]
    constructor
    · rintro (⟨h, _⟩ | ⟨q, _, h⟩)
      · exact .inr ⟨p, by omega, h⟩
      · exact h.elim
    · rintro (⟨h, _⟩ | ⟨q, rfl, h⟩)
      · exact h.elim
      · exact .inl ⟨by simpa using h, trivial⟩
  | x :: r, p => by
    simp only [List.cons_append, lstC, onesL, empC_snoc, Bool.and_eq_true]
    constructor
    · rintro (⟨h1, h2, h3⟩ | ⟨q, rfl, h2⟩)
      · exact .inl ⟨.inl ⟨h1, h2⟩, h3⟩
      · rcases (lstC_snoc y r q).1 h2 with ⟨h3, h4⟩ | ⟨q', rfl, h4⟩
        · exact .inl ⟨.inr ⟨q, rfl, h3⟩, h4⟩
        · exact .inr ⟨q', by omega, h4⟩
    · rintro (⟨⟨h1, h2⟩ | ⟨q, rfl, h2⟩, h3⟩ | ⟨q, rfl, h4⟩)
      · exact .inl ⟨h1, h2, h3⟩
      · exact .inr ⟨q, rfl, (lstC_snoc y r q).2 (.inl ⟨h2, h3⟩)⟩
      · exact .inr ⟨onesL r + q, by omega, (lstC_snoc y r _).2 (.inr ⟨q, rfl, h4⟩)⟩
theorem folA_snoc (y : Rx) : ∀ (xs : List Rx) (p q : Nat), folA (xs ++ [y]) p q ↔ folA xs p q ∨ ∃ p' q', p = onesL xs + p' ∧ q = onesL xs + q' ∧ fol y p' q'
  | [], p, q => by
    simp only [List.nil_append, folA, onesL]
    constructor
    · rintro (h | ⟨_, _, _, _, h⟩)
      · exact .inr ⟨p, q, by omega, by omega, h⟩
      · exact h.elim
    · rintro (h | ⟨p', q', rfl, rfl, h⟩)
      · exact h.elim
      · exact .inl (by simpa using h)
  | x :: r, p, q => by
    simp only [List.cons_append, folA, onesL]
    constructor
    · rintro (h | ⟨p', q', rfl, rfl, h2⟩)
      · exact .inl (.inl h)
      · rcases (folA_snoc y r p' q').1 h2 with h3 | ⟨p2, q2, rfl, rfl, h4⟩
        · exact .inl (.inr ⟨p', q', rfl, rfl, h3⟩)
        · exact .inr ⟨p2, q2, by omega, by omega, h4⟩
    · rintro ((h | ⟨p', q', rfl, rfl, h2⟩) | ⟨p2, q2, rfl, rfl, h4⟩)
      · exact .inl h
      · exact .inr ⟨p', q', rfl, rfl, (folA_snoc y r _ _).2 (.inl h2)⟩
      · exact .inr ⟨onesL r + p2, onesL r + q2, by omega, by omega, (folA_snoc y r _ _).2 (.inr ⟨p2, q2, rfl, rfl, h4⟩)⟩
theorem folC_snoc (y : Rx) : ∀ (xs : List Rx) (p q : Nat), folC (xs ++ [y]) p q ↔ folC xs p q ∨ (lstC xs p ∧ ∃ q', q = onesL xs + q' ∧ fst y q') ∨ ∃ p' q', p = onesL xs + p' ∧ q = onesL xs + q' ∧ fol y p' q'
  | [], p, q => by
    simp only [List.nil_append, folC, onesL, lstC, fstC]
    constructor
    · rintro (h | ⟨_, _, _, h⟩ | ⟨_, _, _, _, h⟩)
      · exact .inr (.inr ⟨p, q, by omega, by omega, h⟩)
      · exact h.elim
      · exact h.elim
    · rintro (h | ⟨h, _⟩ | ⟨p', q', rfl, rfl, h⟩)
      · exact h.elim
      · exact h.elim
      · exact .inl (by simpa using h)
  | x :: r, p, q => by
    simp only [List.cons_append, folC, onesL, lstC]
    constructor
    · rintro (h | ⟨h1, q', rfl, h2⟩ | ⟨p', q', rfl, rfl, h2⟩)
      · exact .inl (.inl h)
      · rcases (fstC_snoc y r q').1 h2 with h3 | ⟨h3, q2, rfl, h4⟩
        · exact .inl (.inr (.inl ⟨h1, q', rfl, h3⟩))
        · exact .inr (.inl ⟨.inl ⟨h1, h3⟩, q2, by omega, h4⟩)
      · rcases (folC_snoc y r p' q').1 h2 with h3 | ⟨h3, q2, rfl, h4⟩ | ⟨p2, q2, rfl, rfl, h4⟩
        · exact .inl (.inr (.inr ⟨p', q', rfl, rfl, h3⟩))
        · exact .inr (.inl ⟨.inr ⟨p', rfl, h3⟩, q2, by omega, h4⟩)
        · exact .inr (.inr ⟨p2, q2, by omega, by omega, h4⟩)
    · rintro ((h | ⟨h1, q', rfl, h3⟩ | ⟨p', q', rfl, rfl, h3⟩) | ⟨⟨h1, h3⟩ | ⟨p', rfl, h3⟩, q2, rfl, h4⟩ | ⟨p2, q2, rfl, rfl, h4⟩)
      · exact .inl h
      · exact .inr (.inl ⟨h1, q', rfl, (fstC_snoc y r q').2 (.inl h3)⟩)
      · exact .inr (.inr ⟨p', q', rfl, rfl, (folC_snoc y r _ _).2 (.inl h3)⟩)
      · exact .inr (.inl ⟨h1, onesL r + q2, by omega, (fstC_snoc y r _).2 (.inr ⟨h3, q2, rfl, h4⟩)⟩)
      · exact .inr (.inr ⟨p', onesL r + q2, rfl, by omega, (folC_snoc y r _ _).2 (.inr (.inl ⟨h3, q2, rfl, h4⟩))⟩)
      · exact .inr (.inr ⟨onesL r + p2, onesL r + q2, by omega, by omega, (folC_snoc y r _ _).2 (.inr (.inr ⟨p2, q2, rfl, rfl, h4⟩))⟩)
end Nf
namespace Nf
/-- the rising row of the numbers that are so -/
structure Rise (l : List Int) (P : Nat → Prop) : Prop where
  up : l.Pairwise (· < ·)
  nn : ∀ x ∈ l, 0 ≤ x
  is : ∀ p : Nat, (p : Int) ∈ l ↔ P p
theorem Rise.congr {l : List Int} {P Q : Nat → Prop} (h : Rise l P) (e : ∀ p, P p ↔ Q p) : Rise l Q := ⟨h.up, h.nn, fun p => (h.is p).trans (e p)⟩
theorem rise_nil {P : Nat → Prop} (h : ∀ p, ¬ P p) : Rise [] P := ⟨List.Pairwise.nil, fun x hx => by simp at hx, fun p => by simp [h p]⟩
theorem rise_zero : Rise [0] (fun p => p = 0) := ⟨by simp, fun x hx => by simp at hx; omega, fun p => by simp⟩
theorem rise_sole (n : Nat) : Rise [(n : Int)] (fun p => p = n) := ⟨by simp, fun x hx => by simp at hx; omega, fun p => by rw [List.mem_singleton]; omega⟩
theorem rise_union {a b : List Int} {P Q : Nat → Prop} (ha : Rise a P) (hb : Rise b Q) : Rise (union a b) (fun p => P p ∨ Q p) :=
  ⟨sorted_union a b, fun x hx => (mem_union.1 hx).elim (ha.nn x) (hb.nn x), fun p => by rw [mem_union, ha.is, hb.is]⟩
theorem rise_shift {a : List Int} {P : Nat → Prop} (ha : Rise a P) (n : Nat) : Rise (shift a n) (fun p => ∃ q, p = n + q ∧ P q) := by
  refine ⟨?_, fun x hx => ?_, fun p => ?_⟩
  · unfold shift
    rw [List.pairwise_map]
    exact ha.up.imp (fun h => by omega)
  · obtain ⟨y, hy, rfl⟩ := List.mem_map.1 hx
    have := ha.nn y hy
    omega
  · constructor
    · intro hx
      obtain ⟨y, hy, e⟩ := List.mem_map.1 hx
      have h0 := ha.nn y hy
      obtain ⟨q, rfl⟩ : ∃ q : Nat, y = q := ⟨y.toNat, by omega⟩
      exact ⟨q, by omega, (ha.is q).1 hy⟩
    · rintro ⟨q, rfl, hq⟩
      exact List.mem_map.2 ⟨q, (ha.is q).2 hq, by omega⟩
theorem rise_eq {a b : List Int} {P : Nat → Prop} (ha : Rise a P) (hb : Rise b P) : a = b := by
  refine rising_eq ha.up hb.up fun x => ?_
  constructor
  · intro h
    have h0 := ha.nn x h
    obtain ⟨q, rfl⟩ : ∃ q : Nat, x = q := ⟨x.toNat, by omega⟩
    exact (hb.is q).2 ((ha.is q).1 h)
  · intro h
    have h0 := hb.nn x h
    obtain ⟨q, rfl⟩ : ∃ q : Nat, x = q := ⟨x.toNat, by omega⟩
    exact (ha.is q).2 ((hb.is q).1 h)
/-- the numbers below n that are so, one behind the other -/
theorem rise_filter (n : Nat) (b : Nat → Bool) : Rise (((List.range n).filter b).map (fun i : Nat => (i : Int))) (fun p => p < n ∧ b p = true) := by
  refine ⟨?_, fun x hx => ?_, fun p => ?_⟩
  · rw [List.pairwise_map]
    refine List.Pairwise.imp (fun h => by omega) (List.Pairwise.filter _ (List.pairwise_lt_range))
  · obtain ⟨y, _, rfl⟩ := List.mem_map.1 hx
    omega
  · constructor
    · intro h
      obtain ⟨y, hy, e⟩ := List.mem_map.1 h
      obtain rfl : y = p := by omega
      simpa using hy
    · intro h
      exact List.mem_map.2 ⟨p, by simpa using h, rfl⟩
/-- behind each of some Ones the others too -/
def upd (N : List (List Int)) (L F : List Int) : List (List Int) := L.foldl (fun N k => N.set k.toNat (union (N.getD k.toNat []) F)) N
theorem upd_len (F : List Int) : ∀ (L : List Int) (N : List (List Int)), (upd N L F).length = N.length
  | [], N => rfl
  | k :: L, N => by
    rw [upd, List.foldl_cons]
    have := upd_len F L (N.set k.toNat (union (N.getD k.toNat []) F))
    rw [upd] at this
    rw [this, List.length_set]
theorem upd_get (F : List Int) : ∀ (L : List Int) (N : List (List Int)), L.Pairwise (· < ·) → (∀ x ∈ L, 0 ≤ x) → ∀ i (h : i < N.length) (h' : i < (upd N L F).length), (upd N L F)[i] = if (i : Int) ∈ L then union N[i] F else N[i]
  | [], N, _, _, i, h, h' => by simp [upd]
  | k :: L, N, hp, hn, i, h, h' => by
    rw [List.pairwise_cons] at hp
    have hk := hn k (List.mem_cons_self ..)
    have e : upd N (k :: L) F = upd (N.set k.toNat (union (N.getD k.toNat []) F)) L F := rfl
    have ih := upd_get F L (N.set k.toNat (union (N.getD k.toNat []) F)) hp.2 (fun x hx => hn x (List.mem_cons_of_mem _ hx)) i (by rw [List.length_set]; exact h) (by rw [← e]; exact h')
    simp only [e]
    rw [ih]
    by_cases hi : k.toNat = i
    · have hki : k = (i : Int) := by omega
      have hnot : ¬ (i : Int) ∈ L := fun hm => by have := hp.1 _ hm; omega
      rw [if_neg hnot, if_pos (by rw [hki]; exact List.mem_cons_self ..)]
      subst hi
      rw [List.getElem_set_self, List.getD_eq_getElem?_getD, List.getElem?_eq_getElem h]
      rfl
    · rw [List.getElem_set_ne hi]
      have : (i : Int) ∈ k :: L ↔ (i : Int) ∈ L := by
        rw [List.mem_cons]
        constructor
        · rintro (h | h)
          · omega
          · exact h
        · exact .inr
      simp only [this]
/-- what a part of the document's machine is -/
structure PartIs (n : Nat) (F L : List Int) (e : Bool) (N : List (List Int)) (cnt : Nat) (em : Bool) (f l : Nat → Prop) (w : Nat → Nat → Prop) : Prop where
  num : n = cnt
  emp : e = em
  fst : Rise F f
  lst : Rise L l
  len : N.length = cnt
  nxt : ∀ i (h : i < N.length), Rise N[i] (w i)
/-- two parts, the second one's Ones behind the first one's -/
theorem beside_nxt {n1 : Nat} {N1 N2 : List (List Int)} {w1 w2 : Nat → Nat → Prop} (h1 : N1.length = n1) (H1 : ∀ i (h : i < N1.length), Rise N1[i] (w1 i)) (H2 : ∀ i (h : i < N2.length), Rise N2[i] (w2 i)) (i : Nat) (h : i < (N1 ++ N2.map (fun l => shift l n1)).length) :
    Rise (N1 ++ N2.map (fun l => shift l n1))[i] (fun q => (i < n1 ∧ w1 i q) ∨ ∃ i' q', i = n1 + i' ∧ q = n1 + q' ∧ w2 i' q') := by
  by_cases hi : i < N1.length
  · rw [List.getElem_append_left hi]
    refine (H1 i hi).congr fun q => ⟨fun hq => .inl ⟨by omega, hq⟩, ?_⟩
    rintro (⟨_, hq⟩ | ⟨i', q', e, _, _⟩)
    · exact hq
    · omega
  · rw [List.getElem_append_right (by omega)]
    have hj : i - N1.length < N2.length := by simp at h; omega
    simp only [List.getElem_map]
    refine (rise_shift (H2 _ hj) n1).congr fun q => ?_
    constructor
    · rintro ⟨q', rfl, hq⟩
      exact .inr ⟨i - N1.length, q', by omega, rfl, hq⟩
    · rintro (⟨h3, _⟩ | ⟨i', q', e, rfl, hq⟩)
      · omega
      · obtain rfl : i' = i - N1.length := by omega
        exact ⟨q', rfl, hq⟩
theorem part_cat {n1 n2 : Nat} {F1 L1 F2 L2 : List Int} {e1 e2 : Bool} {N1 N2 : List (List Int)} {xs : List Rx} {y : Rx} (H1 : PartIs n1 F1 L1 e1 N1 (onesL xs) (Rx.empC xs) (fstC xs) (lstC xs) (folC xs)) (H2 : PartIs n2 F2 L2 e2 N2 (ones y) y.emp (fst y) (lst y) (fol y)) :
    PartIs (n2 + n1) (if e1 = true then union F1 (shift F2 n1) else F1) (if e2 = true then union L1 (shift L2 n1) else shift L2 n1) (e1 && e2) (upd (N1 ++ N2.map (fun l => shift l n1)) L1 (shift F2 n1)) (onesL (xs ++ [y])) (Rx.empC (xs ++ [y])) (fstC (xs ++ [y])) (lstC (xs ++ [y])) (folC (xs ++ [y])) := by
  have hn1 := H1.num
  have hn2 := H2.num
  have sF := rise_shift H2.fst n1
  have sL := rise_shift H2.lst n1
  refine ⟨by rw [onesL_snoc]; omega, by rw [empC_snoc, H1.emp, H2.emp], ?_, ?_, ?_, ?_⟩
  · have he := H1.emp
    cases e1 with
    | true =>
      refine (rise_union H1.fst sF).congr fun p => ?_
      rw [fstC_snoc, ← he, hn1]
      simp
    | false =>
      refine H1.fst.congr fun p => ?_
      rw [fstC_snoc, ← he]
      simp
  · have he := H2.emp
    cases e2 with
    | true =>
      refine (rise_union H1.lst sL).congr fun p => ?_
      rw [lstC_snoc, ← he, hn1]
      simp
    | false =>
      refine sL.congr fun p => ?_
      rw [lstC_snoc, ← he, hn1]
      simp
  · rw [upd_len, List.length_append, List.length_map, H1.len, H2.len, onesL_snoc]
  · intro i h
    rw [upd_len] at h
    have hb := beside_nxt (n1 := n1) (by rw [H1.len, hn1]) H1.nxt H2.nxt i h
    rw [upd_get _ _ _ H1.lst.up H1.lst.nn i h]
    by_cases hi : (i : Int) ∈ L1
    · rw [if_pos hi]
      have hl := (H1.lst.is i).1 hi
      have hil := lstC_lt _ _ hl
      refine (rise_union hb sF).congr fun q => ?_
      rw [folC_snoc]
      constructor
      · rintro ((⟨_, h3⟩ | ⟨i', q', e, rfl, h3⟩) | ⟨q', rfl, h3⟩)
        · exact .inl h3
        · exact .inr (.inr ⟨i', q', by omega, by omega, h3⟩)
        · exact .inr (.inl ⟨hl, q', by omega, h3⟩)
      · rintro (h3 | ⟨_, q', rfl, h3⟩ | ⟨i', q', e, rfl, h3⟩)
        · exact .inl (.inl ⟨by omega, h3⟩)
        · exact .inr ⟨q', by omega, h3⟩
        · exact .inl (.inr ⟨i', q', by omega, by omega, h3⟩)
    · rw [if_neg hi]
      have hl : ¬ lstC xs i := fun h3 => hi ((H1.lst.is i).2 h3)
      refine hb.congr fun q => ?_
      rw [folC_snoc]
      constructor
      · rintro (⟨_, h3⟩ | ⟨i', q', e, rfl, h3⟩)
        · exact .inl h3
        · exact .inr (.inr ⟨i', q', by omega, by omega, h3⟩)
      · rintro (h3 | ⟨h3, _⟩ | ⟨i', q', e, rfl, h3⟩)
        · exact .inl ⟨by have := (folC_lt _ _ _ h3).1; omega, h3⟩
        · exact absurd h3 hl
        · exact .inr ⟨i', q', by omega, by omega, h3⟩
theorem part_alt {n1 n2 : Nat} {F1 L1 F2 L2 : List Int} {e1 e2 : Bool} {N1 N2 : List (List Int)} {xs : List Rx} {y : Rx} (H1 : PartIs n1 F1 L1 e1 N1 (onesL xs) (Rx.empA xs) (fstA xs) (lstA xs) (folA xs)) (H2 : PartIs n2 F2 L2 e2 N2 (ones y) y.emp (fst y) (lst y) (fol y)) :
    PartIs (n2 + n1) (union F1 (shift F2 n1)) (union L1 (shift L2 n1)) (e1 || e2) (N1 ++ N2.map (fun l => shift l n1)) (onesL (xs ++ [y])) (Rx.empA (xs ++ [y])) (fstA (xs ++ [y])) (lstA (xs ++ [y])) (folA (xs ++ [y])) := by
  have hn1 := H1.num
  have hn2 := H2.num
  refine ⟨by rw [onesL_snoc]; omega, by rw [empA_snoc, H1.emp, H2.emp], ?_, ?_, ?_, ?_⟩
  · refine (rise_union H1.fst (rise_shift H2.fst n1)).congr fun p => ?_
    rw [fstA_snoc, hn1]
  · refine (rise_union H1.lst (rise_shift H2.lst n1)).congr fun p => ?_
    rw [lstA_snoc, hn1]
  · rw [List.length_append, List.length_map, H1.len, H2.len, onesL_snoc]
  · intro i h
    refine (beside_nxt (n1 := n1) (by rw [H1.len, hn1]) H1.nxt H2.nxt i h).congr fun q => ?_
    rw [folA_snoc]
    constructor
    · rintro (⟨_, h3⟩ | ⟨i', q', e, rfl, h3⟩)
      · exact .inl h3
      · exact .inr ⟨i', q', by omega, by omega, h3⟩
    · rintro (h3 | ⟨i', q', e, rfl, h3⟩)
      · exact .inl ⟨by have := (folA_lt _ _ _ h3).1; omega, h3⟩
      · exact .inr ⟨i', q', by omega, by omega, h3⟩
theorem part_star {n : Nat} {F L : List Int} {e : Bool} {N : List (List Int)} {x : Rx} {f : Nat → Bool} (H : PartIs n F L e N (ones x) x.emp (fst x) (lst x) (fol x)) :
    PartIs n F L true (upd N L F) (ones (.node 4 f [x])) (Rx.emp (.node 4 f [x])) (fst (.node 4 f [x])) (lst (.node 4 f [x])) (fol (.node 4 f [x])) := by
  have ho : ones (.node 4 f [x]) = ones x := by rw [ones_kids f [x] (by decide)]; simp [onesL]
  have fA : ∀ p, fstA [x] p ↔ fst x p := fun p => by simp [fstA]
  have lA : ∀ p, lstA [x] p ↔ lst x p := fun p => by simp [lstA]
  have wA : ∀ p q, folA [x] p q ↔ fol x p q := fun p q => by simp [folA]
  refine ⟨by rw [ho]; exact H.num, by simp [Rx.emp], H.fst.congr fun p => ?_, H.lst.congr fun p => ?_, by rw [upd_len, H.len, ho], fun i h => ?_⟩
  · simp only [fst]; exact (fA p).symm
  · simp only [lst]; exact (lA p).symm
  · rw [upd_len] at h
    rw [upd_get _ _ _ H.lst.up H.lst.nn i h]
    by_cases hi : (i : Int) ∈ L
    · rw [if_pos hi]
      have hl := (H.lst.is i).1 hi
      refine (rise_union (H.nxt i h) H.fst).congr fun q => ?_
      simp only [fol]
      rw [wA, lA, fA]
      exact ⟨fun h => h.imp id (fun h => ⟨hl, h⟩), fun h => h.imp id (fun h => h.2)⟩
    · rw [if_neg hi]
      have hl : ¬ lst x i := fun h3 => hi ((H.lst.is i).2 h3)
      refine (H.nxt i h).congr fun q => ?_
      simp only [fol]
      rw [wA, lA, fA]
      exact ⟨.inl, fun h => h.elim id (fun h => absurd h.1 hl)⟩
end Nf
end Go.Proofs.Ytndenipjiclkaaa
