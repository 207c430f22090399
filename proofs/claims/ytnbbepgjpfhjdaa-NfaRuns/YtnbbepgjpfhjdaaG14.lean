/- The places of Ones, kid by kid from the left: plain facts. The document's parts of a machine: plain facts: rising rows that hold just the Ones that may be first, last, and behind each. A part of the document's machine in memory. What beside answers, walked. -/
import Derived.Test.YtnbbepgjpfhjdaaG11
import Derived.Test.YtnbbepgjpfhjdaaG5
import Derived.Test.YtnbbepgjpfhjdaaG13
namespace Go.Proofs.Ytnbbepgjpfhjdaa
set_option linter.unusedVariables false
set_option linter.unusedSimpArgs false
namespace Nf
theorem onesL_snoc (y : Rx) : ∀ xs : List Rx, onesL (xs ++ [y]) = onesL xs + ones y
  | [] => by simp [onesL]
  | x :: r => by rw [List.cons_append, onesL, onesL, onesL_snoc y r]; omega
theorem empC_snoc (y : Rx) : ∀ xs : List Rx, Rx.empC (xs ++ [y]) = (Rx.empC xs && y.emp)
  | [] => by simp [Rx.empC]
  | x :: r => by rw [List.cons_append, Rx.empC, Rx.empC, empC_snoc y r, Bool.and_assoc]
theorem empA_snoc (y : Rx) : ∀ xs : List Rx, Rx.empA (xs ++ [y]) = (Rx.empA xs || y.emp)
  | [] => by simp [Rx.empA]
  | x :: r => by rw [List.cons_append, Rx.empA, Rx.empA, empA_snoc y r, Bool.or_assoc]
theorem fstC_snoc (y : Rx) : ∀ (xs : List Rx) (p : Nat), fstC (xs ++ [y]) p ↔ fstC xs p ∨ (Rx.empC xs = true ∧ ∃ q, p = onesL xs + q ∧ fst y q)
  | [], p => by
    simp only [List.nil_append, fstC, Rx.empC, onesL]
    constructor
    · rintro (h | ⟨_, q, _, h⟩)
      · exact .inr ⟨trivial, p, by omega, h⟩
      · exact h.elim
    · rintro (h | ⟨_, q, rfl, h⟩)
      · exact h.elim
      · exact .inl (by simpa using h)
  | x :: r, p => by
    simp only [List.cons_append, fstC, Rx.empC, onesL, Bool.and_eq_true]
    constructor
    · rintro (h | ⟨h1, q, rfl, h2⟩)
      · exact .inl (.inl h)
      · rcases (fstC_snoc y r q).1 h2 with h3 | ⟨h3, q', rfl, h4⟩
        · exact .inl (.inr ⟨h1, q, rfl, h3⟩)
        · exact .inr ⟨⟨h1, h3⟩, q', by omega, h4⟩
    · rintro ((h | ⟨h1, q, rfl, h2⟩) | ⟨⟨h1, h3⟩, q, rfl, h4⟩)
      · exact .inl h
      · exact .inr ⟨h1, q, rfl, (fstC_snoc y r q).2 (.inl h2)⟩
      · exact .inr ⟨h1, onesL r + q, by omega, (fstC_snoc y r _).2 (.inr ⟨h3, q, rfl, h4⟩)⟩
theorem fstA_snoc (y : Rx) : ∀ (xs : List Rx) (p : Nat), fstA (xs ++ [y]) p ↔ fstA xs p ∨ ∃ q, p = onesL xs + q ∧ fst y q
  | [], p => by
    simp only [List.nil_append, fstA, onesL]
    constructor
    · rintro (h | ⟨q, _, h⟩)
      · exact .inr ⟨p, by omega, h⟩
      · exact h.elim
    · rintro (h | ⟨q, rfl, h⟩)
      · exact h.elim
      · exact .inl (by simpa using h)
  | x :: r, p => by
    simp only [List.cons_append, fstA, onesL]
    constructor
    · rintro (h | ⟨q, rfl, h2⟩)
      · exact .inl (.inl h)
      · rcases (fstA_snoc y r q).1 h2 with h3 | ⟨q', rfl, h4⟩
        · exact .inl (.inr ⟨q, rfl, h3⟩)
        · exact .inr ⟨q', by omega, h4⟩
    · rintro ((h | ⟨q, rfl, h2⟩) | ⟨q, rfl, h4⟩)
      · exact .inl h
      · exact .inr ⟨q, rfl, (fstA_snoc y r q).2 (.inl h2)⟩
      · exact .inr ⟨onesL r + q, by omega, (fstA_snoc y r _).2 (.inr ⟨q, rfl, h4⟩)⟩
theorem lstA_snoc (y : Rx) : ∀ (xs : List Rx) (p : Nat), lstA (xs ++ [y]) p ↔ lstA xs p ∨ ∃ q, p = onesL xs + q ∧ lst y q
  | [], p => by
    simp only [List.nil_append, lstA, onesL]
    constructor
    · rintro (h | ⟨q, _, h⟩)
      · exact .inr ⟨p, by omega, h⟩
      · exact h.elim
    · rintro (h | ⟨q, rfl, h⟩)
      · exact h.elim
      · exact .inl (by simpa using h)
  | x :: r, p => by
    simp only [List.cons_append, lstA, onesL]
    constructor
    · rintro (h | ⟨q, rfl, h2⟩)
      · exact .inl (.inl h)
      · rcases (lstA_snoc y r q).1 h2 with h3 | ⟨q', rfl, h4⟩
        · exact .inl (.inr ⟨q, rfl, h3⟩)
        · exact .inr ⟨q', by omega, h4⟩
    · rintro ((h | ⟨q, rfl, h2⟩) | ⟨q, rfl, h4⟩)
      · exact .inl h
      · exact .inr ⟨q, rfl, (lstA_snoc y r q).2 (.inl h2)⟩
      · exact .inr ⟨onesL r + q, by omega, (lstA_snoc y r _).2 (.inr ⟨q, rfl, h4⟩)⟩
theorem lstC_snoc (y : Rx) : ∀ (xs : List Rx) (p : Nat), lstC (xs ++ [y]) p ↔ (lstC xs p ∧ y.emp = true) ∨ ∃ q, p = onesL xs + q ∧ lst y q
  | [], p => by
    simp only [List.nil_append, lstC, onesL, Rx.empC]
    constructor
    · rintro (⟨h, _⟩ | ⟨q, _, h⟩)
      · exact .inr ⟨p, by omega, h⟩
      · exact h.elim
    · rintro (⟨h, _⟩ | ⟨q, rfl, h⟩)
      · exact h.elim
      · exact .inl ⟨by simpa using h, trivial⟩
  | x :: r, p => by
    simp only [List.cons_append, lstC, onesL, empC_snoc, Bool.and_eq_true]
    constructor
    · rintro (⟨h1, h2, h3⟩ | ⟨q, rfl, h2⟩)
      · exact .inl ⟨.inl ⟨h1, h2⟩, h3⟩
      · rcases (lstC_snoc y r q).1 h2 with ⟨h3, h4⟩ | ⟨q', rfl, h4⟩
        · exact .inl ⟨.inr ⟨q, rfl, h3⟩, h4⟩
        · exact .inr ⟨q', by omega, h4⟩
    · rintro (⟨⟨h1, h2⟩ | ⟨q, rfl, h2⟩, h3⟩ | ⟨q, rfl, h4⟩)
      · exact .inl ⟨h1, h2, h3⟩
      · exact .inr ⟨q, rfl, (lstC_snoc y r q).2 (.inl ⟨h2, h3⟩)⟩
      · exact .inr ⟨onesL r + q, by omega, (lstC_snoc y r _).2 (.inr ⟨q, rfl, h4⟩)⟩
theorem folA_snoc (y : Rx) : ∀ (xs : List Rx) (p q : Nat), folA (xs ++ [y]) p q ↔ folA xs p q ∨ ∃ p' q', p = onesL xs + p' ∧ q = onesL xs + q' ∧ fol y p' q'
  | [], p, q => by
    simp only [List.nil_append, folA, onesL]
    constructor
    · rintro (h | ⟨_, _, _, _, h⟩)
      · exact .inr ⟨p, q, by omega, by omega, h⟩
      · exact h.elim
    · rintro (h | ⟨p', q', rfl, rfl, h⟩)
      · exact h.elim
      · exact .inl (by simpa using h)
  | x :: r, p, q => by
    simp only [List.cons_append, folA, onesL]
    constructor
    · rintro (h | ⟨p', q', rfl, rfl, h2⟩)
      · exact .inl (.inl h)
      · rcases (folA_snoc y r p' q').1 h2 with h3 | ⟨p2, q2, rfl, rfl, h4⟩
        · exact .inl (.inr ⟨p', q', rfl, rfl, h3⟩)
        · exact .inr ⟨p2, q2, by omega, by omega, h4⟩
    · rintro ((h | ⟨p', q', rfl, rfl, h2⟩) | ⟨p2, q2, rfl, rfl, h4⟩)
      · exact .inl h
      · exact .inr ⟨p', q', rfl, rfl, (folA_snoc y r _ _).2 (.inl h2)⟩
      · exact .inr ⟨onesL r + p2, onesL r + q2, by omega, by omega, (folA_snoc y r _ _).2 (.inr ⟨p2, q2, rfl, rfl, h4⟩)⟩
theorem folC_snoc (y : Rx) : ∀ (xs : List Rx) (p q : Nat), folC (xs ++ [y]) p q ↔ folC xs p q ∨ (lstC xs p ∧ ∃ q', q = onesL xs + q' ∧ fst y q') ∨ ∃ p' q', p = onesL xs + p' ∧ q = onesL xs + q' ∧ fol y p' q'
  | [], p, q => by
    simp only [List.nil_append, folC, onesL, lstC, fstC]
    constructor
    · rintro (h | ⟨_, _, _, h⟩ | ⟨_, _, _, _, h⟩)
      · exact .inr (.inr ⟨p, q, by omega, by omega, h⟩)
      · exact h.elim
      · exact h.elim
    · rintro (h | ⟨h, _⟩ | ⟨p', q', rfl, rfl, h⟩)
      · exact h.elim
      · exact h.elim
      · exact .inl (by simpa using h)
  | x :: r, p, q => by
    simp only [List.cons_append, folC, onesL, lstC]
    constructor
    · rintro (h | ⟨h1, q', rfl, h2⟩ | ⟨p', q', rfl, rfl, h2⟩)
      · exact .inl (.inl h)
      · rcases (fstC_snoc y r q').1 h2 with h3 | ⟨h3, q2, rfl, h4⟩
        · exact .inl (.inr (.inl ⟨h1, q', rfl, h3⟩))
        · exact .inr (.inl ⟨.inl ⟨h1, h3⟩, q2, by omega, h4⟩)
      · rcases (folC_snoc y r p' q').1 h2 with h3 | ⟨h3, q2, rfl, h4⟩ | ⟨p2, q2, rfl, rfl, h4⟩
        · exact .inl (.inr (.inr ⟨p', q', rfl, rfl, h3⟩))
        · exact .inr (.inl ⟨.inr ⟨p', rfl, h3⟩, q2, by omega, h4⟩)
        · exact .inr (.inr ⟨p2, q2, by omega, by omega, h4⟩)
    · rintro ((h | ⟨h1, q', rfl, h3⟩ | ⟨p', q', rfl, rfl, h3⟩) | ⟨⟨h1, h3⟩ | ⟨p', rfl, h3⟩, q2, rfl, h4⟩ | ⟨p2, q2, rfl, rfl, h4⟩)
      · exact .inl h
      · exact .inr (.inl ⟨h1, q', rfl, (fstC_snoc y r q').2 (.inl h3)⟩)
      · exact .inr (.inr ⟨p', q', rfl, rfl, (folC_snoc y r _ _).2 (.inl h3)⟩)
      · exact .inr (.inl ⟨h1, onesL r + q2, by omega, (fstC_snoc y r _).2 (.inr ⟨h3, q2, rfl, h4⟩)⟩)
      · exact .inr (.inr ⟨p', onesL r + q2, rfl, by omega, (folC_snoc y r _ _).2 (.inr (.inl ⟨h3, q2, rfl, h4⟩))⟩)
      · exact .inr (.inr ⟨onesL r + p2, onesL r + q2, by omega, by omega, (folC_snoc y r _ _).2 (.inr (.inr ⟨p2, q2, rfl, rfl, h4⟩))⟩)
end Nf
namespace Nf
structure Rise (l : List Int) (P : Nat → Prop) : Prop where
  up : l.Pairwise (· < ·)
  nn : ∀ x ∈ l, 0 ≤ x
  is : ∀ p : Nat, (p : Int) ∈ l ↔ P p
theorem Rise.congr {l : List Int} {P Q : Nat → Prop} (h : Rise l P) (e : ∀ p, P p ↔ Q p) : Rise l Q := ⟨h.up, h.nn, fun p => (h.is p).trans (e p)⟩
theorem rise_nil {P : Nat → Prop} (h : ∀ p, ¬ P p) : Rise [] P := ⟨List.Pairwise.nil, fun x hx => by simp at hx, fun p => by simp [h p]⟩
theorem rise_zero : Rise [0] (fun p => p = 0) := ⟨by simp, fun x hx => by simp at hx; omega, fun p => by simp⟩
theorem rise_sole (n : Nat) : Rise [(n : Int)] (fun p => p = n) := ⟨by simp, fun x hx => by simp at hx; omega, fun p => by rw [List.mem_singleton]; omega⟩
theorem rise_union {a b : List Int} {P Q : Nat → Prop} (ha : Rise a P) (hb : Rise b Q) : Rise (union a b) (fun p => P p ∨ Q p) :=
  ⟨sorted_union a b, fun x hx => (mem_union.1 hx).elim (ha.nn x) (hb.nn x), fun p => by rw [mem_union, ha.is, hb.is]⟩
theorem rise_shift {a : List Int} {P : Nat → Prop} (ha : Rise a P) (n : Nat) : Rise (shift a n) (fun p => ∃ q, p = n + q ∧ P q) := by
  refine ⟨?_, fun x hx => ?_, fun p => ?_⟩
  · unfold shift
    rw [List.pairwise_map]
    exact ha.up.imp (fun h => by omega)
  · obtain ⟨y, hy, rfl⟩ := List.mem_map.1 hx
    have := ha.nn y hy
    omega
  · constructor
    · intro hx
      obtain ⟨y, hy, e⟩ := List.mem_map.1 hx
      have h0 := ha.nn y hy
      obtain ⟨q, rfl⟩ : ∃ q : Nat, y = q := ⟨y.toNat, by omega⟩
      exact ⟨q, by omega, (ha.is q).1 hy⟩
    · rintro ⟨q, rfl, hq⟩
      exact List.mem_map.2 ⟨q, (ha.is q).2 hq, by omega⟩
theorem rise_eq {a b : List Int} {P : Nat → Prop} (ha : Rise a P) (hb : Rise b P) : a = b := by
  refine rising_eq ha.up hb.up fun x => ?_
  constructor
  · intro h
    have h0 := ha.nn x h
    obtain ⟨q, rfl⟩ : ∃ q : Nat, x = q := ⟨x.toNat, by omega⟩
    exact (hb.is q).2 ((ha.is q).1 h)
  · intro h
    have h0 := hb.nn x h
    obtain ⟨q, rfl⟩ : ∃ q : Nat, x = q := ⟨x.toNat, by omega⟩
    exact (ha.is q).2 ((hb.is q).1 h)
theorem rise_filter (n : Nat) (b : Nat → Bool) : Rise (((List.range n).filter b).map (fun i : Nat => (i : Int))) (fun p => p < n ∧ b p = true) := by
  refine ⟨?_, fun x hx => ?_, fun p => ?_⟩
  · rw [List.pairwise_map]
    refine List.Pairwise.imp (fun h => by omega) (List.Pairwise.filter _ (List.pairwise_lt_range))
  · obtain ⟨y, _, rfl⟩ := List.mem_map.1 hx
    omega
  · constructor
    · intro h
      obtain ⟨y, hy, e⟩ := List.mem_map.1 h
      obtain rfl : y = p := by omega
      simpa using hy
    · intro h
      exact List.mem_map.2 ⟨p, by simpa using h, rfl⟩
def upd (N : List (List Int)) (L F : List Int) : List (List Int) := L.foldl (fun N k => N.set k.toNat (union (N.getD k.toNat []) F)) N
theorem upd_len (F : List Int) : ∀ (L : List Int) (N : List (List Int)), (upd N L F).length = N.length
  | [], N => rfl
  | k :: L, N => by
    rw [upd, List.foldl_cons]
    have := upd_len F L (N.set k.toNat (union (N.getD k.toNat []) F))
    rw [upd] at this
    rw [this, List.length_set]
theorem upd_get (F : List Int) : ∀ (L : List Int) (N : List (List Int)), L.Pairwise (· < ·) → (∀ x ∈ L, 0 ≤ x) → ∀ i (h : i < N.length) (h' : i < (upd N L F).length), (upd N L F)[i] = if (i : Int) ∈ L then union N[i] F else N[i]
  | [], N, _, _, i, h, h' => by simp [upd]
  | k :: L, N, hp, hn, i, h, h' => by
    rw [List.pairwise_cons] at hp
    have hk := hn k (List.mem_cons_self ..)
    have e : upd N (k :: L) F = upd (N.set k.toNat (union (N.getD k.toNat []) F)) L F := rfl
    have ih := upd_get F L (N.set k.toNat (union (N.getD k.toNat []) F)) hp.2 (fun x hx => hn x (List.mem_cons_of_mem _ hx)) i (by rw [List.length_set]; exact h) (by rw [← e]; exact h')
    simp only [e]
    rw [ih]
    by_cases hi : k.toNat = i
    · have hki : k = (i : Int) := by omega
      have hnot : ¬ (i : Int) ∈ L := fun hm => by have := hp.1 _ hm; omega
      rw [if_neg hnot, if_pos (by rw [hki]; exact List.mem_cons_self ..)]
      subst hi
      rw [List.getElem_set_self, List.getD_eq_getElem?_getD, List.getElem?_eq_getElem h]
      rfl
    · rw [List.getElem_set_ne hi]
      have : (i : Int) ∈ k :: L ↔ (i : Int) ∈ L := by
        rw [List.mem_cons]
        constructor
        · rintro (h | h)
          · omega
          · exact h
        · exact .inr
      simp only [this]
structure PartIs (n : Nat) (F L : List Int) (e : Bool) (N : List (List Int)) (cnt : Nat) (em : Bool) (f l : Nat → Prop) (w : Nat → Nat → Prop) : Prop where
  num : n = cnt
  emp : e = em
  fst : Rise F f
  lst : Rise L l
  len : N.length = cnt
  nxt : ∀ i (h : i < N.length), Rise N[i] (w i)
theorem beside_nxt {n1 : Nat} {N1 N2 : List (List Int)} {w1 w2 : Nat → Nat → Prop} (h1 : N1.length = n1) (H1 : ∀ i (h : i < N1.length), Rise N1[i] (w1 i)) (H2 : ∀ i (h : i < N2.length), Rise N2[i] (w2 i)) (i : Nat) (h : i < (N1 ++ N2.map (fun l => shift l n1)).length) :
    Rise (N1 ++ N2.map (fun l => shift l n1))[i] (fun q => (i < n1 ∧ w1 i q) ∨ ∃ i' q', i = n1 + i' ∧ q = n1 + q' ∧ w2 i' q') := by
  by_cases hi : i < N1.length
  · rw [List.getElem_append_left hi]
    refine (H1 i hi).congr fun q => ⟨fun hq => .inl ⟨by omega, hq⟩, ?_⟩
    rintro (⟨_, hq⟩ | ⟨i', q', e, _, _⟩)
    · exact hq
    · omega
  · rw [List.getElem_append_right (by omega)]
    have hj : i - N1.length < N2.length := by simp at h; omega
    simp only [List.getElem_map]
    refine (rise_shift (H2 _ hj) n1).congr fun q => ?_
    constructor
    · rintro ⟨q', rfl, hq⟩
      exact .inr ⟨i - N1.length, q', by omega, rfl, hq⟩
    · rintro (⟨h3, _⟩ | ⟨i', q', e, rfl, hq⟩)
      · omega
      · obtain rfl : i' = i - N1.length := by omega
        exact ⟨q', rfl, hq⟩
theorem part_cat {n1 n2 : Nat} {F1 L1 F2 L2 : List Int} {e1 e2 : Bool} {N1 N2 : List (List Int)} {xs : List Rx} {y : Rx} (H1 : PartIs n1 F1 L1 e1 N1 (onesL xs) (Rx.empC xs) (fstC xs) (lstC xs) (folC xs)) (H2 : PartIs n2 F2 L2 e2 N2 (ones y) y.emp (fst y) (lst y) (fol y)) :
    PartIs (n2 + n1) (if e1 = true then union F1 (shift F2 n1) else F1) (if e2 = true then union L1 (shift L2 n1) else shift L2 n1) (e1 && e2) (upd (N1 ++ N2.map (fun l => shift l n1)) L1 (shift F2 n1)) (onesL (xs ++ [y])) (Rx.empC (xs ++ [y])) (fstC (xs ++ [y])) (lstC (xs ++ [y])) (folC (xs ++ [y])) := by
  have hn1 := H1.num
  have hn2 := H2.num
  have sF := rise_shift H2.fst n1
  have sL := rise_shift H2.lst n1
  refine ⟨by rw [onesL_snoc]; omega, by rw [empC_snoc, H1.emp, H2.emp], ?_, ?_, ?_, ?_⟩
  · have he := H1.emp
    cases e1 with
    | true =>
      refine (rise_union H1.fst sF).congr fun p => ?_
      rw [fstC_snoc, ← he, hn1]
      simp
    | false =>
      refine H1.fst.congr fun p => ?_
      rw [fstC_snoc, ← he]
      simp
  · have he := H2.emp
    cases e2 with
    | true =>
      refine (rise_union H1.lst sL).congr fun p => ?_
      rw [lstC_snoc, ← he, hn1]
      simp
    | false =>
      refine sL.congr fun p => ?_
      rw [lstC_snoc, ← he, hn1]
      simp
  · rw [upd_len, List.length_append, List.length_map, H1.len, H2.len, onesL_snoc]
  · intro i h
    rw [upd_len] at h
    have hb := beside_nxt (n1 := n1) (by rw [H1.len, hn1]) H1.nxt H2.nxt i h
    rw [upd_get _ _ _ H1.lst.up H1.lst.nn i h]
    by_cases hi : (i : Int) ∈ L1
    · rw [if_pos hi]
      have hl := (H1.lst.is i).1 hi
      have hil := lstC_lt _ _ hl
      refine (rise_union hb sF).congr fun q => ?_
      rw [folC_snoc]
      constructor
      · rintro ((⟨_, h3⟩ | ⟨i', q', e, rfl, h3⟩) | ⟨q', rfl, h3⟩)
        · exact .inl h3
        · exact .inr (.inr ⟨i', q', by omega, by omega, h3⟩)
        · exact .inr (.inl ⟨hl, q', by omega, h3⟩)
      · rintro (h3 | ⟨_, q', rfl, h3⟩ | ⟨i', q', e, rfl, h3⟩)
        · exact .inl (.inl ⟨by omega, h3⟩)
        · exact .inr ⟨q', by omega, h3⟩
        · exact .inl (.inr ⟨i', q', by omega, by omega, h3⟩)
    · rw [if_neg hi]
      have hl : ¬ lstC xs i := fun h3 => hi ((H1.lst.is i).2 h3)
      refine hb.congr fun q => ?_
      rw [folC_snoc]
      constructor
      · rintro (⟨_, h3⟩ | ⟨i', q', e, rfl, h3⟩)
        · exact .inl h3
        · exact .inr (.inr ⟨i', q', by omega, by omega, h3⟩)
      · rintro (h3 | ⟨h3, _⟩ | ⟨i', q', e, rfl, h3⟩)
        · exact .inl ⟨by have := (folC_lt _ _ _ h3).1; omega, h3⟩
        · exact absurd h3 hl
        · exact .inr ⟨i', q', by omega, by omega, h3⟩
theorem part_alt {n1 n2 : Nat} {F1 L1 F2 L2 : List Int} {e1 e2 : Bool} {N1 N2 : List (List Int)} {xs : List Rx} {y : Rx} (H1 : PartIs n1 F1 L1 e1 N1 (onesL xs) (Rx.empA xs) (fstA xs) (lstA xs) (folA xs)) (H2 : PartIs n2 F2 L2 e2 N2 (ones y) y.emp (fst y) (lst y) (fol y)) :
    PartIs (n2 + n1) (union F1 (shift F2 n1)) (union L1 (shift L2 n1)) (e1 || e2) (N1 ++ N2.map (fun l => shift l n1)) (onesL (xs ++ [y])) (Rx.empA (xs ++ [y])) (fstA (xs ++ [y])) (lstA (xs ++ [y])) (folA (xs ++ [y])) := by
  have hn1 := H1.num
  have hn2 := H2.num
  refine ⟨by rw [onesL_snoc]; omega, by rw [empA_snoc, H1.emp, H2.emp], ?_, ?_, ?_, ?_⟩
  · refine (rise_union H1.fst (rise_shift H2.fst n1)).congr fun p => ?_
    rw [fstA_snoc, hn1]
  · refine (rise_union H1.lst (rise_shift H2.lst n1)).congr fun p => ?_
    rw [lstA_snoc, hn1]
  · rw [List.length_append, List.length_map, H1.len, H2.len, onesL_snoc]
  · intro i h
    refine (beside_nxt (n1 := n1) (by rw [H1.len, hn1]) H1.nxt H2.nxt i h).congr fun q => ?_
    rw [folA_snoc]
    constructor
    · rintro (⟨_, h3⟩ | ⟨i', q', e, rfl, h3⟩)
      · exact .inl h3
      · exact .inr ⟨i', q', by omega, by omega, h3⟩
    · rintro (h3 | ⟨i', q', e, rfl, h3⟩)
      · exact .inl ⟨by have := (folA_lt _ _ _ h3).1; omega, h3⟩
      · exact .inr ⟨i', q', by omega, by omega, h3⟩
theorem part_star {n : Nat} {F L : List Int} {e : Bool} {N : List (List Int)} {x : Rx} {f : Nat → Bool} (H : PartIs n F L e N (ones x) x.emp (fst x) (lst x) (fol x)) :
    PartIs n F L true (upd N L F) (ones (.node 4 f [x])) (Rx.emp (.node 4 f [x])) (fst (.node 4 f [x])) (lst (.node 4 f [x])) (fol (.node 4 f [x])) := by
  have ho : ones (.node 4 f [x]) = ones x := by rw [ones_kids f [x] (by decide)]; simp [onesL]
  have fA : ∀ p, fstA [x] p ↔ fst x p := fun p => by simp [fstA]
  have lA : ∀ p, lstA [x] p ↔ lst x p := fun p => by simp [lstA]
  have wA : ∀ p q, folA [x] p q ↔ fol x p q := fun p q => by simp [folA]
  refine ⟨by rw [ho]; exact H.num, by simp [Rx.emp], H.fst.congr fun p => ?_, H.lst.congr fun p => ?_, by rw [upd_len, H.len, ho], fun i h => ?_⟩
  · simp only [fst]; exact (fA p).symm
  · simp only [lst]; exact (lA p).symm
  · rw [upd_len] at h
    rw [upd_get _ _ _ H.lst.up H.lst.nn i h]
    by_cases hi : (i : Int) ∈ L
    · rw [if_pos hi]
      have hl := (H.lst.is i).1 hi
      refine (rise_union (H.nxt i h) H.fst).congr fun q => ?_
      simp only [fol]
      rw [wA, lA, fA]
      exact ⟨fun h => h.imp id (fun h => ⟨hl, h⟩), fun h => h.imp id (fun h => h.2)⟩
    · rw [if_neg hi]
      have hl : ¬ lst x i := fun h3 => hi ((H.lst.is i).2 h3)
      refine (H.nxt i h).congr fun q => ?_
      simp only [fol]
      rw [wA, lA, fA]
      exact ⟨.inl, fun h => h.elim id (fun h => absurd h.1 hl)⟩
end Nf
end Go.Proofs.Ytnbbepgjpfhjdaa
namespace Go.Proofs.Ytnbbepgjpfhjdaa
set_option linter.unusedVariables false
set_option linter.unusedSimpArgs false
open Go.RowKit
structure Nh.PB (w : World) (b : Nat) (n : Int) (vF vL : Value) (e : Bool) (vN : Value) : Prop where
  c0 : w.cell? ⟨b, 0, none⟩ = some (.int .i64 n)
  c1 : w.cell? ⟨b, 1, none⟩ = some vF
  c2 : w.cell? ⟨b, 2, none⟩ = some vL
  c3 : w.cell? ⟨b, 3, none⟩ = some (.bool e)
  c4 : w.cell? ⟨b, 4, none⟩ = some vN
  z : ∀ i, i < 5 → w.frozen? ⟨b, i, none⟩ = false
theorem Nh.PB.lt {w : World} {b : Nat} {n : Int} {vF vL : Value} {e : Bool} {vN : Value} (h : Nh.PB w b n vF vL e vN) : b < w.heap.size := World.block_lt_of_cell? w _ h.c0
theorem Nh.PB.only {w w' : World} {b : Nat} {n : Int} {vF vL : Value} {e : Bool} {vN : Value} (h : Nh.PB w b n vF vL e vN) (hb : w'.heap[b]? = w.heap[b]?) : Nh.PB w' b n vF vL e vN :=
  ⟨(World.cell?_of_block (a := ⟨b, 0, none⟩) hb).trans h.c0, (World.cell?_of_block (a := ⟨b, 1, none⟩) hb).trans h.c1, (World.cell?_of_block (a := ⟨b, 2, none⟩) hb).trans h.c2, (World.cell?_of_block (a := ⟨b, 3, none⟩) hb).trans h.c3, (World.cell?_of_block (a := ⟨b, 4, none⟩) hb).trans h.c4, fun i hi => (World.frozen?_of_block (a := ⟨b, i, none⟩) hb).trans (h.z i hi)⟩
theorem Nh.PB.up {w w' : World} {b : Nat} {n : Int} {vF vL : Value} {e : Bool} {vN : Value} (h : Nh.PB w b n vF vL e vN) (hb : Below w.heap.size w w') : Nh.PB w' b n vF vL e vN := h.only (hb.block b h.lt)
theorem Nh.PB.far {w : World} {b : Nat} {n : Int} {vF vL : Value} {e : Bool} {vN : Value} (h : Nh.PB w b n vF vL e vN) {d i : Nat} (hd : d ≠ b) (x : Value) : Nh.PB (w.setCell ⟨d, i, none⟩ x) b n vF vL e vN := h.only (Below.heap_setCell _ _ _ _ (Ne.symm hd))
theorem Nh.PB.grown {w w' : World} {b : Nat} {n : Int} {vF vL : Value} {e : Bool} {vN : Value} {row : Option Nat} (h : Nh.PB w b n vF vL e vN) (hg : w.grownBy w' row) (hr : ¬ row = some b) : Nh.PB w' b n vF vL e vN := h.only (hg.block b h.lt (fun e => hr e.symm))
theorem Nh.pb_new (w : World) (n : Int) (vF vL : Value) (e : Bool) (vN : Value) : Nh.PB (w.alloc (.cells #[.int .i64 n, vF, vL, .bool e, vN] 87)) w.heap.size n vF vL e vN := by
  refine ⟨?_, ?_, ?_, ?_, ?_, fun i hi => ?_⟩ <;> simp [go_sem]
theorem Nh.PB.set0 {w : World} {b : Nat} {n : Int} {vF vL : Value} {e : Bool} {vN : Value} (h : Nh.PB w b n vF vL e vN) (m : Int) : Nh.PB (w.setCell ⟨b, 0, none⟩ (.int .i64 m)) b m vF vL e vN := by
  obtain ⟨c0, c1, c2, c3, c4, z⟩ := h
  refine ⟨?_, ?_, ?_, ?_, ?_, fun i hi => by simpa using z i hi⟩ <;> simp [go_sem, c0, c1, c2, c3, c4]
theorem Nh.PB.set1 {w : World} {b : Nat} {n : Int} {vF vL : Value} {e : Bool} {vN : Value} (h : Nh.PB w b n vF vL e vN) (x : Value) : Nh.PB (w.setCell ⟨b, 1, none⟩ x) b n x vL e vN := by
  obtain ⟨c0, c1, c2, c3, c4, z⟩ := h
  refine ⟨?_, ?_, ?_, ?_, ?_, fun i hi => by simpa using z i hi⟩ <;> simp [go_sem, c0, c1, c2, c3, c4]
theorem Nh.PB.set2 {w : World} {b : Nat} {n : Int} {vF vL : Value} {e : Bool} {vN : Value} (h : Nh.PB w b n vF vL e vN) (x : Value) : Nh.PB (w.setCell ⟨b, 2, none⟩ x) b n vF x e vN := by
  obtain ⟨c0, c1, c2, c3, c4, z⟩ := h
  refine ⟨?_, ?_, ?_, ?_, ?_, fun i hi => by simpa using z i hi⟩ <;> simp [go_sem, c0, c1, c2, c3, c4]
theorem Nh.PB.set3 {w : World} {b : Nat} {n : Int} {vF vL : Value} {e : Bool} {vN : Value} (h : Nh.PB w b n vF vL e vN) (x : Bool) : Nh.PB (w.setCell ⟨b, 3, none⟩ (.bool x)) b n vF vL x vN := by
  obtain ⟨c0, c1, c2, c3, c4, z⟩ := h
  refine ⟨?_, ?_, ?_, ?_, ?_, fun i hi => by simpa using z i hi⟩ <;> simp [go_sem, c0, c1, c2, c3, c4]
theorem Nh.PB.set4 {w : World} {b : Nat} {n : Int} {vF vL : Value} {e : Bool} {vN : Value} (h : Nh.PB w b n vF vL e vN) (x : Value) : Nh.PB (w.setCell ⟨b, 4, none⟩ x) b n vF vL e x := by
  obtain ⟨c0, c1, c2, c3, c4, z⟩ := h
  refine ⟨?_, ?_, ?_, ?_, ?_, fun i hi => by simpa using z i hi⟩ <;> simp [go_sem, c0, c1, c2, c3, c4]
def Nh.Rows (w : World) (B : Nat → Prop) (rows : List Value) (N : List (List Int)) : Prop := rows.length = N.length ∧ ∀ i (h : i < rows.length) (h' : i < N.length), Nf.Row w B rows[i] N[i]
theorem Nh.Rows.up {w w' : World} {B : Nat → Prop} {rows : List Value} {N : List (List Int)} (h : Nh.Rows w B rows N) (hb : Below w.heap.size w w') : Nh.Rows w' B rows N := ⟨h.1, fun i h1 h2 => (h.2 i h1 h2).up hb⟩
theorem Nh.Rows.mono {w : World} {B B' : Nat → Prop} {rows : List Value} {N : List (List Int)} (h : Nh.Rows w B rows N) (hB : ∀ k, B k → B' k) : Nh.Rows w B' rows N := ⟨h.1, fun i h1 h2 => (h.2 i h1 h2).mono hB⟩
theorem Nh.Rows.lt {w : World} {B : Nat → Prop} {rows : List Value} {N : List (List Int)} (h : Nh.Rows w B rows N) : Nh.Rows w (fun k => B k ∧ k < w.heap.size) rows N := ⟨h.1, fun i h1 h2 => (h.2 i h1 h2).lt⟩
theorem Nh.Rows.grown {w w' : World} {B : Nat → Prop} {rows : List Value} {N : List (List Int)} {row : Option Nat} (h : Nh.Rows w B rows N) (hg : w.grownBy w' row) (hB : ∀ k, B k → some k ≠ row) : Nh.Rows w' B rows N := ⟨h.1, fun i h1 h2 => (h.2 i h1 h2).grown hg hB⟩
theorem Nh.Rows.set {w : World} {B : Nat → Prop} {rows : List Value} {N : List (List Int)} (h : Nh.Rows w B rows N) {b i : Nat} (hb : ¬ B b) (u : Value) : Nh.Rows (w.setCell ⟨b, i, none⟩ u) B rows N := ⟨h.1, fun j h1 h2 => (h.2 j h1 h2).set hb u⟩
theorem Nh.Rows.snoc {w : World} {B : Nat → Prop} {rows : List Value} {N : List (List Int)} (h : Nh.Rows w B rows N) {v : Value} {l : List Int} (hv : Nf.Row w B v l) : Nh.Rows w B (rows ++ [v]) (N ++ [l]) := by
  refine ⟨by simp [h.1], fun i h1 h2 => ?_⟩
  by_cases e : i < rows.length
  · have e' : i < N.length := by rw [← h.1]; exact e
    simp only [List.getElem_append_left e, List.getElem_append_left e']
    exact h.2 i e e'
  · have h0 : i - rows.length = 0 := by simp at h1; omega
    have h0' : i - N.length = 0 := by rw [← h.1]; exact h0
    simp only [List.getElem_append_right (show rows.length ≤ i by omega), List.getElem_append_right (show N.length ≤ i by rw [← h.1]; omega), h0, h0']
    exact hv
theorem Nh.Rows.append {w : World} {B : Nat → Prop} {rows : List Value} {N : List (List Int)} (h : Nh.Rows w B rows N) : ∀ {rows' : List Value} {N' : List (List Int)}, Nh.Rows w B rows' N' → Nh.Rows w B (rows ++ rows') (N ++ N')
  | [], N', h' => by
    have : N' = [] := List.length_eq_zero_iff.1 h'.1.symm
    subst this
    simpa using h
  | v :: r, [], h' => by have := h'.1; simp at this
  | v :: r, l :: N', h' => by
    have h1 := (h.snoc (h'.2 0 (by simp) (by simp))).append (rows' := r) (N' := N') ⟨by have := h'.1; simpa using this, fun i h1 h2 => h'.2 (i + 1) (by simpa using h1) (by simpa using h2)⟩
    simpa using h1
theorem Nh.rows_nil (w : World) (B : Nat → Prop) : Nh.Rows w B [] [] := ⟨rfl, fun i h => by simp at h⟩
theorem Nh.Rows.one {w : World} {B : Nat → Prop} {rows : List Value} {N : List (List Int)} (h : Nh.Rows w B rows N) : ∀ u ∈ rows, u.oneCell' = true := by
  intro u hu
  obtain ⟨i, hi, rfl⟩ := List.getElem_of_mem hu
  obtain ⟨a, n, c, e⟩ := (h.2 i hi (by rw [← h.1]; exact hi)).form
  rw [e]; rfl
theorem Nh.row_same {w w' : World} {B : Nat → Prop} {v : Value} {l : List Int} (h : Nf.Row w B v l) (hs : ∀ k, B k → w'.heap[k]? = w.heap[k]?) : Nf.Row w' B v l := by
  obtain ⟨a, cap, e, h1, h2, h3, h4⟩ := h
  refine ⟨a, cap, e, h1, h2, fun i hi => ?_, h4⟩
  obtain ⟨x, ex, hx⟩ := h3 i hi
  have hx2 : (x.add i).block = x.block := by simp only [Addr.add]; split <;> rfl
  exact ⟨x, ex, (World.cell?_of_block (by rw [hx2]; exact hs _ (h4 x ex (fun e0 => by rw [e0] at hi; simp at hi)))).trans hx⟩
theorem Nh.Rows.same {w w' : World} {B : Nat → Prop} {rows : List Value} {N : List (List Int)} (h : Nh.Rows w B rows N) (hs : ∀ k, B k → w'.heap[k]? = w.heap[k]?) : Nh.Rows w' B rows N := ⟨h.1, fun i h1 h2 => Nh.row_same (h.2 i h1 h2) hs⟩
theorem Nh.own_same {w w' : World} {base : Nat} {v : Value} {rows : List Value} (h : Ng.Own base v rows w) (hs : ∀ k, v.ownBlock = some k → w'.heap[k]? = w.heap[k]?) : Ng.Own base v rows w' := by
  refine ⟨h.1, ?_⟩
  rcases h.2 with h0 | ⟨g, cap, cur, rfl, h1, h2, h3⟩
  · exact .inl h0
  · exact .inr ⟨g, cap, cur, rfl, h1, by rw [hs g rfl]; exact h2, h3⟩
def Nh.put (w : World) (b : Nat) (n : Int) (vF vL : Value) (e : Bool) (vN : Value) : World := ((((w.setCell ⟨b, 0, none⟩ (.int .i64 n)).setCell ⟨b, 1, none⟩ vF).setCell ⟨b, 2, none⟩ vL).setCell ⟨b, 3, none⟩ (.bool e)).setCell ⟨b, 4, none⟩ vN
theorem Nh.put_def (w : World) (b : Nat) (n : Int) (vF vL : Value) (e : Bool) (vN : Value) : Nh.put w b n vF vL e vN = ((((w.setCell ⟨b, 0, none⟩ (.int .i64 n)).setCell ⟨b, 1, none⟩ vF).setCell ⟨b, 2, none⟩ vL).setCell ⟨b, 3, none⟩ (.bool e)).setCell ⟨b, 4, none⟩ vN := rfl
theorem Nh.put_far (w : World) (b : Nat) (n : Int) (vF vL : Value) (e : Bool) (vN : Value) (k : Nat) (h : k ≠ b) : (Nh.put w b n vF vL e vN).heap[k]? = w.heap[k]? := by
  unfold Nh.put
  rw [Below.heap_setCell _ _ _ _ h, Below.heap_setCell _ _ _ _ h, Below.heap_setCell _ _ _ _ h, Below.heap_setCell _ _ _ _ h, Below.heap_setCell _ _ _ _ h]
theorem Nh.put_below {B : Nat} {w u : World} (h : Below B w u) {b : Nat} (hb : B ≤ b) (n : Int) (vF vL : Value) (e : Bool) (vN : Value) : Below B w (Nh.put u b n vF vL e vN) :=
  ((((h.setCell (p := ⟨b, 0, none⟩) hb _).setCell (p := ⟨b, 1, none⟩) hb _).setCell (p := ⟨b, 2, none⟩) hb _).setCell (p := ⟨b, 3, none⟩) hb _).setCell (p := ⟨b, 4, none⟩) hb _
theorem Nh.put_size (w : World) (b : Nat) (n : Int) (vF vL : Value) (e : Bool) (vN : Value) : (Nh.put w b n vF vL e vN).heap.size = w.heap.size := by simp [Nh.put, go_sem]
theorem Nh.put_pb {w : World} {b : Nat} {n' : Int} {vF' vL' : Value} {e' : Bool} {vN' : Value} (h : Nh.PB w b n' vF' vL' e' vN') (n : Int) (vF vL : Value) (e : Bool) (vN : Value) : Nh.PB (Nh.put w b n vF vL e vN) b n vF vL e vN := ((((h.set0 n).set1 vF).set2 vL).set3 e).set4 vN
structure Nh.Small (n : Nat) (F L : List Int) (N : List (List Int)) : Prop where
  n : n ≤ 10000
  f : ∀ x ∈ F, 0 ≤ x ∧ x ≤ 10000
  l : ∀ x ∈ L, 0 ≤ x ∧ x ≤ 10000
  w : ∀ r ∈ N, (∀ x ∈ r, 0 ≤ x ∧ x ≤ 10000) ∧ r.length ≤ 100000
  fl : F.length ≤ 100000
  ll : L.length ≤ 100000
  nl : N.length ≤ 10000
def Nh.BesPost (w : World) (n1 n2 : Nat) (vF1 vL1 : Value) (e1 e2 : Bool) (vN2 : Value) (rows1 : List Value) (F2 L2 : List Int) (N2 : List (List Int)) (e : Ending) (w' : World) : Prop :=
  ∃ vF vL vN rs, e = .returned (.tuple #[.agg #[.int .i64 n1, vF1, vL1, .bool e1, vN], .agg #[.int .i64 (n2 + n1 : Nat), vF, vL, .bool e2, vN2]]) ∧ Nf.Row w' (fun k => w.heap.size ≤ k ∧ some k ≠ vN.ownBlock) vF (Nf.shift F2 n1) ∧ Nf.Row w' (fun k => w.heap.size ≤ k ∧ some k ≠ vN.ownBlock) vL (Nf.shift L2 n1) ∧ Ng.Own w.heap.size vN (rows1 ++ rs) w' ∧ Nh.Rows w' (fun k => w.heap.size ≤ k ∧ some k ≠ vN.ownBlock) rs (N2.map fun l => Nf.shift l n1) ∧ Below w.heap.size w w'
end Go.Proofs.Ytnbbepgjpfhjdaa
