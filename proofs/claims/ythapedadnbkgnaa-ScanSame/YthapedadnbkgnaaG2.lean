/- Regular expressions: plain facts: how a text's signs are read. Regular expressions: plain facts: what is read has right kinds; a part of what may be may be. What the small functions of sets answer, walked. How many bits of a number are 1, reckoned in the way of math/bits: plain facts. What OnesCount64 and Len answer, walked. Sets in memory; what Or and Of answer, walked. -/
import Derived.Test.YthapedadnbkgnaaG1
import Derived.WalkKit
import Derived.WalkSpells
import Derived.WalkLawsBesides
import Derived.LoopN
import Derived.Below
import Derived.Laws.Bits128
namespace Go.Proofs.Ythapedadnbkgnaa
set_option linter.unusedVariables false
set_option linter.unusedSimpArgs false
def Rx.special (c : Int) : Bool := [124, 42, 43, 63, 40, 41, 91, 93, 46, 92].contains c
def Rx.one (f : Nat → Bool) : Rx := .node 1 f []
def Rx.nil : Rx := .node 0 (fun _ => false) []
def Rx.several (k : Nat) : List Rx → Rx
  | [x] => x
  | l => .node k (fun _ => false) l
def Rx.rng (lo hi : Int) (c : Nat) : Bool := decide (lo ≤ c) && decide ((c : Int) ≤ hi)
def Rx.sign (n : Int) : Rx := Rx.several 2 ((Rn.bytesI n).map fun b => Rx.one (Rx.rng b b))
def Rx.but (f : Nat → Bool) : Rx :=
  .node 3 (fun _ => false) [Rx.one fun c => decide (c < 128) && !f c,
    .node 2 (fun _ => false) [Rx.one (Rx.rng 194 223), Rx.one (Rx.rng 128 191)],
    .node 2 (fun _ => false) [Rx.one (Rx.rng 224 239), Rx.one (Rx.rng 128 191), Rx.one (Rx.rng 128 191)],
    .node 2 (fun _ => false) [Rx.one (Rx.rng 240 244), Rx.one (Rx.rng 128 191), Rx.one (Rx.rng 128 191), Rx.one (Rx.rng 128 191)]]
def Rx.star (x : Rx) : Rx := .node 4 (fun _ => false) [x]
def Rx.plus (x : Rx) : Rx := .node 2 (fun _ => false) [x, Rx.star x]
def Rx.opt (x : Rx) : Rx := .node 3 (fun _ => false) [x, Rx.nil]
def Rx.esc : List Int → Option (Int × List Int)
  | [] => none
  | c :: r => if c = 110 then some (10, r) else if c = 116 then some (9, r) else if c = 114 then some (13, r) else if (Rx.special c || c == 45 || c == 94) = true then some (c, r) else none
def Rx.bound : List Int → Option (Int × List Int)
  | [] => none
  | c :: r => if c = 92 then Rx.esc r else if (decide (127 < c) || c == 93 || c == 45 || c == 94) = true then none else some (c, r)
def Rx.item (l : List Int) : Option ((Int × Int) × List Int) :=
  match Rx.bound l with
  | none => none
  | some (lo, r) =>
    if r.head? = some 45 then
      match Rx.bound (r.drop 1) with
      | none => none
      | some (hi, r') => if hi < lo then none else some ((lo, hi), r')
    else some ((lo, lo), r)
theorem Rx.esc_len {l : List Int} {c : Int} {r : List Int} (h : Rx.esc l = some (c, r)) : r.length < l.length := by
  cases l with
  | nil => simp [Rx.esc] at h
  | cons a t =>
    simp only [Rx.esc] at h
    repeat' (split at h)
    all_goals (first | (simp only [Option.some.injEq, Prod.mk.injEq] at h; rw [← h.2]; simp) | simp at h)
theorem Rx.bound_len {l : List Int} {c : Int} {r : List Int} (h : Rx.bound l = some (c, r)) : r.length < l.length := by
  cases l with
  | nil => simp [Rx.bound] at h
  | cons a t =>
    simp only [Rx.bound] at h
    split at h
    · have := Rx.esc_len h; simp; omega
    · split at h
      · simp at h
      · simp only [Option.some.injEq, Prod.mk.injEq] at h; rw [← h.2]; simp
theorem Rx.item_len {l : List Int} {p : Int × Int} {r : List Int} (h : Rx.item l = some (p, r)) : r.length < l.length := by
  simp only [Rx.item] at h
  split at h
  · simp at h
  · rename_i lo r1 h1
    have h1 := Rx.bound_len h1
    split at h
    · split at h
      · simp at h
      · rename_i hi r2 h2
        have h2 := Rx.bound_len h2
        split at h
        · simp at h
        · simp only [Option.some.injEq, Prod.mk.injEq] at h; rw [← h.2]; simp at h2; omega
    · simp only [Option.some.injEq, Prod.mk.injEq] at h; rw [← h.2]; exact h1
def Rx.items (f : Nat → Bool) (l : List Int) : Option ((Nat → Bool) × List Int) :=
  match h : Rx.item l with
  | none => none
  | some ((lo, hi), r) => if r.head? = some 93 then some ((fun c => f c || Rx.rng lo hi c), r.drop 1) else Rx.items (fun c => f c || Rx.rng lo hi c) r
termination_by l.length
decreasing_by exact Rx.item_len h
theorem Rx.items_eq (f : Nat → Bool) (l : List Int) : Rx.items f l = match Rx.item l with
    | none => none
    | some ((lo, hi), r) => if r.head? = some 93 then some ((fun c => f c || Rx.rng lo hi c), r.drop 1) else Rx.items (fun c => f c || Rx.rng lo hi c) r := by
  rw [Rx.items]; split <;> simp_all
theorem Rx.items_len : ∀ (n : Nat) (f : Nat → Bool) (l : List Int) (g : Nat → Bool) (r : List Int), l.length ≤ n → Rx.items f l = some (g, r) → r.length < l.length
  | n, f, l, g, r, hn, h => by
    rw [Rx.items_eq] at h
    split at h
    · simp at h
    · rename_i lo hi r1 h1
      have h1 := Rx.item_len h1
      split at h
      · simp only [Option.some.injEq, Prod.mk.injEq] at h; rw [← h.2]; simp; omega
      · cases n with
        | zero => omega
        | succ n => have := Rx.items_len n _ _ _ _ (by omega) h; omega
def Rx.cls (l : List Int) : Option (Rx × List Int) :=
  if l.head? = some 94 then (Rx.items (fun _ => false) (l.drop 1)).map fun p => (Rx.but (fun c => p.1 c || Rx.rng 10 10 c), p.2)
  else (Rx.items (fun _ => false) l).map fun p => (Rx.one p.1, p.2)
theorem Rx.cls_len {l : List Int} {x : Rx} {r : List Int} (h : Rx.cls l = some (x, r)) : r.length < l.length := by
  simp only [Rx.cls] at h
  split at h
  · simp only [Option.map_eq_some_iff, Prod.mk.injEq] at h
    obtain ⟨⟨g, r'⟩, h1, _, h2⟩ := h
    have := Rx.items_len _ _ _ _ _ (Nat.le_refl _) h1
    simp only at h2; subst h2; simp at this; omega
  · simp only [Option.map_eq_some_iff, Prod.mk.injEq] at h
    obtain ⟨⟨g, r'⟩, h1, _, h2⟩ := h
    have := Rx.items_len _ _ _ _ _ (Nat.le_refl _) h1
    simp only at h2; subst h2; exact this
def Rx.post (x : Rx) : List Int → Rx × List Int
  | [] => (x, [])
  | c :: r => if c = 42 then Rx.post (Rx.star x) r else if c = 43 then Rx.post (Rx.plus x) r else if c = 63 then Rx.post (Rx.opt x) r else (x, c :: r)
theorem Rx.post_len : ∀ (l : List Int) (x : Rx), (Rx.post x l).2.length ≤ l.length
  | [], x => by simp [Rx.post]
  | c :: r, x => by
    simp only [Rx.post]
    repeat' split
    · have := Rx.post_len r (Rx.star x); simp; omega
    · have := Rx.post_len r (Rx.plus x); simp; omega
    · have := Rx.post_len r (Rx.opt x); simp; omega
    · simp
def Rx.catOf : List Rx → Rx
  | [] => Rx.nil
  | l => Rx.several 2 l
mutual
def Rx.repN : Nat → List Int → Option (Rx × List Int)
  | 0, _ => none
  | _ + 1, [] => none
  | q + 1, c :: r =>
    if c = 40 then
      match Rx.altN q r with
      | none => none
      | some (xs, t) => if t.head? = some 41 then some (Rx.post (Rx.several 3 xs) (t.drop 1)) else none
    else if c = 91 then (Rx.cls r).map fun p => Rx.post p.1 p.2
    else if c = 46 then some (Rx.post (Rx.but (Rx.rng 10 10)) r)
    else if c = 92 then (Rx.esc r).map fun p => Rx.post (Rx.sign p.1) p.2
    else if Rx.special c = true then none
    else some (Rx.post (Rx.sign c) r)
def Rx.catN : Nat → List Int → Option (List Rx × List Int)
  | 0, _ => none
  | q + 1, l =>
    if (l.head? = none ∨ l.head? = some 124) ∨ l.head? = some 41 then some ([], l)
    else match Rx.repN q l with
      | none => none
      | some (x, r) => match Rx.catN q r with
        | none => none
        | some (xs, t) => some (x :: xs, t)
def Rx.altN : Nat → List Int → Option (List Rx × List Int)
  | 0, _ => none
  | q + 1, l => match Rx.catN q l with
    | none => none
    | some (xs, r) => if r.head? = some 124 then (match Rx.altN q (r.drop 1) with
        | none => none
        | some (ys, t) => some (Rx.catOf xs :: ys, t))
      else some ([Rx.catOf xs], r)
end
theorem Rx.parse_len : ∀ (q : Nat), (∀ (l : List Int) x r, Rx.repN q l = some (x, r) → r.length < l.length) ∧ (∀ (l : List Int) xs r, Rx.catN q l = some (xs, r) → r.length ≤ l.length) ∧ (∀ (l : List Int) xs r, Rx.altN q l = some (xs, r) → r.length ≤ l.length)
  | 0 => by simp [Rx.repN, Rx.catN, Rx.altN]
  | q + 1 => by
    obtain ⟨hr, hc, ha⟩ := Rx.parse_len q
    refine ⟨?_, ?_, ?_⟩
    · intro l x r h
      cases l with
      | nil => simp [Rx.repN] at h
      | cons c t =>
        simp only [Rx.repN] at h
        split at h
        · split at h
          · simp at h
          · rename_i xs u hu
            have := ha _ _ _ hu
            split at h
            · simp only [Option.some.injEq] at h
              have h2 := Rx.post_len (u.drop 1) (Rx.several 3 xs); rw [h] at h2; simp at h2 ⊢; omega
            · simp at h
        · split at h
          · simp only [Option.map_eq_some_iff] at h
            obtain ⟨⟨y, u⟩, h1, h2⟩ := h
            have := Rx.cls_len h1
            have h3 := Rx.post_len u y; simp only at h2; rw [h2] at h3; simp at h3 ⊢; omega
          · split at h
            · simp only [Option.some.injEq] at h
              have h3 := Rx.post_len t (Rx.but (Rx.rng 10 10)); rw [h] at h3; simp at h3 ⊢; omega
            · split at h
              · simp only [Option.map_eq_some_iff] at h
                obtain ⟨⟨y, u⟩, h1, h2⟩ := h
                have := Rx.esc_len h1
                have h3 := Rx.post_len u (Rx.sign y); simp only at h2; rw [h2] at h3; simp at h3 ⊢; omega
              · split at h
                · simp at h
                · simp only [Option.some.injEq] at h
                  have h3 := Rx.post_len t (Rx.sign c); rw [h] at h3; simp at h3 ⊢; omega
    · intro l xs r h
      simp only [Rx.catN] at h
      split at h
      · simp only [Option.some.injEq, Prod.mk.injEq] at h; rw [h.2]; exact Nat.le_refl _
      · split at h
        · simp at h
        · rename_i x u h1
          split at h
          · simp at h
          · rename_i ys t h2
            simp only [Option.some.injEq, Prod.mk.injEq] at h
            have := hr _ _ _ h1; have := hc _ _ _ h2
            rw [← h.2]; omega
    · intro l xs r h
      simp only [Rx.altN] at h
      split at h
      · simp at h
      · rename_i ys u h1
        have h3 := hc _ _ _ h1
        split at h
        · split at h
          · simp at h
          · rename_i zs t h2
            simp only [Option.some.injEq, Prod.mk.injEq] at h
            have := ha _ _ _ h2
            rw [← h.2]; simp at this; omega
        · simp only [Option.some.injEq, Prod.mk.injEq] at h; rw [← h.2]; exact h3
theorem Rx.parse_more : ∀ (q : Nat), (∀ l : List Int, 3 * l.length + 1 ≤ q → Rx.repN (q + 1) l = Rx.repN q l) ∧ (∀ l : List Int, 3 * l.length + 2 ≤ q → Rx.catN (q + 1) l = Rx.catN q l) ∧ (∀ l : List Int, 3 * l.length + 3 ≤ q → Rx.altN (q + 1) l = Rx.altN q l)
  | 0 => ⟨fun _ h => by omega, fun _ h => by omega, fun _ h => by omega⟩
  | q + 1 => by
    obtain ⟨hr, hc, ha⟩ := Rx.parse_more q
    refine ⟨?_, ?_, ?_⟩
    · intro l h
      cases l with
      | nil => simp [Rx.repN]
      | cons c t =>
        rw [Rx.repN, Rx.repN, ha t (by simp at h; omega)]
    · intro l h
      rw [Rx.catN, Rx.catN, hr l (by omega)]
      split
      · rfl
      · cases h1 : Rx.repN q l with
        | none => rfl
        | some p =>
          obtain ⟨x, r⟩ := p
          have := (Rx.parse_len q).1 _ _ _ h1
          simp only [hc r (by omega)]
    · intro l h
      rw [Rx.altN, Rx.altN, hc l (by omega)]
      cases h1 : Rx.catN q l with
      | none => rfl
      | some p =>
        obtain ⟨xs, r⟩ := p
        have h2 := (Rx.parse_len q).2.1 _ _ _ h1
        simp only
        split
        · rename_i h3
          rw [ha (r.drop 1) (by
            cases r with
            | nil => simp at h3
            | cons a b => simp at h2 ⊢; omega)]
        · rfl
theorem Rx.cat_more {q : Nat} {l : List Int} (h : 3 * l.length + 2 ≤ q) : Rx.catN q l = Rx.catN (3 * l.length + 2) l := by
  induction q with
  | zero => omega
  | succ q ih =>
    by_cases e : 3 * l.length + 2 = q + 1
    · rw [e]
    · rw [(Rx.parse_more q).2.1 l (by omega), ih (by omega)]
theorem Rx.alt_more {q : Nat} {l : List Int} (h : 3 * l.length + 3 ≤ q) : Rx.altN q l = Rx.altN (3 * l.length + 3) l := by
  induction q with
  | zero => omega
  | succ q ih =>
    by_cases e : 3 * l.length + 3 = q + 1
    · rw [e]
    · rw [(Rx.parse_more q).2.2 l (by omega), ih (by omega)]
def Rx.rep (l : List Int) : Option (Rx × List Int) := Rx.repN (3 * l.length + 1) l
def Rx.cat (l : List Int) : Option (List Rx × List Int) := Rx.catN (3 * l.length + 2) l
def Rx.alt (l : List Int) : Option (List Rx × List Int) := Rx.altN (3 * l.length + 3) l
theorem Rx.rep_len {l : List Int} {x : Rx} {r : List Int} (h : Rx.rep l = some (x, r)) : r.length < l.length := (Rx.parse_len _).1 _ _ _ h
theorem Rx.cat_len {l : List Int} {xs : List Rx} {r : List Int} (h : Rx.cat l = some (xs, r)) : r.length ≤ l.length := (Rx.parse_len _).2.1 _ _ _ h
theorem Rx.alt_len {l : List Int} {xs : List Rx} {r : List Int} (h : Rx.alt l = some (xs, r)) : r.length ≤ l.length := (Rx.parse_len _).2.2 _ _ _ h
theorem Rx.rep_nil : Rx.rep [] = none := by simp [Rx.rep, Rx.repN]
theorem Rx.rep_cons (c : Int) (r : List Int) : Rx.rep (c :: r) =
    if c = 40 then
      match Rx.alt r with
      | none => none
      | some (xs, t) => if t.head? = some 41 then some (Rx.post (Rx.several 3 xs) (t.drop 1)) else none
    else if c = 91 then (Rx.cls r).map fun p => Rx.post p.1 p.2
    else if c = 46 then some (Rx.post (Rx.but (Rx.rng 10 10)) r)
    else if c = 92 then (Rx.esc r).map fun p => Rx.post (Rx.sign p.1) p.2
    else if Rx.special c = true then none
    else some (Rx.post (Rx.sign c) r) := by
  rw [Rx.rep, show 3 * (c :: r).length + 1 = (3 * r.length + 3) + 1 by simp; omega, Rx.repN]
  rfl
theorem Rx.cat_eq (l : List Int) : Rx.cat l =
    if (l.head? = none ∨ l.head? = some 124) ∨ l.head? = some 41 then some ([], l)
    else match Rx.rep l with
      | none => none
      | some (x, r) => match Rx.cat r with
        | none => none
        | some (xs, t) => some (x :: xs, t) := by
  rw [Rx.cat, Rx.catN]
  split
  · rfl
  · rw [show Rx.repN (3 * l.length + 1) l = Rx.rep l from rfl]
    cases h1 : Rx.rep l with
    | none => rfl
    | some p =>
      obtain ⟨x, r⟩ := p
      have := Rx.rep_len h1
      simp only
      rw [Rx.cat_more (q := 3 * l.length + 1) (l := r) (by omega)]
      rfl
theorem Rx.alt_eq (l : List Int) : Rx.alt l = match Rx.cat l with
    | none => none
    | some (xs, r) => if r.head? = some 124 then (match Rx.alt (r.drop 1) with
        | none => none
        | some (ys, t) => some (Rx.catOf xs :: ys, t))
      else some ([Rx.catOf xs], r) := by
  rw [Rx.alt, Rx.altN, show Rx.catN (3 * l.length + 2) l = Rx.cat l from rfl]
  cases h1 : Rx.cat l with
  | none => rfl
  | some p =>
    obtain ⟨xs, r⟩ := p
    have h2 := Rx.cat_len h1
    simp only
    split
    · rename_i h3
      rw [Rx.alt_more (q := 3 * l.length + 2) (l := r.drop 1) (by
        cases r with
        | nil => simp at h3
        | cons a b => simp at h2 ⊢; omega)]
      rfl
    · rfl
def Rx.read (l : List Int) : Option Rx := match Rx.alt l with
  | some (xs, []) => some (Rx.several 3 xs)
  | _ => none
theorem Rx.wfL_all : ∀ {l : List Rx}, Rx.wfL l = true ↔ ∀ x ∈ l, x.wf = true
  | [] => by simp [Rx.wfL]
  | x :: r => by simp [Rx.wfL, Rx.wfL_all (l := r)]
theorem Rx.wf_kids {k : Nat} {f : Nat → Bool} {l : List Rx} (hk : k = 2 ∨ k = 3) (hl : Rx.wfL l = true) : (Rx.node k f l).wf = true := by
  rcases hk with rfl | rfl <;> simp [Rx.wf, hl]
theorem Rx.wf_one (f : Nat → Bool) : (Rx.one f).wf = true := by simp [Rx.one, Rx.wf, Rx.wfL]
theorem Rx.wf_several {k : Nat} {l : List Rx} (hk : k = 2 ∨ k = 3) (hl : Rx.wfL l = true) : (Rx.several k l).wf = true := by
  unfold Rx.several
  split
  · simpa [Rx.wfL] using hl
  · exact Rx.wf_kids hk hl
theorem Rx.wf_sign (n : Int) : (Rx.sign n).wf = true := by
  refine Rx.wf_several (.inl rfl) (Rx.wfL_all.2 fun x hx => ?_)
  simp only [List.mem_map] at hx
  obtain ⟨b, _, rfl⟩ := hx
  exact Rx.wf_one _
theorem Rx.wf_but (f : Nat → Bool) : (Rx.but f).wf = true := by simp [Rx.but, Rx.wf, Rx.wfL, Rx.wf_one]
theorem Rx.part_le : ∀ {l : List Rx} {x : Rx}, x ∈ l → x.size ≤ Rx.sizeL l ∧ x.depth ≤ Rx.depthL l
  | [], x, h => by simp at h
  | y :: r, x, h => by
    simp only [Rx.sizeL, Rx.depthL]
    rcases List.mem_cons.1 h with rfl | h
    · omega
    · have := Rx.part_le h; omega
theorem Rx.may_kid {k : Nat} {f : Nat → Bool} {l : List Rx} {d : Nat} (h : (Rx.node k f l).may d = true) {x : Rx} (hx : x ∈ l) : x.may (d + 1) = true := by
  obtain ⟨h1, h2, h3⟩ := Rx.may_iff.1 h
  have h4 := Rx.part_le hx
  simp only [Rx.wf, Bool.and_eq_true] at h1
  simp only [Rx.depth] at h2; simp only [Rx.size] at h3
  exact Rx.may_iff.2 ⟨Rx.wfL_all.1 h1.2 x hx, by omega, by omega⟩
theorem Rx.may_less {x : Rx} {d e : Nat} (h : x.may d = true) (he : e ≤ d) : x.may e = true := by
  obtain ⟨h1, h2, h3⟩ := Rx.may_iff.1 h
  exact Rx.may_iff.2 ⟨h1, by omega, h3⟩
theorem Rx.may_part {k : Nat} {f : Nat → Bool} {l : List Rx} {d : Nat} (h : (Rx.node k f l).may d = true) {x : Rx} (hx : x ∈ l) : x.may d = true := Rx.may_less (Rx.may_kid h hx) (Nat.le_succ d)
theorem Rx.may_several {k : Nat} {l : List Rx} {d : Nat} (h : (Rx.several k l).may d = true) {x : Rx} (hx : x ∈ l) : x.may d = true := by
  unfold Rx.several at h
  split at h
  · simp at hx; rw [hx]; exact h
  · exact Rx.may_part h hx
theorem Rx.may_catOf {l : List Rx} {d : Nat} (h : (Rx.catOf l).may d = true) {x : Rx} (hx : x ∈ l) : x.may d = true := by
  unfold Rx.catOf at h
  split at h
  · simp at hx
  · exact Rx.may_several h hx
theorem Rx.may_one (f : Nat → Bool) : (Rx.one f).may 1 = true := Rx.may_iff.2 ⟨Rx.wf_one f, by simp [Rx.one, Rx.depth, Rx.depthL], by simp [Rx.one, Rx.size, Rx.sizeL]⟩
theorem Rx.may_but (f : Nat → Bool) : (Rx.but f).may 1 = true := Rx.may_iff.2 ⟨Rx.wf_but f, by simp [Rx.but, Rx.one, Rx.depth, Rx.depthL], by simp [Rx.but, Rx.one, Rx.size, Rx.sizeL]⟩
theorem Rx.ones_le : ∀ (l : List Int), Rx.sizeL (l.map fun b => Rx.one (Rx.rng b b)) = l.length ∧ Rx.depthL (l.map fun b => Rx.one (Rx.rng b b)) ≤ 1
  | [] => by simp [Rx.sizeL, Rx.depthL]
  | b :: r => by
    have := Rx.ones_le r
    simp only [List.map_cons, Rx.sizeL, Rx.depthL, List.length_cons]
    simp only [Rx.one, Rx.size, Rx.depth, Rx.sizeL, Rx.depthL] at this ⊢
    omega
theorem Rx.bytes_few (n : Int) : (Rn.bytesI n).length ≤ 4 := by
  simp only [Rn.bytesI]
  repeat' split
  all_goals simp
theorem Rx.may_sign (n : Int) : (Rx.sign n).may 1 = true := by
  have h := Rx.wf_sign n
  unfold Rx.sign Rx.several at h ⊢
  split
  · rename_i x hx
    have : x ∈ ((Rn.bytesI n).map fun b => Rx.one (Rx.rng b b)) := by rw [hx]; simp
    simp only [List.mem_map] at this
    obtain ⟨b, _, rfl⟩ := this
    exact Rx.may_one _
  · have h1 := Rx.ones_le (Rn.bytesI n); have h2 := Rx.bytes_few n
    refine Rx.may_iff.2 ⟨Rx.wf_kids (.inl rfl) (Rx.wfL_all.2 fun x hx => ?_), ?_, ?_⟩
    · simp only [List.mem_map] at hx
      obtain ⟨b, _, rfl⟩ := hx
      exact Rx.wf_one _
    · simp only [Rx.depth]; omega
    · simp only [Rx.size]; omega
theorem Rx.may_cls {l : List Int} {x : Rx} {r : List Int} (h : Rx.cls l = some (x, r)) : x.may 1 = true := by
  simp only [Rx.cls] at h
  split at h
  · simp only [Option.map_eq_some_iff, Prod.mk.injEq] at h
    obtain ⟨_, _, h2, _⟩ := h
    rw [← h2]; exact Rx.may_but _
  · simp only [Option.map_eq_some_iff, Prod.mk.injEq] at h
    obtain ⟨_, _, h2, _⟩ := h
    rw [← h2]; exact Rx.may_one _
end Go.Proofs.Ythapedadnbkgnaa
namespace Go.Proofs.Ythapedadnbkgnaa
set_option linter.unusedVariables false
set_option linter.unusedSimpArgs false
open Go.RowKit
theorem Bs.ret_bool {a b : Bool} (h : a = b) : Ending.returned (.bool a) = .returned (.bool b) := by rw [h]
theorem Bs.at_word (f : Nat → Bool) (c : Nat) (hc : c < 256) : [Value.int .u64 ↑(Bs.word f 0), .int .u64 ↑(Bs.word f 1), .int .u64 ↑(Bs.word f 2), .int .u64 ↑(Bs.word f 3)][c / 64]? = some (.int .u64 ↑(Bs.word f (c / 64))) := by
  have hi : c / 64 = 0 ∨ c / 64 = 1 ∨ c / 64 = 2 ∨ c / 64 = 3 := by omega
  rcases hi with hi | hi | hi | hi <;> rw [hi] <;> rfl
theorem Bs.idx0 (a b c d : Value) (w : World) : (Instr.index 25 (.agg #[a, b, c, d]) (.int .i64 0)).run Try.prog w = .ok a w := by kernel_rfl
theorem Bs.idx1 (a b c d : Value) (w : World) : (Instr.index 25 (.agg #[a, b, c, d]) (.int .i64 1)).run Try.prog w = .ok b w := by kernel_rfl
theorem Bs.idx2 (a b c d : Value) (w : World) : (Instr.index 25 (.agg #[a, b, c, d]) (.int .i64 2)).run Try.prog w = .ok c w := by kernel_rfl
theorem Bs.idx3 (a b c d : Value) (w : World) : (Instr.index 25 (.agg #[a, b, c, d]) (.int .i64 3)).run Try.prog w = .ok d w := by kernel_rfl
theorem Bs.and_i (f g : Nat → Bool) (i : Nat) : bits .and .u64 (Bs.word f i) (Bs.word g i) = (Bs.word (fun c => f c && g c) i : Int) := by
  rw [u64_and_nat _ _ (Bs.word_lt f i) (Bs.word_lt g i), Bs.word_and]
theorem Bs.or_i (f g : Nat → Bool) (i : Nat) : bits .or .u64 (Bs.word f i) (Bs.word g i) = (Bs.word (fun c => f c || g c) i : Int) := by
  rw [u64_or_nat _ _ (Bs.word_lt f i) (Bs.word_lt g i), Bs.word_or]
theorem Bs.less_i (f g : Nat → Bool) (i : Nat) : bits .andNot .u64 (Bs.word f i) (Bs.word g i) = (Bs.word (fun c => f c && !g c) i : Int) := by
  rw [u64_andNot_nat _ _ (Bs.word_lt f i) (Bs.word_lt g i), Bs.word_less]
theorem Bs.not_i (f : Nat → Bool) (i : Nat) : bits .xor .u64 IntKind.u64.max (Bs.word f i) = (Bs.word (fun c => !f c) i : Int) := by
  have e : IntKind.u64.max = ((18446744073709551615 : Nat) : Int) := by decide
  rw [e, u64_xor_nat _ _ (by decide) (Bs.word_lt f i)]
  congr 1
  refine Bs.is_word (Nat.xor_lt_two_pow (n := 64) (by decide) (Bs.word_lt f i)) fun k hk => ?_
  rw [Nat.testBit_xor, Bs.word_bit, show 18446744073709551615 = 2 ^ 64 - 1 from rfl, Nat.testBit_two_pow_sub_one]
  simp [hk]
theorem Bs.bit_is (f : Nat → Bool) (c : Nat) : (bits BinOp.and IntKind.u64 ((Bs.word f (c / 64) : Int) / 2 ^ (c % 64)) 1 == 1) = f c := by
  have h := Bs.has_word f c
  have hl := Bs.word_lt f (c / 64)
  have e : ((Bs.word f (c / 64) : Int) / 2 ^ (c % 64)) = ((Bs.word f (c / 64) / 2 ^ (c % 64) : Nat) : Int) := by simp
  have hq : Bs.word f (c / 64) / 2 ^ (c % 64) < 18446744073709551616 := Nat.lt_of_le_of_lt (Nat.div_le_self _ _) hl
  rw [e, show (1 : Int) = ((1 : Nat) : Int) from rfl, u64_and_nat _ 1 hq (by decide), nat_mask1, h]
  cases f c <;> rfl
set_option maxRecDepth 100000 in
set_option maxHeartbeats 400000 in
theorem hasB_any (f : Nat → Bool) (c : Nat) (hc : c < 256) (w : World) : Calls Try.prog 71 #[Bs.val f, .int .u8 c] w fun e w' => e = .returned (.bool (f c)) ∧ Below w.heap.size w w' := by
  have hix := Bs.at_word f c hc
  have hb := Lib.hid (Bs.bit_is f c)
  unfold Bs.val
  go_enter Try.func71, Try.ntmps71
  go_wp2
  go_ret
  exact ⟨Bs.ret_bool hb.out, (Below.refl _ _).alloc (Nat.le_refl _) _⟩
theorem Bs.below3 (w : World) (a b c : Obj) : Below w.heap.size w (((w.alloc a).alloc b).alloc c) := (((Below.refl _ _).alloc (Nat.le_refl _) _).alloc (by simp) _).alloc (by simp; omega) _
theorem Bs.below2 (w : World) (a b : Obj) : Below w.heap.size w ((w.alloc a).alloc b) := ((Below.refl _ _).alloc (Nat.le_refl _) _).alloc (by simp) _
set_option maxRecDepth 100000 in
set_option maxHeartbeats 400000 in
theorem andB_any (f g : Nat → Bool) (w : World) : Calls Try.prog 85 #[Bs.val f, Bs.val g] w fun e w' => e = .returned (Bs.val fun c => f c && g c) ∧ Below w.heap.size w w' := by
  have i0 := Bs.idx0 (.int .u64 ↑(Bs.word g 0)) (.int .u64 ↑(Bs.word g 1)) (.int .u64 ↑(Bs.word g 2)) (.int .u64 ↑(Bs.word g 3))
  have i1 := Bs.idx1 (.int .u64 ↑(Bs.word g 0)) (.int .u64 ↑(Bs.word g 1)) (.int .u64 ↑(Bs.word g 2)) (.int .u64 ↑(Bs.word g 3))
  have i2 := Bs.idx2 (.int .u64 ↑(Bs.word g 0)) (.int .u64 ↑(Bs.word g 1)) (.int .u64 ↑(Bs.word g 2)) (.int .u64 ↑(Bs.word g 3))
  have i3 := Bs.idx3 (.int .u64 ↑(Bs.word g 0)) (.int .u64 ↑(Bs.word g 1)) (.int .u64 ↑(Bs.word g 2)) (.int .u64 ↑(Bs.word g 3))
  have a0 := Bs.and_i f g 0; have a1 := Bs.and_i f g 1; have a2 := Bs.and_i f g 2; have a3 := Bs.and_i f g 3
  unfold Bs.val
  go_enter Try.func85, Try.ntmps85
  go_wp2
  refine wp_loop_rounds 5 ?_
  rw [rounds_succ]
  go_wp2
  rw [rounds_succ]
  go_wp2
  rw [rounds_succ]
  go_wp2
  rw [rounds_succ]
  go_wp2
  rw [rounds_succ]
  go_wp2
  exact bodyPost_ret (v := .agg #[.int .u64 ↑(Bs.word (fun c => f c && g c) 0), .int .u64 ↑(Bs.word (fun c => f c && g c) 1), .int .u64 ↑(Bs.word (fun c => f c && g c) 2), .int .u64 ↑(Bs.word (fun c => f c && g c) 3)]) (by simp [results, Try.results85, go_sem]) rfl ⟨rfl, Bs.below3 _ _ _ _⟩
set_option maxRecDepth 100000 in
set_option maxHeartbeats 400000 in
theorem lessB_any (f g : Nat → Bool) (w : World) : Calls Try.prog 86 #[Bs.val f, Bs.val g] w fun e w' => e = .returned (Bs.val fun c => f c && !g c) ∧ Below w.heap.size w w' := by
  have i0 := Bs.idx0 (.int .u64 ↑(Bs.word g 0)) (.int .u64 ↑(Bs.word g 1)) (.int .u64 ↑(Bs.word g 2)) (.int .u64 ↑(Bs.word g 3))
  have i1 := Bs.idx1 (.int .u64 ↑(Bs.word g 0)) (.int .u64 ↑(Bs.word g 1)) (.int .u64 ↑(Bs.word g 2)) (.int .u64 ↑(Bs.word g 3))
  have i2 := Bs.idx2 (.int .u64 ↑(Bs.word g 0)) (.int .u64 ↑(Bs.word g 1)) (.int .u64 ↑(Bs.word g 2)) (.int .u64 ↑(Bs.word g 3))
  have i3 := Bs.idx3 (.int .u64 ↑(Bs.word g 0)) (.int .u64 ↑(Bs.word g 1)) (.int .u64 ↑(Bs.word g 2)) (.int .u64 ↑(Bs.word g 3))
  have a0 := Bs.less_i f g 0; have a1 := Bs.less_i f g 1; have a2 := Bs.less_i f g 2; have a3 := Bs.less_i f g 3
  unfold Bs.val
  go_enter Try.func86, Try.ntmps86
  go_wp2
  refine wp_loop_rounds 5 ?_
  rw [rounds_succ]
  go_wp2
  rw [rounds_succ]
  go_wp2
  rw [rounds_succ]
  go_wp2
  rw [rounds_succ]
  go_wp2
  rw [rounds_succ]
  go_wp2
  exact bodyPost_ret (v := .agg #[.int .u64 ↑(Bs.word (fun c => f c && !g c) 0), .int .u64 ↑(Bs.word (fun c => f c && !g c) 1), .int .u64 ↑(Bs.word (fun c => f c && !g c) 2), .int .u64 ↑(Bs.word (fun c => f c && !g c) 3)]) (by simp [results, Try.results86, go_sem]) rfl ⟨rfl, Bs.below3 _ _ _ _⟩
set_option maxRecDepth 100000 in
set_option maxHeartbeats 400000 in
theorem notB_any (f : Nat → Bool) (w : World) : Calls Try.prog 95 #[Bs.val f] w fun e w' => e = .returned (Bs.val fun c => !f c) ∧ Below w.heap.size w w' := by
  have i0 := Bs.idx0 (.int .u64 ↑(Bs.word f 0)) (.int .u64 ↑(Bs.word f 1)) (.int .u64 ↑(Bs.word f 2)) (.int .u64 ↑(Bs.word f 3))
  have i1 := Bs.idx1 (.int .u64 ↑(Bs.word f 0)) (.int .u64 ↑(Bs.word f 1)) (.int .u64 ↑(Bs.word f 2)) (.int .u64 ↑(Bs.word f 3))
  have i2 := Bs.idx2 (.int .u64 ↑(Bs.word f 0)) (.int .u64 ↑(Bs.word f 1)) (.int .u64 ↑(Bs.word f 2)) (.int .u64 ↑(Bs.word f 3))
  have i3 := Bs.idx3 (.int .u64 ↑(Bs.word f 0)) (.int .u64 ↑(Bs.word f 1)) (.int .u64 ↑(Bs.word f 2)) (.int .u64 ↑(Bs.word f 3))
  have a0 := Bs.not_i f 0; have a1 := Bs.not_i f 1; have a2 := Bs.not_i f 2; have a3 := Bs.not_i f 3
  have hs : IntKind.u64.signed = false := rfl
  unfold Bs.val
  go_enter Try.func95, Try.ntmps95
  go_wp2
  refine wp_loop_rounds 5 ?_
  rw [rounds_succ]
  go_wp2
  rw [rounds_succ]
  go_wp2
  rw [rounds_succ]
  go_wp2
  rw [rounds_succ]
  go_wp2
  rw [rounds_succ]
  go_wp2
  exact bodyPost_ret (v := .agg #[.int .u64 ↑(Bs.word (fun c => !f c) 0), .int .u64 ↑(Bs.word (fun c => !f c) 1), .int .u64 ↑(Bs.word (fun c => !f c) 2), .int .u64 ↑(Bs.word (fun c => !f c) 3)]) (by simp [results, Try.results95, go_sem]) rfl ⟨rfl, Bs.below2 _ _ _⟩
theorem Bs.new4 {w w1 : World} {a b c d : Value} {t : TypeId} (hb : Below (w.alloc (.cells #[a, b, c, d] t)).heap.size (w.alloc (.cells #[a, b, c, d] t)) w1) :
    w1.cell? ⟨w.heap.size, 0, none⟩ = some a ∧ w1.cell? ⟨w.heap.size, 1, none⟩ = some b ∧ w1.cell? ⟨w.heap.size, 2, none⟩ = some c ∧ w1.cell? ⟨w.heap.size, 3, none⟩ = some d ∧
    w1.frozen? ⟨w.heap.size, 0, none⟩ = false ∧ w1.frozen? ⟨w.heap.size, 1, none⟩ = false ∧ w1.frozen? ⟨w.heap.size, 2, none⟩ = false ∧ w1.frozen? ⟨w.heap.size, 3, none⟩ = false := by
  refine ⟨?_, ?_, ?_, ?_, ?_, ?_, ?_, ?_⟩
  · rw [hb.cell (by simp)]; simp [go_sem]
  · rw [hb.cell (by simp)]; simp [go_sem]
  · rw [hb.cell (by simp)]; simp [go_sem]
  · rw [hb.cell (by simp)]; simp [go_sem]
  · rw [hb.frozen (by simp)]; simp [go_sem]
  · rw [hb.frozen (by simp)]; simp [go_sem]
  · rw [hb.frozen (by simp)]; simp [go_sem]
  · rw [hb.frozen (by simp)]; simp [go_sem]
theorem Bs.set4 {n : Nat} {w w1 : World} (h : Below n w w1) {b : Nat} (hb : n ≤ b) (u v x y : Value) : Below n w ((((w1.setCell ⟨b, 0, none⟩ u).setCell ⟨b, 1, none⟩ v).setCell ⟨b, 2, none⟩ x).setCell ⟨b, 3, none⟩ y) :=
  (((h.setCell hb _).setCell hb _).setCell hb _).setCell hb _
theorem Bs.val_none : Bs.val (fun _ => false) = .agg #[.int .u64 0, .int .u64 0, .int .u64 0, .int .u64 0] := by
  unfold Bs.val; simp only [Bs.word_none]; rfl
set_option maxRecDepth 100000 in
set_option maxHeartbeats 400000 in
theorem allB_any (w : World) : Calls Try.prog 84 #[] w fun e w' => e = .returned (Bs.val fun _ => true) ∧ Below w.heap.size w w' := by
  have hn := fun v => Bs.val_none ▸ notB_any (fun _ => false) v
  simp only [Bool.not_false] at hn
  have HN := Lib.hid hn; clear hn
  go_enter Try.func84, Try.ntmps84
  go_wp2_with fail
  refine (HN.out _).mono ?_
  rintro e w1 ⟨rfl, hb⟩
  unfold Bs.val
  have hn := Bs.new4 hb
  obtain ⟨n0, n1, n2, n3, m0, m1, m2, m3⟩ := hn
  go_wp2
  exact bodyPost_ret (v := .agg #[.int .u64 ↑(Bs.word (fun _ => true) 0), .int .u64 ↑(Bs.word (fun _ => true) 1), .int .u64 ↑(Bs.word (fun _ => true) 2), .int .u64 ↑(Bs.word (fun _ => true) 3)]) (by simp [results, Try.results84, go_sem, n0, n1, n2, n3]) rfl ⟨rfl, Bs.set4 (((Below.refl _ _).alloc (Nat.le_refl _) _).trans (hb.mono (by simp))) (Nat.le_refl _) _ _ _ _⟩
end Go.Proofs.Ythapedadnbkgnaa
namespace Go.Proofs.Ythapedadnbkgnaa
set_option linter.unusedVariables false
set_option linter.unusedSimpArgs false
def Bs.cnt (g : Nat → Bool) : Nat → Nat
  | 0 => 0
  | n + 1 => Bs.cnt g n + if g n then 1 else 0
theorem Bs.cnt_succ (g : Nat → Bool) (n : Nat) : Bs.cnt g (n + 1) = Bs.cnt g n + if g n then 1 else 0 := rfl
theorem Bs.cnt_add (g : Nat → Bool) (a : Nat) : ∀ n, Bs.cnt g (a + n) = Bs.cnt g a + Bs.cnt (fun k => g (a + k)) n
  | 0 => by simp [Bs.cnt]
  | n + 1 => by rw [← Nat.add_assoc, Bs.cnt_succ, Bs.cnt_succ, Bs.cnt_add g a n]; omega
theorem Bs.cnt_le (g : Nat → Bool) : ∀ n, Bs.cnt g n ≤ n
  | 0 => by simp [Bs.cnt]
  | n + 1 => by have := Bs.cnt_le g n; rw [Bs.cnt_succ]; split <;> omega
def Bs.ones : Nat → Nat → Nat
  | 0, _ => 0
  | n + 1, x => x % 2 + Bs.ones n (x / 2)
def Bs.m1 : Nat → Nat | 0 => 0 | n + 1 => 1 + 2 ^ 2 * Bs.m1 n
def Bs.m2 : Nat → Nat | 0 => 0 | n + 1 => 3 + 2 ^ 4 * Bs.m2 n
def Bs.p4 (d : Nat) : Nat := d % 2 + d / 2 % 2 + d / 4 % 2 + d / 8 % 2
open Go.RowKit
theorem Bs.wrap_nat {n : Nat} (h : n < 18446744073709551616) : IntKind.u64.wrap (n : Int) = n := by rw [IntKind.wrap_u64]; omega
end Go.Proofs.Ythapedadnbkgnaa
namespace Go.Proofs.Ythapedadnbkgnaa
set_option linter.unusedVariables false
set_option linter.unusedSimpArgs false
open Go.RowKit
theorem Bs.cell_up {w w1 : World} (hb : Below w.heap.size w w1) {a : Addr} {v : Value} (h : w.cell? a = some v) : w1.cell? a = some v := by rw [hb.cell (World.block_lt_of_cell? w _ h)]; exact h
theorem Bs.frz_up {w w1 : World} (hb : Below w.heap.size w w1) {a : Addr} {v : Value} (h : w.cell? a = some v) (hf : w.frozen? a = false) : w1.frozen? a = false := by rw [hb.frozen (World.block_lt_of_cell? w _ h)]; exact hf
theorem Bs.below_up {w v v' : World} (h : Below w.heap.size w v) (h' : Below v.heap.size v v') : Below w.heap.size w v' := h.trans (h'.mono h.size)
theorem Bs.below1 (w : World) (o : Obj) : Below w.heap.size w (w.alloc o) := (Below.refl _ _).alloc (Nat.le_refl _) _
theorem Bs.cell_set {w : World} {a p : Addr} {v u : Value} (h : w.cell? a = some v) (hn : p.block ≠ a.block) : (w.setCell p u).cell? a = some v := by
  rw [World.cell?_setCell_other _ _ _ _ (by rintro rfl; exact hn rfl)]; exact h
structure Bs.Box (w : World) (b : Nat) (f : Nat → Bool) : Prop where
  cell : ∀ i, i < 4 → w.cell? ⟨b, i, none⟩ = some (.int .u64 (Bs.word f i))
  frz : ∀ i, i < 4 → w.frozen? ⟨b, i, none⟩ = false
theorem Bs.Box.lt {w : World} {b : Nat} {f : Nat → Bool} (h : Bs.Box w b f) : b < w.heap.size := World.block_lt_of_cell? w _ (h.cell 0 (by decide))
theorem Bs.Box.up {w w1 : World} {b : Nat} {f : Nat → Bool} (h : Bs.Box w b f) (hb : Below w.heap.size w w1) : Bs.Box w1 b f :=
  ⟨fun i hi => Bs.cell_up hb (h.cell i hi), fun i hi => Bs.frz_up hb (h.cell i hi) (h.frz i hi)⟩
theorem Bs.Box.far {w : World} {b d i : Nat} {f : Nat → Bool} (h : Bs.Box w b f) (hn : d ≠ b) (v : Value) : Bs.Box (w.setCell ⟨d, i, none⟩ v) b f :=
  ⟨fun j hj => Bs.cell_set (h.cell j hj) hn, fun j hj => by simpa using h.frz j hj⟩
theorem Bs.Box.far4 {w : World} {b d : Nat} {f : Nat → Bool} (h : Bs.Box w b f) (hn : d ≠ b) (x y z u : Value) : Bs.Box ((((w.setCell ⟨d, 0, none⟩ x).setCell ⟨d, 1, none⟩ y).setCell ⟨d, 2, none⟩ z).setCell ⟨d, 3, none⟩ u) b f :=
  (((h.far hn _).far hn _).far hn _).far hn _
theorem Bs.Box.drew {w : World} {b : Nat} {f : Nat → Bool} (h : Bs.Box w b f) : Bs.Box w.drew b f := ⟨h.cell, h.frz⟩
theorem Bs.four {i : Nat} (h : i < 4) : i = 0 ∨ i = 1 ∨ i = 2 ∨ i = 3 := by omega
theorem Bs.box_new (w : World) (f : Nat → Bool) (t : TypeId) : Bs.Box (w.alloc (.cells #[.int .u64 (Bs.word f 0), .int .u64 (Bs.word f 1), .int .u64 (Bs.word f 2), .int .u64 (Bs.word f 3)] t)) w.heap.size f := by
  constructor <;> intro i hi <;> rcases Bs.four hi with rfl | rfl | rfl | rfl <;> simp [go_sem]
theorem Bs.box_zero (w : World) (t : TypeId) : Bs.Box (w.alloc (.cells #[.int .u64 0, .int .u64 0, .int .u64 0, .int .u64 0] t)) w.heap.size (fun _ => false) := by
  have h := Bs.box_new w (fun _ => false) t
  simp only [Bs.word_none] at h
  exact h
theorem Bs.Box.write {w : World} {b : Nat} {f : Nat → Bool} (h : Bs.Box w b f) (g : Nat → Bool) :
    Bs.Box ((((w.setCell ⟨b, 0, none⟩ (.int .u64 (Bs.word g 0))).setCell ⟨b, 1, none⟩ (.int .u64 (Bs.word g 1))).setCell ⟨b, 2, none⟩ (.int .u64 (Bs.word g 2))).setCell ⟨b, 3, none⟩ (.int .u64 (Bs.word g 3))) b g := by
  have c0 := h.cell 0 (by decide); have c1 := h.cell 1 (by decide); have c2 := h.cell 2 (by decide); have c3 := h.cell 3 (by decide)
  have f0 := h.frz 0 (by decide); have f1 := h.frz 1 (by decide); have f2 := h.frz 2 (by decide); have f3 := h.frz 3 (by decide)
  constructor <;> intro i hi <;> rcases Bs.four hi with rfl | rfl | rfl | rfl <;> simp [go_sem, c0, c1, c2, c3, f0, f1, f2, f3]
theorem Bs.Box.put {w : World} {b i : Nat} {f g : Nat → Bool} (h : Bs.Box w b f) (hi : i < 4) (hg : ∀ j, j < 4 → j ≠ i → Bs.word g j = Bs.word f j) : Bs.Box (w.setCell ⟨b, i, none⟩ (.int .u64 (Bs.word g i))) b g := by
  refine ⟨fun j hj => ?_, fun j hj => by simpa using h.frz j hj⟩
  by_cases hij : j = i
  · subst hij
    have := h.cell j hj
    simp [go_sem, this]
  · rw [World.cell?_setCell_other _ _ _ _ (by simp [Ne.symm hij]), h.cell j hj, hg j hj hij]
structure Bs.At (w : World) (x : Addr) (f : Nat → Bool) : Prop where
  c0 : w.cell? x = some (.int .u64 (Bs.word f 0))
  c1 : w.cell? ⟨x.block, x.off + 1, none⟩ = some (.int .u64 (Bs.word f 1))
  c2 : w.cell? ⟨x.block, x.off + 2, none⟩ = some (.int .u64 (Bs.word f 2))
  c3 : w.cell? ⟨x.block, x.off + 3, none⟩ = some (.int .u64 (Bs.word f 3))
theorem Bs.At.up {w w' : World} {x : Addr} {f : Nat → Bool} (h : Bs.At w x f) (hb : Below w.heap.size w w') : Bs.At w' x f := ⟨Bs.cell_up hb h.c0, Bs.cell_up hb h.c1, Bs.cell_up hb h.c2, Bs.cell_up hb h.c3⟩
def Bs.Row (w : World) (a : Option Addr) (fs : List (Nat → Bool)) : Prop := ∀ i (h : i < fs.length), ∃ x, a = some x ∧ Bs.At w (x.add (i * 4)) fs[i]
theorem Bs.Row.up {w w' : World} {a : Option Addr} {fs : List (Nat → Bool)} (h : Bs.Row w a fs) (hb : Below w.heap.size w w') : Bs.Row w' a fs := fun i hi => by
  obtain ⟨x, e, h⟩ := h i hi
  exact ⟨x, e, h.up hb⟩
def Bs.orL (fs : List (Nat → Bool)) : Nat → Bool := fun c => fs.any fun f => f c
theorem Bs.orL_snoc (fs : List (Nat → Bool)) (k : Nat) (hk : k < fs.length) : Bs.orL (fs.take (k + 1)) = fun c => Bs.orL (fs.take k) c || fs[k] c := by
  funext c
  unfold Bs.orL
  rw [List.take_succ_eq_append_getElem hk, List.any_append]
  simp
set_option maxRecDepth 100000 in
set_option maxHeartbeats 1000000 in
theorem orB_any (a : Option Addr) (fs : List (Nat → Bool)) (cap : Nat) (w : World) (hR : Bs.Row w a fs) (hn : fs.length ≤ 1000000) :
    Calls Try.prog 106 #[.slice a fs.length cap] w fun e w' => e = .returned (Bs.val (Bs.orL fs)) ∧ Below w.heap.size w w' := by
  have HR := Lib.hid hR; clear hR
  go_enter Try.func106, Try.ntmps106
  go_wp2_with fail
  have B0 := (Bs.box_zero w 25).up (Bs.below1 _ (.cells #[.int .u64 0, .int .u64 0, .int .u64 0, .int .u64 0] 25))
  have B1 := Bs.box_zero (w.alloc (.cells #[.int .u64 0, .int .u64 0, .int .u64 0, .int .u64 0] 25)) 25
  have eN : (w.alloc (.cells #[.int .u64 0, .int .u64 0, .int .u64 0, .int .u64 0] 25)).heap.size = w.heap.size + 1 := by simp [go_sem]
  rw [eN] at B1
  have B : Below w.heap.size w ((w.alloc (.cells #[.int .u64 0, .int .u64 0, .int .u64 0, .int .u64 0] 25)).alloc (.cells #[.int .u64 0, .int .u64 0, .int .u64 0, .int .u64 0] 25)) := Bs.below2 _ _ _
  clear eN
  generalize (w.alloc (.cells #[.int .u64 0, .int .u64 0, .int .u64 0, .int .u64 0] 25)).alloc (.cells #[.int .u64 0, .int .u64 0, .int .u64 0, .int .u64 0] 25) = W at *
  go_loopw [10] (fun i wr => ∃ k : Nat, k ≤ fs.length ∧ i = .int .i64 k ∧ Bs.Box wr (w.heap.size + 1) (Bs.orL (fs.take k)) ∧ Bs.Box wr w.heap.size (fun _ => false) ∧ Below w.heap.size w wr) (fun i _ => fs.length - (intOf i).toNat)
  case atStart => exact ⟨0, Nat.zero_le _, rfl, B1, B0, B⟩
  case round =>
    clear B0 B1 B
    obtain ⟨k, hk, rfl, B1, B0, B⟩ := hrel
    have n1 : w.heap.size ≠ w.heap.size + 1 := by omega
    have m1 : w.heap.size ≤ w.heap.size + 1 := by omega
    by_cases hlt : k < fs.length
    · obtain ⟨x, rfl, hx⟩ := HR.out k hlt
      replace hx := hx.up B
      obtain ⟨x0, x1, x2, x3⟩ := hx
      have hsn := Bs.orL_snoc fs k hlt
      have HSN := Lib.hid hsn; clear hsn
      have i0 := Bs.idx0 (.int .u64 ↑(Bs.word fs[k] 0)) (.int .u64 ↑(Bs.word fs[k] 1)) (.int .u64 ↑(Bs.word fs[k] 2)) (.int .u64 ↑(Bs.word fs[k] 3))
      have i1 := Bs.idx1 (.int .u64 ↑(Bs.word fs[k] 0)) (.int .u64 ↑(Bs.word fs[k] 1)) (.int .u64 ↑(Bs.word fs[k] 2)) (.int .u64 ↑(Bs.word fs[k] 3))
      have i2 := Bs.idx2 (.int .u64 ↑(Bs.word fs[k] 0)) (.int .u64 ↑(Bs.word fs[k] 1)) (.int .u64 ↑(Bs.word fs[k] 2)) (.int .u64 ↑(Bs.word fs[k] 3))
      have i3 := Bs.idx3 (.int .u64 ↑(Bs.word fs[k] 0)) (.int .u64 ↑(Bs.word fs[k] 1)) (.int .u64 ↑(Bs.word fs[k] 2)) (.int .u64 ↑(Bs.word fs[k] 3))
      have a0 := Bs.or_i (Bs.orL (fs.take k)) fs[k] 0; have a1 := Bs.or_i (Bs.orL (fs.take k)) fs[k] 1; have a2 := Bs.or_i (Bs.orL (fs.take k)) fs[k] 2; have a3 := Bs.or_i (Bs.orL (fs.take k)) fs[k] 3
      have A := Bs.below1 wr (.cells #[.int .u64 ↑(Bs.word fs[k] 0), .int .u64 ↑(Bs.word fs[k] 1), .int .u64 ↑(Bs.word fs[k] 2), .int .u64 ↑(Bs.word fs[k] 3)] 25)
      have Y := Bs.box_new wr fs[k] 25
      have B1' := B1.up A
      have y0 := Y.cell 0 (by decide); have y1 := Y.cell 1 (by decide); have y2 := Y.cell 2 (by decide); have y3 := Y.cell 3 (by decide)
      have b0 := B1'.cell 0 (by decide); have b1 := B1'.cell 1 (by decide); have b2 := B1'.cell 2 (by decide); have b3 := B1'.cell 3 (by decide)
      have g0 := B1'.frz 0 (by decide); have g1 := B1'.frz 1 (by decide); have g2 := B1'.frz 2 (by decide); have g3 := B1'.frz 3 (by decide)
      go_wp2_with fail
      generalize wr.alloc (.cells #[.int .u64 ↑(Bs.word fs[k] 0), .int .u64 ↑(Bs.word fs[k] 1), .int .u64 ↑(Bs.word fs[k] 2), .int .u64 ↑(Bs.word fs[k] 3)] 25) = V at *
      refine wp_loop_rounds 5 ?_
      rw [rounds_succ]
      go_wp2_with fail
      rw [rounds_succ]
      go_wp2_with fail
      rw [rounds_succ]
      go_wp2_with fail
      rw [rounds_succ]
      go_wp2_with fail
      rw [rounds_succ]
      go_wp2_with fail
      go_roundw
      case rel =>
        refine ⟨k + 1, by omega, by go_num, ?_, (B0.up A).far4 (Ne.symm n1) _ _ _ _, Bs.set4 (Bs.below_up B A) m1 _ _ _ _⟩
        rw [HSN.out]
        exact B1'.write _
      case measure => simp [intOf]; omega
    · have e1 : fs.take k = fs := List.take_of_length_le (by omega)
      rw [e1] at B1
      clear e1
      have b0 := B1.cell 0 (by decide); have b1 := B1.cell 1 (by decide); have b2 := B1.cell 2 (by decide); have b3 := B1.cell 3 (by decide)
      have z0 := B0.cell 0 (by decide); have z1 := B0.cell 1 (by decide); have z2 := B0.cell 2 (by decide); have z3 := B0.cell 3 (by decide)
      have g0 := B0.frz 0 (by decide); have g1 := B0.frz 1 (by decide); have g2 := B0.frz 2 (by decide); have g3 := B0.frz 3 (by decide)
      go_wp2_with fail
      exact bodyPost_ret (v := .agg #[.int .u64 ↑(Bs.word (Bs.orL fs) 0), .int .u64 ↑(Bs.word (Bs.orL fs) 1), .int .u64 ↑(Bs.word (Bs.orL fs) 2), .int .u64 ↑(Bs.word (Bs.orL fs) 3)]) (by simp [results, Try.results106, go_sem, z0, z1, z2, z3]) rfl ⟨rfl, Bs.set4 B (Nat.le_refl _) _ _ _ _⟩
end Go.Proofs.Ythapedadnbkgnaa
