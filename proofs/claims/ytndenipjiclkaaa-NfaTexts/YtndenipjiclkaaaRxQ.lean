/- Regular expressions: plain facts: how a text's signs are read. Regular expressions: plain facts: what is read has right kinds; a part of what may be may be. -/
import Derived.Test.YtndenipjiclkaaaRxM
import Derived.Test.YtndenipjiclkaaaRnQ
namespace Go.Proofs.Ytndenipjiclkaaa
set_option linter.unusedVariables false
set_option linter.unusedSimpArgs false
/-- a sign that says something outside of a class -/
def Rx.special (c : Int) : Bool := [124, 42, 43, 63, 40, 41, 91, 93, 46, 92].contains c
def Rx.one (f : Nat → Bool) : Rx := .node 1 f []
def Rx.nil : Rx := .node 0 (fun _ => false) []
def Rx.several (k : Nat) : List Rx → Rx
  | [x] => x
  | l => .node k (fun _ => false) l
/-- the bytes of a row -/
def Rx.rng (lo hi : Int) (c : Nat) : Bool := decide (lo ≤ c) && decide ((c : Int) ≤ hi)
/-- an expression of one sign -/
def Rx.sign (n : Int) : Rx := Rx.several 2 ((Rn.bytesI n).map fun b => Rx.one (Rx.rng b b))
/-- any sign but some below 128 -/
def Rx.but (f : Nat → Bool) : Rx :=
  .node 3 (fun _ => false) [Rx.one fun c => decide (c < 128) && !f c,
    .node 2 (fun _ => false) [Rx.one (Rx.rng 194 223), Rx.one (Rx.rng 128 191)],
    .node 2 (fun _ => false) [Rx.one (Rx.rng 224 239), Rx.one (Rx.rng 128 191), Rx.one (Rx.rng 128 191)],
    .node 2 (fun _ => false) [Rx.one (Rx.rng 240 244), Rx.one (Rx.rng 128 191), Rx.one (Rx.rng 128 191), Rx.one (Rx.rng 128 191)]]
def Rx.star (x : Rx) : Rx := .node 4 (fun _ => false) [x]
def Rx.plus (x : Rx) : Rx := .node 2 (fun _ => false) [x, Rx.star x]
def Rx.opt (x : Rx) : Rx := .node 3 (fun _ => false) [x, Rx.nil]
/-- behind a backslash -/
def Rx.esc : List Int → Option (Int × List Int)
  | [] => none
  | c :: r => if c = 110 then some (10, r) else if c = 116 then some (9, r) else if c = 114 then some (13, r) else if (Rx.special c || c == 45 || c == 94) = true then some (c, r) else none
/-- a bound of an item -/
def Rx.bound : List Int → Option (Int × List Int)
  | [] => none
  | c :: r => if c = 92 then Rx.esc r else if (decide (127 < c) || c == 93 || c == 45 || c == 94) = true then none else some (c, r)
/-- an item -/
def Rx.item (l : List Int) : Option ((Int × Int) × List Int) :=
  match Rx.bound l with
  | none => none
  | some (lo, r) =>
    if r.head? = some 45 then
      match Rx.bound (r.drop 1) with
      | none => none
      | some (hi, r') => if hi < lo then none else some ((lo, hi), r')
    else some ((lo, lo), r)
theorem Rx.esc_len {l : List Int} {c : Int} {r : List Int} (h : Rx.esc l = some (c, r)) : r.length < l.length := by
  cases l with
  | nil => simp [Rx.esc] at h
  | cons a t =>
    simp only [Rx.esc] at h
    repeat' (split at h)
    all_goals (first | (simp only [Option.some.injEq, Prod.mk.injEq] at h; rw [← h.2]; simp) | simp at h)
theorem Rx.bound_len {l : List Int} {c : Int} {r : List Int} (h : Rx.bound l = some (c, r)) : r.length < l.length := by
  cases l with
  | nil => simp [Rx.bound] at h
  | cons a t =>
    simp only [Rx.bound] at h
    split at h
    · have := Rx.esc_len h; simp; omega
    · split at h
      · simp at h
      · simp only [Option.some.injEq, Prod.mk.injEq] at h; rw [← h.2]; simp
theorem Rx.item_len {l : List Int} {p : Int × Int} {r : List Int} (h : Rx.item l = some (p, r)) : r.length < l.length := by
  simp only [Rx.item] at h
  split at h
  · simp at h
  · rename_i lo r1 h1
    have h1 := Rx.bound_len h1
    split at h
    · split at h
      · simp at h
      · rename_i hi r2 h2
        have h2 := Rx.bound_len h2
        split at h
        · simp at h
        · simp only [Option.some.injEq, Prod.mk.injEq] at h; rw [← h.2]; simp at h2; omega
    · simp only [Option.some.injEq, Prod.mk.injEq] at h; rw [← h.2]; exact h1
/-- the items of a class, and the bracket behind them -/
def Rx.items (f : Nat → Bool) (l : List Int) : Option ((Nat → Bool) × List Int) :=
  match h : Rx.item l with
  | none => none
  | some ((lo, hi), r) => if r.head? = some 93 then some ((fun c => f c || Rx.rng lo hi c), r.drop 1) else Rx.items (fun c => f c || Rx.rng lo hi c) r
termination_by l.length
decreasing_by exact Rx.item_len h
theorem Rx.items_eq (f : Nat → Bool) (l : List Int) : Rx.items f l = match Rx.item l with
    | none => none
    | some ((lo, hi), r) => if r.head? = some 93 then some ((fun c => f c || Rx.rng lo hi c), r.drop 1) else Rx.items (fun c => f c || Rx.rng lo hi c) r := by
  rw [Rx.items]; split <;> simp_all
theorem Rx.items_len : ∀ (n : Nat) (f : Nat → Bool) (l : List Int) (g : Nat → Bool) (r : List Int), l.length ≤ n → Rx.items f l = some (g, r) → r.length < l.length
  | n, f, l, g, r, hn, h => by
    rw [Rx.items_eq] at h
    split at h
    · simp at h
    · rename_i lo hi r1 h1
      have h1 := Rx.item_len h1
      split at h
      · simp only [Option.some.injEq, Prod.mk.injEq] at h; rw [← h.2]; simp; omega
      · cases n with
        | zero => omega
        | succ n => have := Rx.items_len n _ _ _ _ (by omega) h; omega
/-- a class, behind its bracket -/
def Rx.cls (l : List Int) : Option (Rx × List Int) :=
  if l.head? = some 94 then (Rx.items (fun _ => false) (l.drop 1)).map fun p => (Rx.but (fun c => p.1 c || Rx.rng 10 10 c), p.2)
  else (Rx.items (fun _ => false) l).map fun p => (Rx.one p.1, p.2)
theorem Rx.cls_len {l : List Int} {x : Rx} {r : List Int} (h : Rx.cls l = some (x, r)) : r.length < l.length := by
  simp only [Rx.cls] at h
  split at h
  · simp only [Option.map_eq_some_iff, Prod.mk.injEq] at h
    obtain ⟨⟨g, r'⟩, h1, _, h2⟩ := h
    have := Rx.items_len _ _ _ _ _ (Nat.le_refl _) h1
    simp only at h2; subst h2; simp at this; omega
  · simp only [Option.map_eq_some_iff, Prod.mk.injEq] at h
    obtain ⟨⟨g, r'⟩, h1, _, h2⟩ := h
    have := Rx.items_len _ _ _ _ _ (Nat.le_refl _) h1
    simp only at h2; subst h2; exact this
/-- the stars, pluses and question marks behind an atom -/
def Rx.post (x : Rx) : List Int → Rx × List Int
  | [] => (x, [])
  | c :: r => if c = 42 then Rx.post (Rx.star x) r else if c = 43 then Rx.post (Rx.plus x) r else if c = 63 then Rx.post (Rx.opt x) r else (x, c :: r)
theorem Rx.post_len : ∀ (l : List Int) (x : Rx), (Rx.post x l).2.length ≤ l.length
  | [], x => by simp [Rx.post]
  | c :: r, x => by
    simp only [Rx.post]
    repeat' split
    · have := Rx.post_len r (Rx.star x); simp; omega
    · have := Rx.post_len r (Rx.plus x); simp; omega
    · have := Rx.post_len r (Rx.opt x); simp; omega
    · simp
def Rx.catOf : List Rx → Rx
  | [] => Rx.nil
  | l => Rx.several 2 l
mutual
/-- a REP, with so much to spend -/
def Rx.repN : Nat → List Int → Option (Rx × List Int)
  | 0, _ => none
  | _ + 1, [] => none
  | q + 1, c :: r =>
    if c = 40 then
      match Rx.altN q r with
      | none => none
      | some (xs, t) => if t.head? = some 41 then some (Rx.post (Rx.several 3 xs) (t.drop 1)) else none
    else if c = 91 then (Rx.cls r).map fun p => Rx.post p.1 p.2
    else if c = 46 then some (Rx.post (Rx.but (Rx.rng 10 10)) r)
    else if c = 92 then (Rx.esc r).map fun p => Rx.post (Rx.sign p.1) p.2
    else if Rx.special c = true then none
    else some (Rx.post (Rx.sign c) r)
/-- the REPs of a CAT -/
def Rx.catN : Nat → List Int → Option (List Rx × List Int)
  | 0, _ => none
  | q + 1, l =>
    if (l.head? = none ∨ l.head? = some 124) ∨ l.head? = some 41 then some ([], l)
    else match Rx.repN q l with
      | none => none
      | some (x, r) => match Rx.catN q r with
        | none => none
        | some (xs, t) => some (x :: xs, t)
/-- the CATs of an ALT -/
def Rx.altN : Nat → List Int → Option (List Rx × List Int)
  | 0, _ => none
  | q + 1, l => match Rx.catN q l with
    | none => none
    | some (xs, r) => if r.head? = some 124 then (match Rx.altN q (r.drop 1) with
        | none => none
        | some (ys, t) => some (Rx.catOf xs :: ys, t))
      else some ([Rx.catOf xs], r)
end
theorem Rx.parse_len : ∀ (q : Nat), (∀ (l : List Int) x r, Rx.repN q l = some (x, r) → r.length < l.length) ∧ (∀ (l : List Int) xs r, Rx.catN q l = some (xs, r) → r.length ≤ l.length) ∧ (∀ (l : List Int) xs r, Rx.altN q l = some (xs, r) → r.length ≤ l.length)
  | 0 => by simp [Rx.repN, Rx.catN, Rx.altN]
  | q + 1 => by
    obtain ⟨hr, hc, ha⟩ := Rx.parse_len q
    refine ⟨?_, ?_, ?_⟩
    · intro l x r h
      cases l with
      | nil => simp [Rx.repN] at h
      | cons c t =>
        simp only [Rx.repN] at h
        split at h
        · split at h
          · simp at h
          · rename_i xs u hu
            have := ha _ _ _ hu
            split at h
            · simp only [Option.some.injEq] at h
              have h2 := Rx.post_len (u.drop 1) (Rx.several 3 xs); rw [h] at h2; simp at h2 ⊢; omega
            · simp at h
        · split at h
          · simp only [Option.map_eq_some_iff] at h
            obtain ⟨⟨y, u⟩, h1, h2⟩ := h
            have := Rx.cls_len h1
            have h3 := Rx.post_len u y; simp only at h2; rw [h2] at h3; simp at h3 ⊢; omega
          · split at h
            · simp only [Option.some.injEq] at h
              have h3 := Rx.post_len t (Rx.but (Rx.rng 10 10)); rw [h] at h3; simp at h3 ⊢; omega
            · split at h
              · simp only [Option.map_eq_some_iff] at h
                obtain ⟨⟨y, u⟩, h1, h2⟩ := h
                have := Rx.esc_len h1
                have h3 := Rx.post_len u (Rx.sign y); simp only at h2; rw [h2] at h3; simp at h3 ⊢; omega
              · split at h
                · simp at h
                · simp only [Option.some.injEq] at h
                  have h3 := Rx.post_len t (Rx.sign c); rw [h] at h3; simp at h3 ⊢; omega
    · intro l xs r h
      simp only [Rx.catN] at h
      split at h
      · simp only [Option.some.injEq, Prod.mk.injEq] at h; rw [h.2]; exact Nat.le_refl _
      · split at h
        · simp at h
        · rename_i x u h1
          split at h
          · simp at h
          · rename_i ys t h2
            simp only [Option.some.injEq, Prod.mk.injEq] at h
            have := hr _ _ _ h1; have := hc _ _ _ h2
            rw [← h.2]; omega
    · intro l xs r h
      simp only [Rx.altN] at h
      split at h
      · simp at h
      · rename_i ys u h1
        have h3 := hc _ _ _ h1
        split at h
        · split at h
          · simp at h
          · rename_i zs t h2
            simp only [Option.some.injEq, Prod.mk.injEq] at h
            have := ha _ _ _ h2
            rw [← h.2]; simp at this; omega
        · simp only [Option.some.injEq, Prod.mk.injEq] at h; rw [← h.2]; exact h3
/-- more to spend turns nothing -/
theorem Rx.parse_more : ∀ (q : Nat), (∀ l : List Int, 3 * l.length + 1 ≤ q → Rx.repN (q + 1) l = Rx.repN q l) ∧ (∀ l : List Int, 3 * l.length + 2 ≤ q → Rx.catN (q + 1) l = Rx.catN q l) ∧ (∀ l : List Int, 3 * l.length + 3 ≤ q → Rx.altN (q + 1) l = Rx.altN q l)
  | 0 => ⟨fun _ h => by omega, fun _ h => by omega, fun _ h => by omega⟩
  | q + 1 => by
    obtain ⟨hr, hc, ha⟩ := Rx.parse_more q
    refine ⟨?_, ?_, ?_⟩
    · intro l h
      cases l with
      | nil => simp [Rx.repN]
      | cons c t =>
        rw [Rx.repN, Rx.repN, ha t (by simp at h; omega)]
    · intro l h
      rw [Rx.catN, Rx.catN, hr l (by omega)]
      split
      · rfl
      · cases h1 : Rx.repN q l with
        | none => rfl
        | some p =>
          obtain ⟨x, r⟩ := p
          have := (Rx.parse_len q).1 _ _ _ h1
          simp only [hc r (by omega)]
    · intro l h
      rw [Rx.altN, Rx.altN, hc l (by omega)]
      cases h1 : Rx.catN q l with
      | none => rfl
      | some p =>
        obtain ⟨xs, r⟩ := p
        have h2 := (Rx.parse_len q).2.1 _ _ _ h1
        simp only
        split
        · rename_i h3
          rw [ha (r.drop 1) (by
            cases r with
            | nil => simp at h3
            | cons a b => simp at h2 ⊢; omega)]
        · rfl
theorem Rx.rep_more {q : Nat} {l : List Int} (h : 3 * l.length + 1 ≤ q) : Rx.repN q l = Rx.repN (3 * l.length + 1) l := by
  induction q with
  | zero => omega
  | succ q ih =>
    by_cases e : 3 * l.length + 1 = q + 1
    · rw [e]
    · rw [(Rx.parse_more q).1 l (by omega), ih (by omega)]
theorem Rx.cat_more {q : Nat} {l : List Int} (h : 3 * l.length + 2 ≤ q) : Rx.catN q l = Rx.catN (3 * l.length + 2) l := by
  induction q with
  | zero => omega
  | succ q ih =>
    by_cases e : 3 * l.length + 2 = q + 1
    · rw [e]
    · rw [(Rx.parse_more q).2.1 l (by omega), ih (by omega)]
theorem Rx.alt_more {q : Nat} {l : List Int} (h : 3 * l.length + 3 ≤ q) : Rx.altN q l = Rx.altN (3 * l.length + 3) l := by
  induction q with
  | zero => omega
  | succ q ih =>
    by_cases e : 3 * l.length + 3 = q + 1
    · rw [e]
    · rw [(Rx.parse_more q).2.2 l (by omega), ih (by omega)]
/-- a REP -/
def Rx.rep (l : List Int) : Option (Rx × List Int) := Rx.repN (3 * l.length + 1) l
/-- the REPs of a CAT -/
def Rx.cat (l : List Int) : Option (List Rx × List Int) := Rx.catN (3 * l.length + 2) l
/-- the CATs of an ALT -/
def Rx.alt (l : List Int) : Option (List Rx × List Int) := Rx.altN (3 * l.length + 3) l
theorem Rx.rep_len {l : List Int} {x : Rx} {r : List Int} (h : Rx.rep l = some (x, r)) : r.length < l.length := (Rx.parse_len _).1 _ _ _ h
theorem Rx.cat_len {l : List Int} {xs : List Rx} {r : List Int} (h : Rx.cat l = some (xs, r)) : r.length ≤ l.length := (Rx.parse_len _).2.1 _ _ _ h
theorem Rx.alt_len {l : List Int} {xs : List Rx} {r : List Int} (h : Rx.alt l = some (xs, r)) : r.length ≤ l.length := (Rx.parse_len _).2.2 _ _ _ h
theorem Rx.rep_nil : Rx.rep [] = none := by simp [Rx.rep, Rx.repN]
theorem Rx.rep_cons (c : Int) (r : List Int) : Rx.rep (c :: r) =
    if c = 40 then
      match Rx.alt r with
      | none => none
      | some (xs, t) => if t.head? = some 41 then some (Rx.post (Rx.several 3 xs) (t.drop 1)) else none
    else if c = 91 then (Rx.cls r).map fun p => Rx.post p.1 p.2
    else if c = 46 then some (Rx.post (Rx.but (Rx.rng 10 10)) r)
    else if c = 92 then (Rx.esc r).map fun p => Rx.post (Rx.sign p.1) p.2
    else if Rx.special c = true then none
    else some (Rx.post (Rx.sign c) r) := by
  rw [Rx.rep, show 3 * (c :: r).length + 1 = (3 * r.length + 3) + 1 by simp; omega, Rx.repN]
  rfl
theorem Rx.cat_eq (l : List Int) : Rx.cat l =
    if (l.head? = none ∨ l.head? = some 124) ∨ l.head? = some 41 then some ([], l)
    else match Rx.rep l with
      | none => none
      | some (x, r) => match Rx.cat r with
        | none => none
        | some (xs, t) => some (x :: xs, t) := by
  rw [Rx.cat, Rx.catN]
  split
  · rfl
  · rw [show Rx.repN (3 * l.length + 1) l = Rx.rep l from rfl]
    cases h1 : Rx.rep l with
    | none => rfl
    | some p =>
      obtain ⟨x, r⟩ := p
      have := Rx.rep_len h1
      simp only
      rw [Rx.cat_more (q := 3 * l.length + 1) (l := r) (by omega)]
      rfl
theorem Rx.alt_eq (l : List Int) : Rx.alt l = match Rx.cat l with
    | none => none
    | some (xs, r) => if r.head? = some 124 then (match Rx.alt (r.drop 1) with
        | none => none
        | some (ys, t) => some (Rx.catOf xs :: ys, t))
      else some ([Rx.catOf xs], r) := by
  rw [Rx.alt, Rx.altN, show Rx.catN (3 * l.length + 2) l = Rx.cat l from rfl]
  cases h1 : Rx.cat l with
  | none => rfl
  | some p =>
    obtain ⟨xs, r⟩ := p
    have h2 := Rx.cat_len h1
    simp only
    split
    · rename_i h3
      rw [Rx.alt_more (q := 3 * l.length + 2) (l := r.drop 1) (by
        cases r with
        | nil => simp at h3
        | cons a b => simp at h2 ⊢; omega)]
      rfl
    · rfl
/-- a text's signs as an expression: none where they are none -/
def Rx.read (l : List Int) : Option Rx := match Rx.alt l with
  | some (xs, []) => some (Rx.several 3 xs)
  | _ => none
theorem Rx.wfL_all : ∀ {l : List Rx}, Rx.wfL l = true ↔ ∀ x ∈ l, x.wf = true
  | [] => by simp [Rx.wfL]
  | x :: r => by simp [Rx.wfL, Rx.wfL_all (l := r)]
theorem Rx.wf_kids {k : Nat} {f : Nat → Bool} {l : List Rx} (hk : k = 2 ∨ k = 3) (hl : Rx.wfL l = true) : (Rx.node k f l).wf = true := by
  rcases hk with rfl | rfl <;> simp [Rx.wf, hl]
theorem Rx.wf_one (f : Nat → Bool) : (Rx.one f).wf = true := by simp [Rx.one, Rx.wf, Rx.wfL]
theorem Rx.wf_nil : Rx.nil.wf = true := by simp [Rx.nil, Rx.wf, Rx.wfL]
theorem Rx.wf_several {k : Nat} {l : List Rx} (hk : k = 2 ∨ k = 3) (hl : Rx.wfL l = true) : (Rx.several k l).wf = true := by
  unfold Rx.several
  split
  · simpa [Rx.wfL] using hl
  · exact Rx.wf_kids hk hl
theorem Rx.wf_sign (n : Int) : (Rx.sign n).wf = true := by
  refine Rx.wf_several (.inl rfl) (Rx.wfL_all.2 fun x hx => ?_)
  simp only [List.mem_map] at hx
  obtain ⟨b, _, rfl⟩ := hx
  exact Rx.wf_one _
theorem Rx.wf_but (f : Nat → Bool) : (Rx.but f).wf = true := by simp [Rx.but, Rx.wf, Rx.wfL, Rx.wf_one]
theorem Rx.wf_star {x : Rx} (h : x.wf = true) : (Rx.star x).wf = true := by simp [Rx.star, Rx.wf, Rx.wfL, h]
theorem Rx.wf_plus {x : Rx} (h : x.wf = true) : (Rx.plus x).wf = true := by simp [Rx.plus, Rx.wf, Rx.wfL, h, Rx.wf_star h]
theorem Rx.wf_opt {x : Rx} (h : x.wf = true) : (Rx.opt x).wf = true := by simp [Rx.opt, Rx.wf, Rx.wfL, h, Rx.wf_nil]
theorem Rx.wf_post : ∀ (l : List Int) {x : Rx}, x.wf = true → (Rx.post x l).1.wf = true
  | [], x, h => by simpa [Rx.post] using h
  | c :: r, x, h => by
    simp only [Rx.post]
    repeat' split
    · exact Rx.wf_post r (Rx.wf_star h)
    · exact Rx.wf_post r (Rx.wf_plus h)
    · exact Rx.wf_post r (Rx.wf_opt h)
    · exact h
theorem Rx.wf_catOf {l : List Rx} (hl : Rx.wfL l = true) : (Rx.catOf l).wf = true := by
  unfold Rx.catOf
  split
  · exact Rx.wf_nil
  · exact Rx.wf_several (.inl rfl) hl
theorem Rx.wf_cls {l : List Int} {x : Rx} {r : List Int} (h : Rx.cls l = some (x, r)) : x.wf = true := by
  simp only [Rx.cls] at h
  split at h
  · simp only [Option.map_eq_some_iff, Prod.mk.injEq] at h
    obtain ⟨_, _, h2, _⟩ := h
    rw [← h2]; exact Rx.wf_but _
  · simp only [Option.map_eq_some_iff, Prod.mk.injEq] at h
    obtain ⟨_, _, h2, _⟩ := h
    rw [← h2]; exact Rx.wf_one _
theorem Rx.parse_wf : ∀ (q : Nat), (∀ (l : List Int) x r, Rx.repN q l = some (x, r) → x.wf = true) ∧ (∀ (l : List Int) xs r, Rx.catN q l = some (xs, r) → Rx.wfL xs = true) ∧ (∀ (l : List Int) xs r, Rx.altN q l = some (xs, r) → Rx.wfL xs = true)
  | 0 => by simp [Rx.repN, Rx.catN, Rx.altN]
  | q + 1 => by
    obtain ⟨hr, hc, ha⟩ := Rx.parse_wf q
    refine ⟨?_, ?_, ?_⟩
    · intro l x r h
      cases l with
      | nil => simp [Rx.repN] at h
      | cons c t =>
        simp only [Rx.repN] at h
        split at h
        · split at h
          · simp at h
          · rename_i xs u hu
            have := ha _ _ _ hu
            split at h
            · simp only [Option.some.injEq] at h
              have h2 := Rx.wf_post (u.drop 1) (Rx.wf_several (.inr rfl) this); rw [h] at h2; exact h2
            · simp at h
        · split at h
          · simp only [Option.map_eq_some_iff] at h
            obtain ⟨⟨y, u⟩, h1, h2⟩ := h
            have h3 := Rx.wf_post u (Rx.wf_cls h1); simp only at h2; rw [h2] at h3; exact h3
          · split at h
            · simp only [Option.some.injEq] at h
              have h3 := Rx.wf_post t (Rx.wf_but (Rx.rng 10 10)); rw [h] at h3; exact h3
            · split at h
              · simp only [Option.map_eq_some_iff] at h
                obtain ⟨⟨y, u⟩, h1, h2⟩ := h
                have h3 := Rx.wf_post u (Rx.wf_sign y); simp only at h2; rw [h2] at h3; exact h3
              · split at h
                · simp at h
                · simp only [Option.some.injEq] at h
                  have h3 := Rx.wf_post t (Rx.wf_sign c); rw [h] at h3; exact h3
    · intro l xs r h
      simp only [Rx.catN] at h
      split at h
      · simp only [Option.some.injEq, Prod.mk.injEq] at h; rw [← h.1]; simp [Rx.wfL]
      · split at h
        · simp at h
        · rename_i x u h1
          split at h
          · simp at h
          · rename_i ys t h2
            simp only [Option.some.injEq, Prod.mk.injEq] at h
            rw [← h.1]; simp [Rx.wfL, hr _ _ _ h1, hc _ _ _ h2]
    · intro l xs r h
      simp only [Rx.altN] at h
      split at h
      · simp at h
      · rename_i ys u h1
        have h3 := Rx.wf_catOf (hc _ _ _ h1)
        split at h
        · split at h
          · simp at h
          · rename_i zs t h2
            simp only [Option.some.injEq, Prod.mk.injEq] at h
            rw [← h.1]; simp [Rx.wfL, h3, ha _ _ _ h2]
        · simp only [Option.some.injEq, Prod.mk.injEq] at h; rw [← h.1]; simp [Rx.wfL, h3]
theorem Rx.rep_wf {l : List Int} {x : Rx} {r : List Int} (h : Rx.rep l = some (x, r)) : x.wf = true := (Rx.parse_wf _).1 _ _ _ h
theorem Rx.cat_wf {l : List Int} {xs : List Rx} {r : List Int} (h : Rx.cat l = some (xs, r)) : Rx.wfL xs = true := (Rx.parse_wf _).2.1 _ _ _ h
theorem Rx.alt_wf {l : List Int} {xs : List Rx} {r : List Int} (h : Rx.alt l = some (xs, r)) : Rx.wfL xs = true := (Rx.parse_wf _).2.2 _ _ _ h
theorem Rx.read_wf {l : List Int} {x : Rx} (h : Rx.read l = some x) : x.wf = true := by
  simp only [Rx.read] at h
  split at h
  · rename_i xs h1
    simp only [Option.some.injEq] at h
    rw [← h]; exact Rx.wf_several (.inr rfl) (Rx.alt_wf h1)
  · simp at h
theorem Rx.part_le : ∀ {l : List Rx} {x : Rx}, x ∈ l → x.size ≤ Rx.sizeL l ∧ x.depth ≤ Rx.depthL l
  | [], x, h => by simp at h
  | y :: r, x, h => by
    simp only [Rx.sizeL, Rx.depthL]
    rcases List.mem_cons.1 h with rfl | h
    · omega
    · have := Rx.part_le h; omega
/-- a kid of what may be may be -/
theorem Rx.may_kid {k : Nat} {f : Nat → Bool} {l : List Rx} {d : Nat} (h : (Rx.node k f l).may d = true) {x : Rx} (hx : x ∈ l) : x.may (d + 1) = true := by
  obtain ⟨h1, h2, h3⟩ := Rx.may_iff.1 h
  have h4 := Rx.part_le hx
  simp only [Rx.wf, Bool.and_eq_true] at h1
  simp only [Rx.depth] at h2; simp only [Rx.size] at h3
  exact Rx.may_iff.2 ⟨Rx.wfL_all.1 h1.2 x hx, by omega, by omega⟩
theorem Rx.may_less {x : Rx} {d e : Nat} (h : x.may d = true) (he : e ≤ d) : x.may e = true := by
  obtain ⟨h1, h2, h3⟩ := Rx.may_iff.1 h
  exact Rx.may_iff.2 ⟨h1, by omega, h3⟩
theorem Rx.may_part {k : Nat} {f : Nat → Bool} {l : List Rx} {d : Nat} (h : (Rx.node k f l).may d = true) {x : Rx} (hx : x ∈ l) : x.may d = true := Rx.may_less (Rx.may_kid h hx) (Nat.le_succ d)
theorem Rx.may_several {k : Nat} {l : List Rx} {d : Nat} (h : (Rx.several k l).may d = true) {x : Rx} (hx : x ∈ l) : x.may d = true := by
  unfold Rx.several at h
  split at h
  · simp at hx; rw [hx]; exact h
  · exact Rx.may_part h hx
theorem Rx.may_catOf {l : List Rx} {d : Nat} (h : (Rx.catOf l).may d = true) {x : Rx} (hx : x ∈ l) : x.may d = true := by
  unfold Rx.catOf at h
  split at h
  · simp at hx
  · exact Rx.may_several h hx
theorem Rx.may_post : ∀ (l : List Int) {x : Rx} {d : Nat}, (Rx.post x l).1.may d = true → x.may d = true
  | [], x, d, h => by simpa [Rx.post] using h
  | c :: r, x, d, h => by
    simp only [Rx.post] at h
    repeat' (split at h)
    · exact Rx.may_part (Rx.may_post r h) (by simp)
    · exact Rx.may_part (Rx.may_post r h) (by simp)
    · exact Rx.may_part (Rx.may_post r h) (by simp)
    · exact h
theorem Rx.may_one (f : Nat → Bool) : (Rx.one f).may 1 = true := Rx.may_iff.2 ⟨Rx.wf_one f, by simp [Rx.one, Rx.depth, Rx.depthL], by simp [Rx.one, Rx.size, Rx.sizeL]⟩
theorem Rx.may_nil : Rx.nil.may 1 = true := Rx.may_iff.2 ⟨Rx.wf_nil, by simp [Rx.nil, Rx.depth, Rx.depthL], by simp [Rx.nil, Rx.size, Rx.sizeL]⟩
theorem Rx.may_but (f : Nat → Bool) : (Rx.but f).may 1 = true := Rx.may_iff.2 ⟨Rx.wf_but f, by simp [Rx.but, Rx.one, Rx.depth, Rx.depthL], by simp [Rx.but, Rx.one, Rx.size, Rx.sizeL]⟩
theorem Rx.ones_le : ∀ (l : List Int), Rx.sizeL (l.map fun b => Rx.one (Rx.rng b b)) = l.length ∧ Rx.depthL (l.map fun b => Rx.one (Rx.rng b b)) ≤ 1
  | [] => by simp [Rx.sizeL, Rx.depthL]
  | b :: r => by
    have := Rx.ones_le r
    simp only [List.map_cons, Rx.sizeL, Rx.depthL, List.length_cons]
    simp only [Rx.one, Rx.size, Rx.depth, Rx.sizeL, Rx.depthL] at this ⊢
    omega
theorem Rx.bytes_few (n : Int) : (Rn.bytesI n).length ≤ 4 := by
  simp only [Rn.bytesI]
  repeat' split
  all_goals simp
theorem Rx.may_sign (n : Int) : (Rx.sign n).may 1 = true := by
  have h := Rx.wf_sign n
  unfold Rx.sign Rx.several at h ⊢
  split
  · rename_i x hx
    have : x ∈ ((Rn.bytesI n).map fun b => Rx.one (Rx.rng b b)) := by rw [hx]; simp
    simp only [List.mem_map] at this
    obtain ⟨b, _, rfl⟩ := this
    exact Rx.may_one _
  · have h1 := Rx.ones_le (Rn.bytesI n); have h2 := Rx.bytes_few n
    refine Rx.may_iff.2 ⟨Rx.wf_kids (.inl rfl) (Rx.wfL_all.2 fun x hx => ?_), ?_, ?_⟩
    · simp only [List.mem_map] at hx
      obtain ⟨b, _, rfl⟩ := hx
      exact Rx.wf_one _
    · simp only [Rx.depth]; omega
    · simp only [Rx.size]; omega
theorem Rx.may_cls {l : List Int} {x : Rx} {r : List Int} (h : Rx.cls l = some (x, r)) : x.may 1 = true := by
  simp only [Rx.cls] at h
  split at h
  · simp only [Option.map_eq_some_iff, Prod.mk.injEq] at h
    obtain ⟨_, _, h2, _⟩ := h
    rw [← h2]; exact Rx.may_but _
  · simp only [Option.map_eq_some_iff, Prod.mk.injEq] at h
    obtain ⟨_, _, h2, _⟩ := h
    rw [← h2]; exact Rx.may_one _
end Go.Proofs.Ytndenipjiclkaaa
