/- Plain facts for the least table: texts that are made of numbers, numbers given to texts, parts that are split till nothing turns. -/
import Derived.Test.YthapedadnbkgnaaG1
namespace Go.Proofs.Ythapedadnbkgnaa
set_option linter.unusedVariables false
set_option linter.unusedSimpArgs false
namespace Df
def two (k : Int) : List Nat := [((k / 256) % 256).toNat, (k % 256).toNat]
def text (l : List Int) : List Nat := l.flatMap two
def Ok (l : List Int) : Prop := ∀ x ∈ l, -1 ≤ x ∧ x < 65535
theorem two_inj {a b : Int} (ha : -1 ≤ a ∧ a < 65535) (hb : -1 ≤ b ∧ b < 65535) (h : two a = two b) : a = b := by
  simp only [two, List.cons.injEq, and_true] at h
  omega
theorem text_cons (x : Int) (l : List Int) : text (x :: l) = two x ++ text l := rfl
theorem text_inj : ∀ {a b : List Int}, Ok a → Ok b → text a = text b → a = b
  | [], [], _, _, _ => rfl
  | [], b :: s, _, _, h => by simp [text, two] at h
  | a :: r, [], _, _, h => by simp [text, two] at h
  | a :: r, b :: s, ha, hb, h => by
    rw [text_cons, text_cons] at h
    have h1 := List.append_inj h rfl
    rw [two_inj (ha a (by simp)) (hb b (by simp)) h1.1, text_inj (fun x hx => ha x (by simp [hx])) (fun x hx => hb x (by simp [hx])) h1.2]
def key (os rs : List Int) : List Int := os ++ [-1] ++ rs
theorem key_inj : ∀ {a b c d : List Int}, (∀ x ∈ a, 0 ≤ x) → (∀ x ∈ c, 0 ≤ x) → key a b = key c d → a = c ∧ b = d
  | [], b, [], d, _, _, h => by simpa [key] using h
  | [], b, x :: c, d, _, hc, h => by
    have := hc x (by simp)
    simp only [key, List.nil_append, List.cons_append, List.cons.injEq] at h
    omega
  | x :: a, b, [], d, ha, _, h => by
    have := ha x (by simp)
    simp only [key, List.nil_append, List.cons_append, List.cons.injEq] at h
    omega
  | x :: a, b, y :: c, d, ha, hc, h => by
    simp only [key, List.cons_append, List.cons.injEq] at h
    have := key_inj (a := a) (b := b) (c := c) (d := d) (fun z hz => ha z (by simp [hz])) (fun z hz => hc z (by simp [hz])) (by simpa [key] using h.2)
    rw [h.1, this.1, this.2]
    exact ⟨rfl, rfl⟩
section
variable {α : Type} [DecidableEq α]
def meet (ks : List α) (t : α) : List α := if t ∈ ks then ks else ks ++ [t]
def names (ts : List α) : List α := ts.foldl meet []
theorem names_snoc (ts : List α) (t : α) : names (ts ++ [t]) = meet (names ts) t := by simp [names]
theorem mem_meet {ks : List α} {t x : α} : x ∈ meet ks t ↔ x ∈ ks ∨ x = t := by
  unfold meet
  split
  · constructor
    · exact fun h => .inl h
    · rintro (h | h)
      · exact h
      · rw [h]; assumption
  · simp
theorem mem_names : ∀ {n : Nat} {ts : List α}, ts.length = n → ∀ x, x ∈ names ts ↔ x ∈ ts
  | 0, ts, h, x => by rw [List.length_eq_zero_iff.1 h]; simp [names]
  | n + 1, ts, h, x => by
    have hne : ts ≠ [] := by intro e; rw [e] at h; simp at h
    rw [← List.dropLast_concat_getLast hne, names_snoc, mem_meet, mem_names (n := n) (by simp [h]), List.mem_append, List.mem_singleton]
theorem meet_nodup {ks : List α} (h : ks.Nodup) (t : α) : (meet ks t).Nodup := by
  unfold meet
  split
  · exact h
  · rw [List.nodup_append]
    refine ⟨h, by simp, fun a ha b hb => ?_⟩
    rw [List.mem_singleton] at hb
    rintro rfl
    rw [hb] at ha
    contradiction
theorem meet_len (ks : List α) (t : α) : (meet ks t).length ≤ ks.length + 1 := by
  unfold meet; split <;> simp
theorem meet_idx {ks : List α} {t x : α} (h : x ∈ ks) : (meet ks t).idxOf x = ks.idxOf x := by
  unfold meet
  split
  · rfl
  · rw [List.idxOf_append]; simp [h]
theorem meet_new (ks : List α) (t : α) : (meet ks t).idxOf t = ks.idxOf t := by
  unfold meet
  split
  · rfl
  · rename_i h
    rw [List.idxOf_append]; simp [h, List.idxOf_eq_length]
theorem names_idx : ∀ (us ts : List α) (x : α), x ∈ ts → (names (ts ++ us)).idxOf x = (names ts).idxOf x
  | [], ts, x, _ => by simp
  | u :: us, ts, x, h => by
    have e : ts ++ u :: us = (ts ++ [u]) ++ us := by simp
    rw [e, names_idx us (ts ++ [u]) x (by simp [h]), names_snoc, meet_idx ((mem_names rfl x).2 h)]
def idx (ks : List α) (a : α) : Nat := ks.idxOf a
theorem idx_lt {ks : List α} {a : α} (h : a ∈ ks) : idx ks a < ks.length := List.idxOf_lt_length_of_mem h
theorem idx_inj {ks : List α} {a b : α} (ha : a ∈ ks) (hb : b ∈ ks) : idx ks a = idx ks b ↔ a = b := by
  unfold idx
  refine ⟨fun h => ?_, fun h => by rw [h]⟩
  have h1 := List.getElem_idxOf (List.idxOf_lt_length_of_mem ha)
  have h2 := List.getElem_idxOf (List.idxOf_lt_length_of_mem hb)
  rw [← h1, ← h2]
  congr 1
theorem idx_snoc {ks : List α} {t x : α} (h : x ∈ ks) : idx (ks ++ [t]) x = idx ks x := by
  unfold idx
  rw [List.idxOf_append, if_pos h]
theorem idx_new {ks : List α} {t : α} (h : t ∉ ks) : idx (ks ++ [t]) t = ks.length := by
  unfold idx
  rw [List.idxOf_append, if_neg h]
  simp
theorem idx_none {ks : List α} {t : α} (h : t ∉ ks) : idx ks t = ks.length := List.idxOf_eq_length h
theorem idx_meet {ks : List α} {t x : α} (h : x ∈ ks) : idx (meet ks t) x = idx ks x := meet_idx h
theorem idx_met (ks : List α) (t : α) : idx (meet ks t) t = idx ks t := meet_new ks t
def firsts (f : Nat → α) (N : Nat) : Nat := (List.range N).countP fun i => (List.range i).all fun j => !decide (f j = f i)
theorem firsts_zero (f : Nat → α) : firsts f 0 = 0 := by simp [firsts]
theorem firsts_succ (f : Nat → α) (N : Nat) : firsts f (N + 1) = firsts f N + (if (List.range N).all (fun j => !decide (f j = f N)) = true then 1 else 0) := by
  unfold firsts
  rw [List.range_succ, List.countP_append]
  simp [List.countP_cons]
theorem names_len (f : Nat → α) : ∀ N, (names ((List.range N).map f)).length = firsts f N
  | 0 => by simp [names, firsts]
  | N + 1 => by
    rw [List.range_succ, List.map_append, List.map_singleton, names_snoc, firsts_succ, ← names_len f N]
    unfold meet
    have e : f N ∈ names ((List.range N).map f) ↔ ¬ (List.range N).all (fun j => !decide (f j = f N)) = true := by
      rw [mem_names rfl]
      simp
    by_cases h : (List.range N).all (fun j => !decide (f j = f N)) = true
    · rw [if_pos h, if_neg (fun h' => e.1 h' h)]; simp
    · rw [if_neg h, if_pos (e.2 h)]; simp
end
section
variable {α β : Type} [DecidableEq α] [DecidableEq β]
theorem all_refine {f : Nat → α} {g : Nat → β} {N i : Nat} (h : ∀ i j, i < N → j < N → g i = g j → f i = f j) (hi : i < N) (hf : (List.range i).all (fun j => !decide (f j = f i)) = true) : (List.range i).all (fun j => !decide (g j = g i)) = true := by
  rw [List.all_eq_true] at hf ⊢
  intro j hj
  have h1 := hf j hj
  have hj' : j < i := by simpa using hj
  simp only [Bool.not_eq_true', decide_eq_false_iff_not] at h1 ⊢
  exact fun e => h1 (h j i (by omega) hi e)
theorem firsts_le {f : Nat → α} {g : Nat → β} : ∀ (n N : Nat), n ≤ N → (∀ i j, i < N → j < N → g i = g j → f i = f j) → firsts f n ≤ firsts g n
  | 0, _, _, _ => by rw [firsts_zero, firsts_zero]; omega
  | n + 1, N, hn, h => by
    have ih := firsts_le n N (by omega) h
    rw [firsts_succ, firsts_succ]
    by_cases e : (List.range n).all (fun j => !decide (f j = f n)) = true
    · rw [if_pos e, if_pos (all_refine h (by omega) e)]; omega
    · rw [if_neg e]; omega
theorem firsts_eq {f : Nat → α} {g : Nat → β} : ∀ (n N : Nat), n ≤ N → (∀ i j, i < N → j < N → g i = g j → f i = f j) → firsts f n = firsts g n → ∀ i, i < n → (List.range i).all (fun j => !decide (g j = g i)) = true → (List.range i).all (fun j => !decide (f j = f i)) = true
  | 0, _, _, _, _, i, hi, _ => by omega
  | n + 1, N, hn, h, he, i, hi, hg => by
    have l := firsts_le n N (by omega) h
    rw [firsts_succ, firsts_succ] at he
    have he' : firsts f n = firsts g n ∧ ((List.range n).all (fun j => !decide (g j = g n)) = true → (List.range n).all (fun j => !decide (f j = f n)) = true) := by
      by_cases e : (List.range n).all (fun j => !decide (f j = f n)) = true
      · rw [if_pos e, if_pos (all_refine h (by omega) e)] at he
        exact ⟨by omega, fun _ => e⟩
      · rw [if_neg e] at he
        by_cases e2 : (List.range n).all (fun j => !decide (g j = g n)) = true
        · rw [if_pos e2] at he; omega
        · exact ⟨by rw [if_neg e2] at he; omega, fun e3 => absurd e3 e2⟩
    by_cases hin : i = n
    · subst hin; exact he'.2 hg
    · exact firsts_eq n N (by omega) h he'.1 i (by omega) hg
theorem first_of (f : Nat → α) : ∀ (m i : Nat), i < m → ∃ j, j ≤ i ∧ f j = f i ∧ (List.range j).all (fun k => !decide (f k = f j)) = true
  | 0, i, h => by omega
  | m + 1, i, h => by
    by_cases e : (List.range i).all (fun k => !decide (f k = f i)) = true
    · exact ⟨i, by omega, rfl, e⟩
    · rw [List.all_eq_true] at e
      have ⟨k, hk⟩ := Classical.not_forall.1 e
      have ⟨hk1, hk2⟩ := Classical.not_imp.1 hk
      have hk' : k < i := by simpa using hk1
      have hk3 : f k = f i := by simpa using hk2
      obtain ⟨j, h1, h2, h3⟩ := first_of f m k (by omega)
      exact ⟨j, by omega, by rw [h2, hk3], h3⟩
theorem stable {f : Nat → α} {g : Nat → β} {N : Nat} (h : ∀ i j, i < N → j < N → g i = g j → f i = f j) (he : firsts f N = firsts g N) {i j : Nat} (hi : i < N) (hj : j < N) (hf : f i = f j) : g i = g j := by
  obtain ⟨i0, a1, a2, a3⟩ := first_of g (i + 1) i (by omega)
  obtain ⟨j0, b1, b2, b3⟩ := first_of g (j + 1) j (by omega)
  have a4 := firsts_eq N N (by omega) h he i0 (by omega) a3
  have b4 := firsts_eq N N (by omega) h he j0 (by omega) b3
  have e : f i0 = f j0 := by rw [h i0 i (by omega) hi a2, h j0 j (by omega) hj b2, hf]
  have : i0 = j0 := by
    rw [List.all_eq_true] at a4 b4
    rcases Nat.lt_trichotomy i0 j0 with h1 | h1 | h1
    · have := b4 i0 (by simpa using h1); simp [e] at this
    · exact h1
    · have := a4 j0 (by simpa using h1); simp [e] at this
  rw [← a2, ← b2, this]
end
def seen (nx : List (List Nat)) (p : List Int) (i : Nat) : List Int := p.getD i 0 :: (nx.getD i []).map fun k => p.getD k 0
def texts (nx : List (List Nat)) (p : List Int) : List (List Nat) := (List.range nx.length).map fun i => text (seen nx p i)
def split (nx : List (List Nat)) (p : List Int) : List Int := (texts nx p).map fun t => (idx (names (texts nx p)) t : Int)
def cnt (nx : List (List Nat)) (p : List Int) : Nat := (names (texts nx p)).length
structure PartOk (nx : List (List Nat)) (p : List Int) : Prop where
  len : p.length = nx.length
  ok : Ok p
  n : nx.length ≤ 60000
  nx : ∀ r ∈ nx, ∀ k ∈ r, k < nx.length
theorem PartOk.get {nx : List (List Nat)} {p : List Int} (h : PartOk nx p) (i : Nat) : -1 ≤ p.getD i 0 ∧ p.getD i 0 < 65535 := by
  rw [List.getD_eq_getElem?_getD]
  cases e : p[i]? with
  | none => simp
  | some x => exact h.ok x (List.mem_of_getElem? e)
theorem PartOk.seen {nx : List (List Nat)} {p : List Int} (h : PartOk nx p) (i : Nat) : Ok (seen nx p i) := by
  intro x hx
  simp only [Df.seen, List.mem_cons, List.mem_map] at hx
  rcases hx with rfl | ⟨k, _, rfl⟩
  · exact h.get i
  · exact h.get k
theorem split_len (nx : List (List Nat)) (p : List Int) : (split nx p).length = nx.length := by simp [split, texts]
theorem split_get (nx : List (List Nat)) (p : List Int) {i : Nat} (hi : i < nx.length) : (split nx p).getD i 0 = (idx (names (texts nx p)) (text (seen nx p i)) : Int) := by
  rw [List.getD_eq_getElem?_getD, List.getElem?_eq_getElem (by rw [split_len]; exact hi)]
  simp [split, texts]
theorem split_eq {nx : List (List Nat)} {p : List Int} (h : PartOk nx p) {i j : Nat} (hi : i < nx.length) (hj : j < nx.length) : (split nx p).getD i 0 = (split nx p).getD j 0 ↔ seen nx p i = seen nx p j := by
  rw [split_get nx p hi, split_get nx p hj]
  have m : ∀ k, k < nx.length → text (seen nx p k) ∈ names (texts nx p) := fun k hk => (mem_names rfl _).2 (List.mem_map.2 ⟨k, by simpa using hk, rfl⟩)
  constructor
  · intro e
    exact text_inj (h.seen i) (h.seen j) ((idx_inj (m i hi) (m j hj)).1 (by omega))
  · intro e; rw [e]
theorem split_ok {nx : List (List Nat)} {p : List Int} (h : PartOk nx p) : PartOk nx (split nx p) := by
  refine ⟨split_len nx p, ?_, h.n, h.nx⟩
  intro x hx
  simp only [split, List.mem_map] at hx
  obtain ⟨t, ht, rfl⟩ := hx
  have h1 := idx_lt ((mem_names rfl t).2 ht)
  have h2 : (names (texts nx p)).length ≤ nx.length := by
    unfold texts
    rw [names_len]
    have := List.countP_le_length (p := fun i => (List.range i).all fun j => !decide (text (Df.seen nx p j) = text (Df.seen nx p i))) (l := List.range nx.length)
    simpa [firsts] using this
  have := h.n
  omega
theorem cnt_firsts {nx : List (List Nat)} {p : List Int} (h : PartOk nx p) : cnt nx p = firsts (fun i => (split nx p).getD i 0) nx.length := by
  unfold cnt texts
  rw [names_len]
  unfold firsts
  refine List.countP_congr fun i hi => ?_
  have hi' : i < nx.length := by simpa using hi
  simp only [List.all_eq_true, List.mem_range, Bool.not_eq_true', decide_eq_false_iff_not]
  constructor
  · intro H j hj e
    exact H j hj (by rw [(split_eq h (by omega) hi').1 e])
  · intro H j hj e
    exact H j hj ((split_eq h (by omega) hi').2 (text_inj (h.seen j) (h.seen i) e))
theorem cnt_le {nx : List (List Nat)} {p : List Int} (h : PartOk nx p) : cnt nx p ≤ nx.length := by
  rw [cnt_firsts h]
  have := List.countP_le_length (p := fun i => (List.range i).all fun j => !decide ((split nx p).getD j 0 = (split nx p).getD i 0)) (l := List.range nx.length)
  simpa [firsts] using this
theorem split_refine {nx : List (List Nat)} {p : List Int} (h : PartOk nx p) {i j : Nat} (hi : i < nx.length) (hj : j < nx.length) (e : (split nx p).getD i 0 = (split nx p).getD j 0) : p.getD i 0 = p.getD j 0 := by
  have := (split_eq h hi hj).1 e
  simp only [seen, List.cons.injEq] at this
  exact this.1
theorem cnt_mono {nx : List (List Nat)} {p : List Int} (h : PartOk nx p) : cnt nx p ≤ cnt nx (split nx p) := by
  rw [cnt_firsts h, cnt_firsts (split_ok h)]
  exact firsts_le _ nx.length (Nat.le_refl _) (fun i j hi hj e => split_refine (split_ok h) hi hj e)
theorem split_stable {nx : List (List Nat)} {p : List Int} (h : PartOk nx p) (e : cnt nx p = cnt nx (split nx p)) {i j : Nat} (hi : i < nx.length) (hj : j < nx.length) : (split nx p).getD i 0 = (split nx p).getD j 0 ↔ (split nx (split nx p)).getD i 0 = (split nx (split nx p)).getD j 0 := by
  refine ⟨fun h1 => ?_, fun h1 => split_refine (split_ok h) hi hj h1⟩
  rw [cnt_firsts h, cnt_firsts (split_ok h)] at e
  exact stable (f := fun i => (split nx p).getD i 0) (g := fun i => (split nx (split nx p)).getD i 0) (fun i j hi hj e => split_refine (split_ok h) hi hj e) e hi hj h1
def run (nx : List (List Nat)) (i : Nat) (u : List Nat) : Nat := u.foldl (fun i k => (nx.getD i []).getD k 0) i
theorem run_nil (nx : List (List Nat)) (i : Nat) : run nx i [] = i := rfl
theorem run_cons (nx : List (List Nat)) (i k : Nat) (u : List Nat) : run nx i (k :: u) = run nx ((nx.getD i []).getD k 0) u := rfl
theorem get_getD (l : List Nat) {k : Nat} (h : k < l.length) : l[k] = l.getD k 0 := by rw [List.getD_eq_getElem?_getD, List.getElem?_eq_getElem h]; rfl
structure Fine (nx : List (List Nat)) (r p : List Int) : Prop where
  rule : ∀ i j, i < nx.length → j < nx.length → p.getD i 0 = p.getD j 0 → r.getD i 0 = r.getD j 0
  step : ∀ i j, i < nx.length → j < nx.length → p.getD i 0 = p.getD j 0 → (nx.getD i []).map (fun k => p.getD k 0) = (nx.getD j []).map (fun k => p.getD k 0)
  back : ∀ i j, i < nx.length → j < nx.length → (∀ u, (∀ k ∈ u, k < (nx.getD i []).length) → r.getD (run nx i u) 0 = r.getD (run nx j u) 0) → p.getD i 0 = p.getD j 0
structure Way (nx : List (List Nat)) (r p : List Int) : Prop where
  ok : PartOk nx p
  rule : ∀ i j, i < nx.length → j < nx.length → p.getD i 0 = p.getD j 0 → r.getD i 0 = r.getD j 0
  back : ∀ i j, i < nx.length → j < nx.length → (∀ u, (∀ k ∈ u, k < (nx.getD i []).length) → r.getD (run nx i u) 0 = r.getD (run nx j u) 0) → p.getD i 0 = p.getD j 0
theorem way_zero {nx : List (List Nat)} {r : List Int} (h : PartOk nx r) : Way nx r r := ⟨h, fun i j _ _ e => e, fun i j hi hj H => H [] (by simp)⟩
theorem getD_lt {nx : List (List Nat)} (hn : ∀ r ∈ nx, ∀ k ∈ r, k < nx.length) {i k : Nat} (hk : k < (nx.getD i []).length) : (nx.getD i []).getD k 0 < nx.length := by
  rw [List.getD_eq_getElem?_getD (l := nx)] at hk ⊢
  cases e : nx[i]? with
  | none => rw [e] at hk; simp at hk
  | some r =>
    rw [e] at hk
    simp only [Option.getD_some] at hk ⊢
    rw [List.getD_eq_getElem?_getD, List.getElem?_eq_getElem hk, Option.getD_some]
    exact hn r (List.mem_of_getElem? e) _ (List.getElem_mem hk)
theorem Way.split {nx : List (List Nat)} {r p : List Int} (h : Way nx r p) (w : Nat) (hw : ∀ i, i < nx.length → (nx.getD i []).length = w) : Way nx r (split nx p) := by
  refine ⟨split_ok h.ok, fun i j hi hj e => h.rule i j hi hj (split_refine h.ok hi hj e), fun i j hi hj H => (split_eq h.ok hi hj).2 ?_⟩
  unfold seen
  rw [h.back i j hi hj H]
  congr 1
  refine List.ext_getElem (by rw [List.length_map, List.length_map, hw i hi, hw j hj]) fun k h1 h2 => ?_
  rw [List.length_map] at h1 h2
  simp only [List.getElem_map]
  have e1 : (nx.getD i [])[k] = (nx.getD i []).getD k 0 := get_getD _ h1
  have e2 : (nx.getD j [])[k] = (nx.getD j []).getD k 0 := get_getD _ h2
  rw [e1, e2]
  have l1 := getD_lt h.ok.nx h1
  have l2 := getD_lt h.ok.nx h2
  refine h.back _ _ l1 l2 fun u hu => ?_
  have := H (k :: u) (fun x hx => by
    simp only [List.mem_cons] at hx
    rcases hx with rfl | hx
    · exact h1
    · have := hu x hx
      rw [hw _ l1] at this
      rw [hw _ hi]; exact this)
  rw [run_cons, run_cons] at this
  exact this
theorem Way.fine {nx : List (List Nat)} {r p : List Int} (h : Way nx r p) (w : Nat) (hw : ∀ i, i < nx.length → (nx.getD i []).length = w) (e : cnt nx p = cnt nx (Df.split nx p)) : Fine nx r (Df.split nx p) := by
  have h' := h.split w hw
  refine ⟨h'.rule, fun i j hi hj e1 => ?_, h'.back⟩
  have := (split_eq h'.ok hi hj).1 ((split_stable h.ok e hi hj).1 e1)
  simp only [seen, List.cons.injEq] at this
  exact this.2
theorem Fine.run {nx : List (List Nat)} {r p : List Int} (h : Fine nx r p) (hn : ∀ r ∈ nx, ∀ k ∈ r, k < nx.length) (w : Nat) (hw : ∀ i, i < nx.length → (nx.getD i []).length = w) : ∀ (u : List Nat) (i j : Nat), i < nx.length → j < nx.length → (∀ k ∈ u, k < w) → p.getD i 0 = p.getD j 0 → p.getD (Df.run nx i u) 0 = p.getD (Df.run nx j u) 0
  | [], i, j, _, _, _, e => e
  | k :: u, i, j, hi, hj, hu, e => by
    rw [run_cons, run_cons]
    have hk := hu k (by simp)
    have hs := congrArg (fun l => l.getD k 0) (h.step i j hi hj e)
    have k1 : k < (nx.getD i []).length := by rw [hw i hi]; exact hk
    have k2 : k < (nx.getD j []).length := by rw [hw j hj]; exact hk
    have m : ∀ (l : List Nat), k < l.length → (l.map fun k => p.getD k 0).getD k 0 = p.getD (l.getD k 0) 0 := fun l hl => by
      rw [List.getD_eq_getElem?_getD, List.getElem?_map, List.getElem?_eq_getElem hl, List.getD_eq_getElem?_getD (l := l), List.getElem?_eq_getElem hl]
      rfl
    simp only [m _ k1, m _ k2] at hs
    exact h.run hn w hw u _ _ (getD_lt hn k1) (getD_lt hn k2) (fun x hx => hu x (by simp [hx])) hs
end Df
end Go.Proofs.Ythapedadnbkgnaa
