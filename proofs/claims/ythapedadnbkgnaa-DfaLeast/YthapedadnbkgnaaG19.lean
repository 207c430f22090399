/- Plain facts for the least table: states that are numbered by their parts; what the table tells of a text. States of a planned table, plain: no two of them go the same ways, each is entered from an earlier one, each but the first one lives. The document's Run of a table that may be, walked. The document's Right of a table, walked. -/
import Derived.Test.YthapedadnbkgnaaG17
import Derived.Test.YthapedadnbkgnaaG18
namespace Go.Proofs.Ythapedadnbkgnaa
set_option linter.unusedVariables false
set_option linter.unusedSimpArgs false
namespace Df
def sMeet (p : Nat → Int) (S : List Nat) (k : Nat) : List Nat := if p k = p 0 then S else if p k ∈ S.map p then S else S ++ [k]
def sNum (p : Nat → Int) (S : List Nat) (k : Nat) : Int := if p k = p 0 then -1 else (idx (S.map p) (p k) : Nat)
def Cov (p : Nat → Int) (S : List Nat) (k : Nat) : Prop := p k = p 0 ∨ p k ∈ S.map p
theorem sMeet_pre (p : Nat → Int) (S : List Nat) (k : Nat) : ∃ ys, sMeet p S k = S ++ ys := by
  unfold sMeet
  split
  · exact ⟨[], by simp⟩
  · split
    · exact ⟨[], by simp⟩
    · exact ⟨[k], rfl⟩
theorem sMeets_pre (p : Nat → Int) : ∀ (us S : List Nat), ∃ ys, us.foldl (sMeet p) S = S ++ ys
  | [], S => ⟨[], by simp⟩
  | u :: us, S => by
    obtain ⟨y1, e1⟩ := sMeet_pre p S u
    obtain ⟨y2, e2⟩ := sMeets_pre p us (sMeet p S u)
    exact ⟨y1 ++ y2, by rw [List.foldl_cons, e2, e1, List.append_assoc]⟩
theorem Cov.pre {p : Nat → Int} {S : List Nat} {k : Nat} (h : Cov p S k) (ys : List Nat) : Cov p (S ++ ys) k := by
  rcases h with h | h
  · exact .inl h
  · exact .inr (by rw [List.map_append, List.mem_append]; exact .inl h)
theorem cov_meet (p : Nat → Int) (S : List Nat) (k : Nat) : Cov p (sMeet p S k) k := by
  unfold sMeet
  split
  · rename_i h; exact .inl h
  · split
    · rename_i h; exact .inr h
    · exact .inr (by simp)
theorem cov_meets (p : Nat → Int) : ∀ (us S : List Nat), ∀ k ∈ us, Cov p (us.foldl (sMeet p) S) k
  | u :: us, S, k, hk => by
    rw [List.foldl_cons]
    rw [List.mem_cons] at hk
    rcases hk with rfl | hk
    · obtain ⟨ys, e⟩ := sMeets_pre p us (sMeet p S k)
      rw [e]
      exact (cov_meet p S k).pre ys
    · exact cov_meets p us _ k hk
theorem sNum_pre {p : Nat → Int} {S : List Nat} {k : Nat} (h : Cov p S k) (ys : List Nat) : sNum p (S ++ ys) k = sNum p S k := by
  unfold sNum
  by_cases e : p k = p 0
  · rw [if_pos e, if_pos e]
  · rw [if_neg e, if_neg e]
    rcases h with h | h
    · exact absurd h e
    · rw [List.map_append, idx_pre h]
theorem sMeet_nodup {p : Nat → Int} {S : List Nat} (h : (S.map p).Nodup) (k : Nat) : ((sMeet p S k).map p).Nodup := by
  unfold sMeet
  split
  · exact h
  · split
    · exact h
    · rename_i h1
      rw [List.map_append, List.nodup_append]
      refine ⟨h, by simp, fun a ha b hb => ?_⟩
      rw [List.map_singleton, List.mem_singleton] at hb
      rintro rfl
      rw [hb] at ha
      contradiction
theorem sMeets_nodup {p : Nat → Int} : ∀ (us : List Nat) {S : List Nat}, (S.map p).Nodup → ((us.foldl (sMeet p) S).map p).Nodup
  | [], _, h => h
  | u :: us, _, h => by rw [List.foldl_cons]; exact sMeets_nodup us (sMeet_nodup h u)
theorem sMeet_mem {p : Nat → Int} {S : List Nat} {k x : Nat} (h : x ∈ sMeet p S k) : x ∈ S ∨ (x = k ∧ p k ≠ p 0) := by
  unfold sMeet at h
  split at h
  · exact .inl h
  · rename_i h0
    split at h
    · exact .inl h
    · rw [List.mem_append, List.mem_singleton] at h
      rcases h with h | h
      · exact .inl h
      · exact .inr ⟨h, h0⟩
theorem sMeets_mem {p : Nat → Int} : ∀ (us : List Nat) {S : List Nat} {x : Nat}, x ∈ us.foldl (sMeet p) S → x ∈ S ∨ (x ∈ us ∧ p x ≠ p 0)
  | [], _, _, h => .inl h
  | u :: us, S, x, h => by
    rw [List.foldl_cons] at h
    rcases sMeets_mem us h with h | h
    · rcases sMeet_mem h with h | ⟨rfl, h⟩
      · exact .inl h
      · exact .inr ⟨by simp, h⟩
    · exact .inr ⟨by simp [h.1], h.2⟩
theorem sNum_get {p : Nat → Int} {S : List Nat} {k : Nat} (h : Cov p S k) : (p k = p 0 ∧ sNum p S k = -1) ∨ (p k ≠ p 0 ∧ ∃ j, ∃ hj : j < S.length, sNum p S k = (j : Nat) ∧ p S[j] = p k) := by
  by_cases e : p k = p 0
  · exact .inl ⟨e, by unfold sNum; rw [if_pos e]⟩
  · refine .inr ⟨e, ?_⟩
    rcases h with h | h
    · exact absurd h e
    · have h1 := idx_lt h
      have h2 := get_idx h
      have h3 : idx (S.map p) (p k) < S.length := by simpa using h1
      refine ⟨_, h3, by unfold sNum; rw [if_neg e], ?_⟩
      rw [List.getElem?_eq_getElem h1, List.getElem_map] at h2
      injection h2
def sPass (p : Nat → Int) (nx : List (List Nat)) (S : List Nat) (i : Nat) : List Nat := ((S[i]?.map fun s => nx.getD s []).getD []).foldl (sMeet p) S
def sGone (p : Nat → Int) (nx : List (List Nat)) (st : Nat) : Nat → List Nat
  | 0 => [st]
  | i + 1 => sPass p nx (sGone p nx st i) i
theorem sPass_at (p : Nat → Int) (nx : List (List Nat)) (S : List Nat) {i : Nat} (hi : i < S.length) : sPass p nx S i = (nx.getD S[i] []).foldl (sMeet p) S := by simp [sPass, hi]
theorem sGone_pre (p : Nat → Int) (nx : List (List Nat)) (st i : Nat) : ∀ d, ∃ ys, sGone p nx st (i + d) = sGone p nx st i ++ ys
  | 0 => ⟨[], by simp⟩
  | d + 1 => by
    obtain ⟨y1, e1⟩ := sGone_pre p nx st i d
    obtain ⟨y2, e2⟩ := sMeets_pre p (((sGone p nx st (i + d))[i + d]?.map fun s => nx.getD s []).getD []) (sGone p nx st (i + d))
    refine ⟨y1 ++ y2, ?_⟩
    have e3 : sGone p nx st (i + (d + 1)) = sPass p nx (sGone p nx st (i + d)) (i + d) := rfl
    rw [e3, sPass, e2, e1, List.append_assoc]
theorem sGone_nodup (p : Nat → Int) (nx : List (List Nat)) (st : Nat) : ∀ i, ((sGone p nx st i).map p).Nodup
  | 0 => by simp [sGone]
  | i + 1 => sMeets_nodup _ (sGone_nodup p nx st i)
theorem sGone_get (p : Nat → Int) (nx : List (List Nat)) (st : Nat) {i n j : Nat} (hin : i ≤ n) (hj : j < (sGone p nx st i).length) : ∃ h : j < (sGone p nx st n).length, (sGone p nx st n)[j] = (sGone p nx st i)[j] := by
  obtain ⟨d, rfl⟩ := Nat.exists_eq_add_of_le hin
  obtain ⟨ys, e⟩ := sGone_pre p nx st i d
  have hl : j < (sGone p nx st (i + d)).length := by rw [e, List.length_append]; omega
  refine ⟨hl, ?_⟩
  simp only [e]
  exact List.getElem_append_left hj
def SWent (p : Nat → Int) (nx : List (List Nat)) (st n : Nat) : Prop := ∀ i, i < n → i < (sGone p nx st i).length
theorem SWent.succ {p : Nat → Int} {nx : List (List Nat)} {st n : Nat} (h : SWent p nx st n) (hn : n < (sGone p nx st n).length) : SWent p nx st (n + 1) := fun i hi => by
  rcases Nat.lt_or_ge i n with h1 | h1
  · exact h i h1
  · obtain rfl : i = n := by omega
    exact hn
theorem SWent.le {p : Nat → Int} {nx : List (List Nat)} {st n : Nat} (h : SWent p nx st n) : n ≤ (sGone p nx st n).length := by
  cases n with
  | zero => exact Nat.zero_le _
  | succ n =>
    have h1 := h n (by omega)
    obtain ⟨h2, _⟩ := sGone_get p nx st (Nat.le_succ n) h1
    exact h2
theorem SWent.closed {p : Nat → Int} {nx : List (List Nat)} {st n : Nat} (h : SWent p nx st n) {j : Nat} (hj : j < n) : ∃ hl : j < (sGone p nx st n).length, ∀ y ∈ nx.getD (sGone p nx st n)[j] [], Cov p (sGone p nx st n) y := by
  have h1 := h j hj
  obtain ⟨h2, e2⟩ := sGone_get p nx st (show j ≤ n by omega) h1
  refine ⟨h2, fun y hy => ?_⟩
  rw [e2] at hy
  obtain ⟨d, rfl⟩ := Nat.exists_eq_add_of_le (show j + 1 ≤ n by omega)
  obtain ⟨ys, e⟩ := sGone_pre p nx st (j + 1) d
  rw [e]
  refine Cov.pre ?_ ys
  have e3 : sGone p nx st (j + 1) = sPass p nx (sGone p nx st j) j := rfl
  rw [e3, sPass_at p nx _ h1]
  exact cov_meets p _ _ y hy
inductive SFrom (p : Nat → Int) (nx : List (List Nat)) (st : Nat) : Nat → Prop
  | base : SFrom p nx st st
  | step {x y : Nat} : SFrom p nx st x → y ∈ nx.getD x [] → p y ≠ p 0 → SFrom p nx st y
theorem sGone_from (p : Nat → Int) (nx : List (List Nat)) (st : Nat) : ∀ n x, x ∈ sGone p nx st n → SFrom p nx st x
  | 0, x, h => by
    have : x = st := by simpa [sGone] using h
    rw [this]
    exact .base
  | n + 1, x, h => by
    have h' : x ∈ sPass p nx (sGone p nx st n) n := h
    unfold sPass at h'
    rcases sMeets_mem _ h' with h' | h'
    · exact sGone_from p nx st n x h'
    · by_cases hn : n < (sGone p nx st n).length
      · rw [List.getElem?_eq_getElem hn] at h'
        exact .step (sGone_from p nx st n _ (List.getElem_mem hn)) h'.1 h'.2
      · rw [List.getElem?_eq_none (by omega)] at h'
        simp at h'
theorem sGone_zero (p : Nat → Int) (nx : List (List Nat)) (st n : Nat) : ∃ h : 0 < (sGone p nx st n).length, (sGone p nx st n)[0] = st := by
  obtain ⟨h, e⟩ := sGone_get p nx st (Nat.zero_le n) (show 0 < (sGone p nx st 0).length by simp [sGone])
  exact ⟨h, by rw [e]; rfl⟩
def rle (rs : List Int) : Int := if (Nf.rule rs).2 then (Nf.rule rs).1 else -1
structure Plan (l : List Rx) (F : List Fr) (nx : List (List Nat)) (r p : List Int) (st : Nat) (S : List Nat) : Prop where
  fit : Ng.Fits l
  n : ∃ n, Went (nxt l) (F0 l) n ∧ fs l n = F ∧ F.length = n
  hnx : nx = F.map fun f => (nxt l f).map (idx F)
  hr : r = F.map fun f => rle f.2
  hst : st = idx F (s0 l)
  le : F.length ≤ 501
  fine : Fine nx r p
  s : ∃ m, SWent (fun k => p.getD k 0) nx st m ∧ sGone (fun k => p.getD k 0) nx st m = S ∧ S.length = m
theorem rle_nil : rle [] = -1 := by decide
theorem run_lt {nx : List (List Nat)} (hn : ∀ r ∈ nx, ∀ k ∈ r, k < nx.length) (w : Nat) (hw : ∀ i, i < nx.length → (nx.getD i []).length = w) : ∀ (u : List Nat) (i : Nat), i < nx.length → (∀ k ∈ u, k < w) → Df.run nx i u < nx.length
  | [], i, hi, _ => hi
  | k :: u, i, hi, hu => by
    rw [run_cons]
    exact run_lt hn w hw u _ (getD_lt hn (by rw [hw i hi]; exact hu k (by simp))) (fun x hx => hu x (by simp [hx]))
section
variable {l : List Rx} {F : List Fr} {nx : List (List Nat)} {r p : List Int} {st : Nat} {S : List Nat}
theorem Plan.mem0 (h : Plan l F nx r p st S) : ([], []) ∈ F ∧ s0 l ∈ F ∧ idx F ([], []) = 0 := by
  obtain ⟨n, _, e, _⟩ := h.n
  obtain ⟨ys, e2⟩ := gone_pre (nxt l) (F0 l) 0 n
  rw [Nat.zero_add] at e2
  have e3 : F = F0 l ++ ys := by rw [← e]; exact e2
  have h0 : ([], []) ∈ F0 l := by unfold F0; rw [mem_meet]; simp
  have h1 : s0 l ∈ F0 l := by unfold F0; rw [mem_meet]; simp
  refine ⟨by rw [e3]; exact List.mem_append_left _ h0, by rw [e3]; exact List.mem_append_left _ h1, ?_⟩
  rw [e3, idx_pre h0]
  unfold F0
  rw [idx_meet (by simp)]
  simp [idx]
theorem Plan.nodup (h : Plan l F nx r p st S) : F.Nodup := by
  obtain ⟨n, _, e, _⟩ := h.n
  rw [← e]
  exact gone_nodup _ (F0_nodup l) n
theorem Plan.closed (h : Plan l F nx r p st S) {f : Fr} (hf : f ∈ F) : ∀ g ∈ nxt l f, g ∈ F := by
  obtain ⟨n, hw, e, en⟩ := h.n
  obtain ⟨j, hj, rfl⟩ := List.getElem_of_mem hf
  obtain ⟨hl, hc⟩ := hw.closed (show j < n by omega)
  intro g hg
  rw [← e]
  refine hc g ?_
  have : (gone (nxt l) (F0 l) n)[j] = F[j] := by simp only [← e]
  rw [this]
  exact hg
theorem Plan.len (h : Plan l F nx r p st S) : nx.length = F.length := by rw [h.hnx, List.length_map]
theorem Plan.row (h : Plan l F nx r p st S) {i : Nat} (hi : i < F.length) : nx.getD i [] = (nxt l F[i]).map (idx F) := by
  rw [h.hnx, List.getD_eq_getElem?_getD, List.getElem?_map, List.getElem?_eq_getElem hi]
  rfl
theorem Plan.wide (h : Plan l F nx r p st S) {i : Nat} (hi : i < nx.length) : (nx.getD i []).length = (by_ l).length := by
  rw [h.row (by rw [← h.len]; exact hi), List.length_map, nxt_len]
theorem Plan.in (h : Plan l F nx r p st S) : ∀ r ∈ nx, ∀ k ∈ r, k < nx.length := by
  intro r hr k hk
  rw [h.hnx] at hr
  obtain ⟨f, hf, rfl⟩ := List.mem_map.1 hr
  obtain ⟨g, hg, rfl⟩ := List.mem_map.1 hk
  rw [h.len]
  exact idx_lt (h.closed hf g hg)
theorem Plan.step (h : Plan l F nx r p st S) {f : Fr} (hf : f ∈ F) {c : Nat} (hc : c < 256) : (nx.getD (idx F f) [])[kl l c]? = some (idx F (sf l c f)) ∧ sf l c f ∈ F := by
  have hi := idx_lt hf
  have e := get_idx hf
  rw [List.getElem?_eq_getElem hi] at e
  injection e with e
  have hn := nxt_get l f hc
  refine ⟨?_, h.closed hf _ (List.mem_of_getElem? hn)⟩
  rw [h.row hi, e, List.getElem?_map, hn]
  rfl
theorem Plan.fat (h : Plan l F nx r p st S) {b : Nat → Nat} (hb : ∀ i, b i < 256) : ∀ q, Df.fat l b q ∈ F
  | 0 => h.mem0.2.1
  | q + 1 => (h.step (h.fat hb q) (hb q)).2
theorem Plan.rget (h : Plan l F nx r p st S) {f : Fr} (hf : f ∈ F) : r.getD (idx F f) 0 = rle f.2 := by
  rw [h.hr, List.getD_eq_getElem?_getD, List.getElem?_map, get_idx hf]
  rfl
theorem Plan.zero (h : Plan l F nx r p st S) : ∀ u : List Nat, Df.run nx 0 u = 0
  | [] => rfl
  | k :: u => by
    rw [run_cons]
    have hz := h.mem0.2.2
    have h0 : 0 < F.length := by have := idx_lt h.mem0.1; omega
    have e0 : F[0] = ([], []) := by
      have := get_idx h.mem0.1
      rw [hz, List.getElem?_eq_getElem h0] at this
      injection this
    have e : (nx.getD 0 []).getD k 0 = 0 := by
      rw [h.row h0, e0, List.getD_eq_getElem?_getD, List.getElem?_map]
      unfold nxt
      rw [List.getElem?_map]
      cases (by_ l)[k]? with
      | none => rfl
      | some c => simp only [Option.map_some, Option.getD_some, sf_nil]; exact hz
    rw [e]
    exact h.zero u
theorem Plan.dead (h : Plan l F nx r p st S) {i : Nat} (hi : i < nx.length) : p.getD i 0 = p.getD 0 0 ↔ ∀ u, (∀ k ∈ u, k < (by_ l).length) → r.getD (Df.run nx i u) 0 = -1 := by
  have h0 : 0 < nx.length := by omega
  have z : ∀ u, r.getD (Df.run nx 0 u) 0 = -1 := fun u => by
    rw [h.zero u]
    have := h.rget h.mem0.1
    rw [h.mem0.2.2] at this
    rw [this]
    exact rle_nil
  constructor
  · intro e u hu
    have e2 := h.fine.run h.in _ (fun i hi => h.wide hi) u i 0 hi h0 hu e
    have l1 : Df.run nx i u < nx.length := run_lt h.in _ (fun i hi => h.wide hi) u i hi hu
    have l2 : Df.run nx 0 u < nx.length := by rw [h.zero]; exact h0
    rw [h.fine.rule _ _ l1 l2 e2]
    exact z u
  · intro H
    refine h.fine.back i 0 hi h0 fun u hu => ?_
    rw [H u (fun k hk => by have := hu k hk; rwa [h.wide hi] at this), z u]

theorem Plan.s_lt (h : Plan l F nx r p st S) : ∀ x ∈ S, x < nx.length := by
  obtain ⟨m, _, e, _⟩ := h.s
  intro x hx
  rw [← e] at hx
  have := sGone_from _ _ _ m x hx
  clear hx
  induction this with
  | base => rw [h.hst, h.len]; exact idx_lt h.mem0.2.1
  | step _ h2 _ ih =>
    rename_i x y _ _
    rw [List.getD_eq_getElem?_getD, List.getElem?_eq_getElem ih, Option.getD_some] at h2
    exact h.in _ (List.getElem_mem ih) _ h2
theorem Plan.s_zero (h : Plan l F nx r p st S) : ∃ h0 : 0 < S.length, S[0] = st := by
  obtain ⟨m, _, e, _⟩ := h.s
  obtain ⟨h1, e1⟩ := sGone_zero (fun k => p.getD k 0) nx st m
  subst e
  exact ⟨h1, e1⟩
theorem Plan.s_nodup (h : Plan l F nx r p st S) : (S.map fun k => p.getD k 0).Nodup := by
  obtain ⟨m, _, e, _⟩ := h.s
  rw [← e]
  exact sGone_nodup _ _ _ m
theorem Plan.s_closed (h : Plan l F nx r p st S) {j : Nat} (hj : j < S.length) : ∀ y ∈ nx.getD S[j] [], Cov (fun k => p.getD k 0) S y := by
  obtain ⟨m, hw, e, em⟩ := h.s
  obtain ⟨hl, hc⟩ := hw.closed (show j < m by omega)
  intro y hy
  have : (sGone (fun k => p.getD k 0) nx st m)[j] = S[j] := by simp only [e]
  rw [this] at hc
  have := hc y hy
  rwa [e] at this
theorem Plan.s_live (h : Plan l F nx r p st S) {x : Nat} (hx : x ∈ S) : x = st ∨ p.getD x 0 ≠ p.getD 0 0 := by
  obtain ⟨m, _, e, _⟩ := h.s
  rw [← e] at hx
  have := sGone_from _ _ _ m x hx
  cases this with
  | base => exact .inl rfl
  | step _ _ h3 => exact .inr h3
def tN (p : List Int) (nx : List (List Nat)) (S : List Nat) : List (List Int) := S.map fun s => (nx.getD s []).map (sNum (fun k => p.getD k 0) S)
def tR (r : List Int) (S : List Nat) : List Int := S.map fun s => r.getD s 0
theorem tN_get (p : List Int) (nx : List (List Nat)) (S : List Nat) {j : Nat} (hj : j < S.length) : (tN p nx S).getD j [] = (nx.getD S[j] []).map (sNum (fun k => p.getD k 0) S) := by
  unfold tN
  rw [List.getD_eq_getElem?_getD, List.getElem?_map, List.getElem?_eq_getElem hj]
  rfl
theorem tR_get (r : List Int) (S : List Nat) {j : Nat} (hj : j < S.length) (d : Int) : (tR r S).getD j d = r.getD S[j] 0 := by
  unfold tR
  rw [List.getD_eq_getElem?_getD (l := S.map _), List.getElem?_map, List.getElem?_eq_getElem hj]
  rfl
theorem Plan.one (h : Plan l F nx r p st S) {i j : Nat} (hi : i < nx.length) (hj : j < nx.length) (e : p.getD i 0 = p.getD j 0) {k : Nat} (hk : k < (by_ l).length) : p.getD ((nx.getD i []).getD k 0) 0 = p.getD ((nx.getD j []).getD k 0) 0 :=
  h.fine.run h.in _ (fun i hi => h.wide hi) [k] i j hi hj (fun x hx => by rw [List.mem_singleton] at hx; rw [hx]; exact hk) e
theorem Plan.at (h : Plan l F nx r p st S) {b : Nat → Nat} (hb : ∀ i, b i < 256) : ∀ q, (Df.rn (kl l) (tN p nx S) b q = -1 ∧ p.getD (idx F (Df.fat l b q)) 0 = p.getD 0 0) ∨ ∃ j, ∃ hj : j < S.length, Df.rn (kl l) (tN p nx S) b q = (j : Nat) ∧ p.getD S[j] 0 = p.getD (idx F (Df.fat l b q)) 0 ∧ (0 < q → p.getD (idx F (Df.fat l b q)) 0 ≠ p.getD 0 0)
  | 0 => by
    obtain ⟨h0, e⟩ := h.s_zero
    refine .inr ⟨0, h0, rfl, ?_, fun hq => by omega⟩
    rw [e, h.hst]
    rfl
  | q + 1 => by
    have hf := h.fat hb q
    have hst := h.step hf (hb q)
    have hi : idx F (Df.fat l b q) < nx.length := by rw [h.len]; exact idx_lt hf
    have hk := kl_lt l (hb q)
    have hz : 0 < nx.length := by omega
    have e1 : (nx.getD (idx F (Df.fat l b q)) []).getD (kl l (b q)) 0 = idx F (Df.fat l b (q + 1)) := by
      rw [List.getD_eq_getElem?_getD, hst.1]; rfl
    rcases h.at hb q with ⟨h1, h2⟩ | ⟨j, hj, h1, h2, _⟩
    · refine .inl ⟨by rw [Df.rn, h1]; rfl, ?_⟩
      have := h.one hi hz h2 hk
      rw [e1] at this
      rw [this]
      have z := h.zero [kl l (b q)]
      rw [run_cons, run_nil] at z
      rw [z]
    · have hs := h.s_lt _ (List.getElem_mem hj)
      have e2 := h.one hs hi h2 hk
      rw [e1] at e2
      have hkr : kl l (b q) < (nx.getD S[j] []).length := by rw [h.wide hs]; exact hk
      have hcov := h.s_closed hj _ (List.getElem_mem hkr)
      have e3 : (nx.getD S[j] [])[kl l (b q)] = (nx.getD S[j] []).getD (kl l (b q)) 0 := get_getD _ hkr
      rw [e3] at hcov
      have e4 : Df.rn (kl l) (tN p nx S) b (q + 1) = sNum (fun k => p.getD k 0) S ((nx.getD S[j] []).getD (kl l (b q)) 0) := by
        rw [Df.rn, h1, Df.stp, if_pos (by omega), Int.toNat_natCast, tN_get p nx S hj, List.getD_eq_getElem?_getD, List.getElem?_map, List.getElem?_eq_getElem hkr, ← e3]
        rfl
      rw [e4]
      rcases sNum_get hcov with ⟨c1, c2⟩ | ⟨c1, i, hi2, c2, c3⟩
      · exact .inl ⟨c2, by rw [← e2]; exact c1⟩
      · refine .inr ⟨i, hi2, c2, by rw [← e2]; exact c3, fun _ => by rw [← e2]; exact c1⟩
theorem Plan.rule (h : Plan l F nx r p st S) {b : Nat → Nat} (hb : ∀ i, b i < 256) (q : Nat) : (Df.rn (kl l) (tN p nx S) b q < 0 → rle (Df.fat l b q).2 = -1) ∧ (0 ≤ Df.rn (kl l) (tN p nx S) b q → (tR r S).getD (Df.rn (kl l) (tN p nx S) b q).toNat (-1) = rle (Df.fat l b q).2 ∧ (Df.rn (kl l) (tN p nx S) b q).toNat < S.length) := by
  have hf := h.fat hb q
  have hi : idx F (Df.fat l b q) < nx.length := by rw [h.len]; exact idx_lt hf
  have hz : 0 < nx.length := by omega
  rcases h.at hb q with ⟨h1, h2⟩ | ⟨j, hj, h1, h2, _⟩
  · refine ⟨fun _ => ?_, fun h0 => by omega⟩
    have := h.fine.rule _ _ hi hz h2
    rw [h.rget hf] at this
    rw [this]
    have z := h.rget h.mem0.1
    rw [h.mem0.2.2] at z
    rw [z]
    exact rle_nil
  · refine ⟨fun h0 => by omega, fun _ => ⟨?_, by rw [h1, Int.toNat_natCast]; exact hj⟩⟩
    rw [h1, Int.toNat_natCast, tR_get r S hj]
    have := h.fine.rule _ _ (h.s_lt _ (List.getElem_mem hj)) hi h2
    rw [this, h.rget hf]
theorem Plan.way (h : Plan l F nx r p st S) {b : Nat → Nat} (hb : ∀ i, b i < 256) (m : Nat) : ∀ q, Df.run nx (idx F (Df.fat l b m)) ((List.range q).map fun i => kl l (b (m + i))) = idx F (Df.fat l b (m + q))
  | 0 => rfl
  | q + 1 => by
    have ih := h.way hb m q
    rw [List.range_succ, List.map_append, List.map_singleton, Df.run, List.foldl_append]
    rw [Df.run] at ih
    rw [ih, List.foldl_cons, List.foldl_nil, List.getD_eq_getElem?_getD, (h.step (h.fat hb (m + q)) (hb (m + q))).1]
    rfl
theorem fat_congr (l : List Rx) {b b' : Nat → Nat} : ∀ q, (∀ i, i < q → b' i = b i) → Df.fat l b' q = Df.fat l b q
  | 0, _ => rfl
  | q + 1, h => by rw [Df.fat, Df.fat, fat_congr l q (fun i hi => h i (by omega)), h q (by omega)]
theorem rn_congr (g : Nat → Nat) (N : List (List Int)) {b b' : Nat → Nat} : ∀ q, (∀ i, i < q → b' i = b i) → Df.rn g N b' q = Df.rn g N b q
  | 0, _ => rfl
  | q + 1, h => by rw [Df.rn, Df.rn, rn_congr g N q (fun i hi => h i (by omega)), h q (by omega)]
theorem by_kl {l : List Rx} {k : Nat} (hk' : k < (by_ l).length) : kl l ((by_ l).getD k 0) = k ∧ (by_ l).getD k 0 < 256 := by
  have hk : k < (frs (kl l) 256).length := hk'
  have := frs_at (kl l) 256 k hk
  have e : (by_ l).getD k 0 = (frs (kl l) 256)[k] := by rw [List.getD_eq_getElem?_getD]; unfold by_; rw [List.getElem?_eq_getElem hk]; rfl
  rw [e]
  exact this
theorem Plan.back (h : Plan l F nx r p st S) {b c : Nat → Nat} (hb : ∀ i, b i < 256) (hc : ∀ i, c i < 256) (q m : Nat)
    (H : ∀ (u : Nat → Nat), (∀ i, u i < 256) → ∀ n, rle (Df.fat l (fun i => if i < q then b i else u (i - q)) (q + n)).2 = rle (Df.fat l (fun i => if i < m then c i else u (i - m)) (m + n)).2) :
    p.getD (idx F (Df.fat l b q)) 0 = p.getD (idx F (Df.fat l c m)) 0 := by
  have key : ∀ {b : Nat → Nat} (hb : ∀ i, b i < 256) (q : Nat) (v : List Nat), (∀ k ∈ v, k < (by_ l).length) → r.getD (Df.run nx (idx F (Df.fat l b q)) v) 0 = rle (Df.fat l (fun i => if i < q then b i else (fun i => (by_ l).getD (v.getD i 0) 0) (i - q)) (q + v.length)).2 := by
    intro b hb q v hv
    have hz := (by_len l).1
    have hB : ∀ i, (fun i => if i < q then b i else (fun i => (by_ l).getD (v.getD i 0) 0) (i - q)) i < 256 := fun i => by
      simp only
      split
      · exact hb i
      · have h0 : v.getD (i - q) 0 < (by_ l).length := by
          rw [List.getD_eq_getElem?_getD]
          cases e : v[i - q]? with
          | none => simp; omega
          | some x => exact hv x (List.mem_of_getElem? e)
        exact (by_kl h0).2
    have hw := h.way hB q v.length
    have e1 : Df.fat l (fun i => if i < q then b i else (fun i => (by_ l).getD (v.getD i 0) 0) (i - q)) q = Df.fat l b q := fat_congr l q fun i hi => by simp [hi]
    have e2 : ((List.range v.length).map fun i => kl l ((fun i => if i < q then b i else (fun i => (by_ l).getD (v.getD i 0) 0) (i - q)) (q + i))) = v := by
      refine List.ext_getElem (by simp) fun i h1 h2 => ?_
      rw [List.getElem_map, List.getElem_range]
      simp only [show ¬ q + i < q by omega, if_false, Nat.add_sub_cancel_left]
      have e3 : v.getD i 0 = v[i] := by rw [List.getD_eq_getElem?_getD, List.getElem?_eq_getElem h2]; rfl
      rw [e3]
      exact (by_kl (hv _ (List.getElem_mem h2))).1
    rw [e1, e2] at hw
    rw [hw]
    exact h.rget (h.fat hB _)
  have hi : idx F (Df.fat l b q) < nx.length := by rw [h.len]; exact idx_lt (h.fat hb q)
  have hj : idx F (Df.fat l c m) < nx.length := by rw [h.len]; exact idx_lt (h.fat hc m)
  refine h.fine.back _ _ hi hj fun v hv => ?_
  have hv' : ∀ k ∈ v, k < (by_ l).length := fun k hk => by have := hv k hk; rwa [h.wide hi] at this
  have hz := (by_len l).1
  rw [key hb q v hv', key hc m v hv']
  refine H (fun i => (by_ l).getD (v.getD i 0) 0) (fun i => ?_) v.length
  have h0 : v.getD i 0 < (by_ l).length := by
    rw [List.getD_eq_getElem?_getD]
    cases e : v[i]? with
    | none => simp; omega
    | some x => exact hv' x (List.mem_of_getElem? e)
  exact (by_kl h0).2
theorem least_mem : ∀ (l : List Int) (x : Int), Nf.least x l ∈ x :: l
  | [], x => by simp [Nf.least]
  | z :: l, x => by
    have h := least_mem l (min x z)
    have e : Nf.least x (z :: l) = Nf.least (min x z) l := rfl
    rw [e]
    rw [List.mem_cons] at h ⊢
    rcases h with h | h
    · rw [h, List.mem_cons]
      rcases Int.le_total x z with h1 | h1
      · exact .inl (by omega)
      · exact .inr (.inl (by omega))
    · exact .inr (by rw [List.mem_cons]; exact .inr h)
theorem rle_in {rs : List Int} (h : rle rs ≠ -1) : rle rs ∈ rs := by
  cases rs with
  | nil => exact absurd rle_nil h
  | cons x t =>
    have : rle (x :: t) = Nf.least x t := by simp [rle, Nf.rule]
    rw [this]
    exact least_mem t x
theorem Plan.len_s (h : Plan l F nx r p st S) : S.length ≤ 500 := by
  have hn := h.s_nodup
  have hnd : S.Nodup := by
    refine List.pairwise_iff_getElem.2 fun i j hi hj hij e => ?_
    refine (List.pairwise_iff_getElem.1 hn) i j (by rw [List.length_map]; exact hi) (by rw [List.length_map]; exact hj) hij ?_
    rw [List.getElem_map, List.getElem_map, e]
  obtain ⟨h0, e0⟩ := h.s_zero
  have hle := h.le
  by_cases hz : (0 : Nat) ∈ S
  · -- the start is the front without anything
    have hst : st = 0 := by
      rcases h.s_live hz with e | e
      · exact e.symm
      · exact absurd rfl e
    have hall : ∀ x ∈ S, x = 0 := by
      obtain ⟨m, _, e, _⟩ := h.s
      intro x hx
      rw [← e] at hx
      have hx2 := sGone_from _ _ _ m x hx
      clear hx
      induction hx2 with
      | base => exact hst
      | step _ h2 h3 ih =>
        rename_i x y _ _
        subst ih
        obtain ⟨k, hk, rfl⟩ := List.getElem_of_mem h2
        have z := h.zero [k]
        rw [run_cons, run_nil, ← get_getD _ hk] at z
        exact z
    match S, hnd, hall with
    | [], _, _ => simp
    | [x], _, _ => simp
    | x :: y :: t, hnd, hall =>
      have h1 := hall x (by simp)
      have h2 := hall y (by simp)
      rw [List.nodup_cons] at hnd
      exact absurd (by rw [h1, h2]; simp) hnd.1
  · have hsub : ∀ x ∈ S, x ∈ (List.range (nx.length - 1)).map (· + 1) := fun x hx => by
      have hx1 := h.s_lt x hx
      have hx0 : x ≠ 0 := fun e => hz (e ▸ hx)
      exact List.mem_map.2 ⟨x - 1, List.mem_range.2 (by omega), by omega⟩
    have := hnd.length_le_of_subset hsub
    rw [List.length_map, List.length_range, h.len] at this
    omega
theorem Plan.rle_lt (h : Plan l F nx r p st S) {f : Fr} (hf : f ∈ F) : -1 ≤ rle f.2 ∧ rle f.2 < 32 := by
  obtain ⟨n, _, e, _⟩ := h.n
  rw [← e] at hf
  have hk := fs_ok hf
  have h32 := h.fit.ln
  by_cases e : rle f.2 = -1
  · omega
  · have := hk.2.2.2 _ (rle_in e)
    omega
theorem Plan.rt (h : Plan l F nx r p st S) : Df.rt (kl l) (tN p nx S) (tR r S) = true := by
  obtain ⟨h0, e0⟩ := h.s_zero
  have hlen : (tN p nx S).length = S.length := by simp [tN]
  have hw : ∀ x ∈ S, ((nx.getD x []).map (sNum (fun k => p.getD k 0) S)).length = (by_ l).length := fun x hx => by rw [List.length_map, h.wide (h.s_lt x hx)]
  have h00 : ((tN p nx S).getD 0 []).length = (by_ l).length := by rw [tN_get p nx S h0]; exact hw _ (List.getElem_mem h0)
  unfold Df.rt
  rw [h00, hlen]
  simp only [Bool.and_eq_true, decide_eq_true_eq, List.all_eq_true]
  refine ⟨⟨⟨⟨⟨h0, h.len_s⟩, by simp [tR]⟩, fun x hx => ?_⟩, ?_⟩, fun row hrow => ?_⟩
  · unfold tR at hx
    obtain ⟨s, hs, rfl⟩ := List.mem_map.1 hx
    have hs2 : s < F.length := by rw [← h.len]; exact h.s_lt s hs
    have := h.rget (List.getElem_mem hs2)
    rw [idx_get h.nodup hs2] at this
    rw [this]
    have := h.rle_lt (List.getElem_mem hs2)
    simp [Df.wi, this]
  · have : ∀ k, k ≤ 255 → Df.top (kl l) k < (by_ l).length := by
      intro k
      induction k with
      | zero => intro _; exact kl_lt l (by omega)
      | succ k ih =>
        intro hk
        have h1 := ih (by omega)
        have h2 := kl_lt l (c := k + 1) (by omega)
        rw [Df.top]
        omega
    exact this 255 (Nat.le_refl _)
  · unfold tN at hrow
    obtain ⟨s, hs, rfl⟩ := List.mem_map.1 hrow
    unfold Df.rowOk
    rw [Bool.and_eq_true, decide_eq_true_eq, List.all_eq_true]
    refine ⟨hw s hs, fun x hx => ?_⟩
    obtain ⟨y, hy, rfl⟩ := List.mem_map.1 hx
    obtain ⟨j, hj, rfl⟩ := List.getElem_of_mem hs
    rcases sNum_get (h.s_closed hj y hy) with ⟨_, c2⟩ | ⟨_, i, hi, c2, _⟩
    · rw [c2]; simp [Df.wi]; omega
    · rw [c2]; simp [Df.wi]; omega
end
end Df
end Go.Proofs.Ythapedadnbkgnaa
namespace Go.Proofs.Ythapedadnbkgnaa
set_option linter.unusedVariables false
set_option linter.unusedSimpArgs false
namespace Df
variable {l : List Rx} {F : List Fr} {nx : List (List Nat)} {r p : List Int} {st : Nat} {S : List Nat}
def go (N : List (List Int)) (a k : Nat) : Int := (N.getD a []).getD k (-1)
theorem Plan.tlen (h : Plan l F nx r p st S) {a : Nat} (ha : a < S.length) : ((tN p nx S).getD a []).length = (by_ l).length := by
  rw [tN_get _ _ _ ha, List.length_map, h.wide (h.s_lt _ (List.getElem_mem ha))]
theorem Plan.goes (h : Plan l F nx r p st S) {a k : Nat} (ha : a < S.length) (hk : k < (by_ l).length) : ∃ x, (nx.getD S[a] []).getD k 0 = x ∧ x < nx.length ∧ ((go (tN p nx S) a k = -1 ∧ p.getD x 0 = p.getD 0 0) ∨ ∃ j : Nat, ∃ hj : j < S.length, go (tN p nx S) a k = j ∧ p.getD S[j] 0 = p.getD x 0 ∧ p.getD x 0 ≠ p.getD 0 0) := by
  have hs := h.s_lt _ (List.getElem_mem ha)
  have hk' : k < (nx.getD S[a] []).length := by rw [h.wide hs]; exact hk
  refine ⟨_, rfl, getD_lt h.in hk', ?_⟩
  have e1 : go (tN p nx S) a k = sNum (fun k => p.getD k 0) S ((nx.getD S[a] []).getD k 0) := by
    unfold go
    rw [tN_get _ _ _ ha, List.getD_eq_getElem?_getD, List.getElem?_map, List.getElem?_eq_getElem hk', get_getD _ hk']
    rfl
  rw [e1]
  have hc := h.s_closed ha ((nx.getD S[a] []).getD k 0) (by rw [← get_getD _ hk']; exact List.getElem_mem hk')
  rcases sNum_get hc with ⟨h1, h2⟩ | ⟨h1, j, hj, h2, h3⟩
  · exact .inl ⟨h2, h1⟩
  · exact .inr ⟨j, hj, h2, h3, h1⟩
theorem Plan.run_len (h : Plan l F nx r p st S) (u : List Nat) {i : Nat} (hi : i < nx.length) (hu : ∀ k ∈ u, k < (by_ l).length) : Df.run nx i u < nx.length := run_lt h.in _ (fun _ hi => h.wide hi) u i hi hu
theorem Plan.run_r (h : Plan l F nx r p st S) {i j : Nat} (hi : i < nx.length) (hj : j < nx.length) (e : p.getD i 0 = p.getD j 0) (u : List Nat) (hu : ∀ k ∈ u, k < (by_ l).length) : r.getD (Df.run nx i u) 0 = r.getD (Df.run nx j u) 0 :=
  h.fine.rule _ _ (h.run_len u hi hu) (h.run_len u hj hu) (h.fine.run h.in _ (fun _ hi => h.wide hi) u i j hi hj hu e)
def Twins (N : List (List Int)) (R : List Int) (wide : Nat) (Q : Int → Int → Prop) : Prop :=
  ∀ a b, Q a b → (a < 0 ↔ b < 0) ∧ (0 ≤ a → R.getD a.toNat 0 = R.getD b.toNat 0 ∧ ∀ k, k < wide → Q (go N a.toNat k) (go N b.toNat k))
theorem Plan.twins (h : Plan l F nx r p st S) {Q : Int → Int → Prop} (hQ : Twins (tN p nx S) (tR r S) (by_ l).length Q) : ∀ (u : List Nat), (∀ k ∈ u, k < (by_ l).length) → ∀ a b (ha : a < S.length) (hb : b < S.length), Q a b → r.getD (Df.run nx S[a] u) 0 = r.getD (Df.run nx S[b] u) 0
  | [], _, a, b, ha, hb, hq => by
    have := ((hQ _ _ hq).2 (by omega)).1
    rw [Int.toNat_natCast, Int.toNat_natCast, tR_get _ _ ha, tR_get _ _ hb] at this
    exact this
  | k :: u, hu, a, b, ha, hb, hq => by
    have hk := hu k (by simp)
    have hu' : ∀ k ∈ u, k < (by_ l).length := fun x hx => hu x (by simp [hx])
    have hq' := ((hQ _ _ hq).2 (by omega)).2 k hk
    rw [Int.toNat_natCast, Int.toNat_natCast] at hq'
    rw [run_cons, run_cons]
    obtain ⟨x, hx, hxl, hx'⟩ := h.goes ha hk
    obtain ⟨y, hy, hyl, hy'⟩ := h.goes hb hk
    rw [hx, hy]
    have hn := (hQ _ _ hq').1
    rcases hx' with ⟨e1, e2⟩ | ⟨i, hi, e1, e2, e3⟩
    · rcases hy' with ⟨f1, f2⟩ | ⟨j, hj, f1, f2, f3⟩
      · rw [(h.dead hxl).1 e2 u hu', (h.dead hyl).1 f2 u hu']
      · rw [e1, f1] at hn; omega
    · rcases hy' with ⟨f1, f2⟩ | ⟨j, hj, f1, f2, f3⟩
      · rw [e1, f1] at hn; omega
      · rw [e1, f1] at hq'
        have ih := h.twins hQ u hu' i j hi hj hq'
        rw [← h.run_r (h.s_lt _ (List.getElem_mem hi)) hxl e2 u hu', ← h.run_r (h.s_lt _ (List.getElem_mem hj)) hyl f2 u hu']
        exact ih
theorem Plan.apart (h : Plan l F nx r p st S) {Q : Int → Int → Prop} (hQ : Twins (tN p nx S) (tR r S) (by_ l).length Q) {a b : Nat} (ha : a < S.length) (hb : b < S.length) (hq : Q a b) : a = b := by
  have h1 := h.s_lt _ (List.getElem_mem ha)
  have h2 := h.s_lt _ (List.getElem_mem hb)
  have e := h.fine.back _ _ h1 h2 fun u hu => h.twins hQ u (fun k hk => by have := hu k hk; rwa [h.wide h1] at this) a b ha hb hq
  have hn := h.s_nodup
  have := (List.getElem_inj (xs := S.map fun k => p.getD k 0) (i := a) (j := b) (h₀ := by simpa using ha) (h₁ := by simpa using hb) hn).1 (by simpa using e)
  exact this
theorem sGone_par (p : Nat → Int) (nx : List (List Nat)) (st : Nat) : ∀ n j (hj : j < (sGone p nx st n).length), 0 < j → ∃ i, ∃ hi : i < (sGone p nx st n).length, i < j ∧ i < n ∧ ∃ y ∈ nx.getD (sGone p nx st n)[i] [], y = (sGone p nx st n)[j] ∧ p y ≠ p 0
  | 0, j, hj, h0 => by simp [sGone] at hj; omega
  | n + 1, j, hj, h0 => by
    by_cases hl : j < (sGone p nx st n).length
    · obtain ⟨i, hi, h1, h1', y, h2, h3, h4⟩ := sGone_par p nx st n j hl h0
      obtain ⟨g1, e1⟩ := sGone_get p nx st (n := n + 1) (Nat.le_succ n) hi
      obtain ⟨g2, e2⟩ := sGone_get p nx st (n := n + 1) (Nat.le_succ n) hl
      exact ⟨i, g1, h1, by omega, y, by rw [e1]; exact h2, by rw [e2]; exact h3, h4⟩
    · by_cases hn : n < (sGone p nx st n).length
      · have e : sGone p nx st (n + 1) = (nx.getD (sGone p nx st n)[n] []).foldl (sMeet p) (sGone p nx st n) := sPass_at p nx _ hn
        have hm : ∀ (us S0 : List Nat) (i : Nat) (hi : i < (us.foldl (sMeet p) S0).length), S0.length ≤ i → (us.foldl (sMeet p) S0)[i] ∈ us ∧ p (us.foldl (sMeet p) S0)[i] ≠ p 0 := by
          intro us
          induction us with
          | nil => intro S0 i hi h; simp at hi; omega
          | cons u us ih =>
            intro S0 i hi h
            simp only [List.foldl_cons] at hi ⊢
            by_cases h9 : (sMeet p S0 u).length ≤ i
            · have := ih _ _ hi h9
              exact ⟨List.mem_cons_of_mem _ this.1, this.2⟩
            · obtain ⟨ys, hys⟩ := sMeets_pre p us (sMeet p S0 u)
              have hlt : i < (sMeet p S0 u).length := by omega
              have e9 : (us.foldl (sMeet p) (sMeet p S0 u))[i] = (sMeet p S0 u)[i] := by simp only [hys]; exact List.getElem_append_left hlt
              rw [e9]
              have hx : (sMeet p S0 u)[i] = u ∧ p u ≠ p 0 := by
                unfold sMeet at hlt ⊢
                split at hlt
                · omega
                · rename_i h7
                  split at hlt
                  · omega
                  · rename_i h8
                    simp only [h7, h8, if_false]
                    simp only [List.length_append, List.length_singleton] at hlt
                    have : i = S0.length := by omega
                    subst this
                    exact ⟨by simp, h7⟩
              rw [hx.1]
              exact ⟨List.mem_cons_self .., hx.2⟩
        obtain ⟨g1, e1⟩ := sGone_get p nx st (n := n + 1) (Nat.le_succ n) hn
        have hj' := hj
        rw [e] at hj'
        have := hm _ _ j hj' (by omega)
        refine ⟨n, g1, by omega, by omega, (sGone p nx st (n + 1))[j], ?_, rfl, ?_⟩
        · rw [e1]; simp only [e]; exact this.1
        · simp only [e]; exact this.2
      · have e : sGone p nx st (n + 1) = sGone p nx st n := by
          show sPass p nx (sGone p nx st n) n = _
          unfold sPass
          rw [List.getElem?_eq_none (by omega)]
          rfl
        rw [e] at hj
        exact absurd hj hl
theorem Plan.par (h : Plan l F nx r p st S) {j : Nat} (hj : j < S.length) (h0 : 0 < j) : ∃ i, i < j ∧ ∃ k, k < (by_ l).length ∧ go (tN p nx S) i k = j := by
  obtain ⟨m, _, e, _⟩ := h.s
  have hj' := hj
  rw [← e] at hj'
  obtain ⟨i, hi, h1, _, y, hy, h3, h4⟩ := sGone_par (fun k => p.getD k 0) nx st m j hj' h0
  have hi2 : i < S.length := by omega
  have hS1 : (sGone (fun k => p.getD k 0) nx st m)[i] = S[i] := by simp only [e]
  have hS2 : (sGone (fun k => p.getD k 0) nx st m)[j] = S[j] := by simp only [e]
  rw [hS1] at hy
  rw [hS2] at h3
  obtain ⟨k, hk, e9⟩ := List.getElem_of_mem hy
  have hk2 : k < (by_ l).length := by rw [← h.wide (h.s_lt _ (List.getElem_mem hi2))]; exact hk
  refine ⟨i, h1, k, hk2, ?_⟩
  obtain ⟨x, hx, hxl, hx'⟩ := h.goes hi2 hk2
  rw [← get_getD _ hk, e9, h3] at hx
  subst hx
  rw [h3] at h4
  rcases hx' with ⟨_, e2⟩ | ⟨t, ht, e1, e2, _⟩
  · exact absurd e2 h4
  · have := (List.getElem_inj (xs := S.map fun k => p.getD k 0) (i := t) (j := j) (h₀ := by simpa using ht) (h₁ := by simpa using hj) h.s_nodup).1 (by simpa using e2)
    rw [e1, this]
structure Shut (N : List (List Int)) (R : List Int) (wide : Nat) (L : Nat → Prop) : Prop where
  rule : ∀ i, i < N.length → 0 ≤ R.getD i 0 → L i
  step : ∀ i k (j : Nat), i < N.length → k < wide → go N i k = j → L j → L i
theorem Plan.live (h : Plan l F nx r p st S) {L : Nat → Prop} (hL : Shut (tN p nx S) (tR r S) (by_ l).length L) : ∀ (u : List Nat), (∀ k ∈ u, k < (by_ l).length) → ∀ a (ha : a < S.length), r.getD (Df.run nx S[a] u) 0 ≠ -1 → L a
  | [], _, a, ha, hr => by
    refine hL.rule a (by simpa [tN] using ha) ?_
    rw [tR_get _ _ ha]
    have hs := h.s_lt _ (List.getElem_mem ha)
    have hsF : S[a] < F.length := by rw [← h.len]; exact hs
    rw [run_nil] at hr
    have e : r.getD S[a] 0 = rle (F[S[a]]).2 := by
      rw [h.hr, List.getD_eq_getElem?_getD, List.getElem?_map, List.getElem?_eq_getElem hsF]
      rfl
    have := (h.rle_lt (List.getElem_mem hsF)).1
    rw [e] at hr ⊢
    omega
  | k :: u, hu, a, ha, hr => by
    have hk := hu k (by simp)
    have hu' : ∀ k ∈ u, k < (by_ l).length := fun x hx => hu x (by simp [hx])
    rw [run_cons] at hr
    obtain ⟨x, hx, hxl, hx'⟩ := h.goes ha hk
    rw [hx] at hr
    rcases hx' with ⟨_, e2⟩ | ⟨j, hj, e1, e2, _⟩
    · exact absurd ((h.dead hxl).1 e2 u hu') hr
    · rw [← h.run_r (h.s_lt _ (List.getElem_mem hj)) hxl e2 u hu'] at hr
      exact hL.step a k j (by simpa [tN] using ha) hk e1 (h.live hL u hu' j hj hr)
theorem Plan.lives (h : Plan l F nx r p st S) {L : Nat → Prop} (hL : Shut (tN p nx S) (tR r S) (by_ l).length L) {a : Nat} (ha : a < S.length) (h0 : 0 < a) : L a := by
  have hs := h.s_lt _ (List.getElem_mem ha)
  obtain ⟨z0, e0⟩ := h.s_zero
  have hp : p.getD S[a] 0 ≠ p.getD 0 0 := by
    rcases h.s_live (List.getElem_mem ha) with e | e
    · have := (List.getElem_inj (xs := S.map fun k => p.getD k 0) (i := a) (j := 0) (h₀ := by simpa using ha) (h₁ := by simpa using z0) h.s_nodup).1 (by simp only [List.getElem_map, e, e0])
      omega
    · exact e
  refine Classical.byContradiction fun hn => hp ((h.dead hs).2 fun u hu => Classical.byContradiction fun hr => hn (h.live hL u hu a ha hr))
end Df
end Go.Proofs.Ythapedadnbkgnaa
namespace Go.Proofs.Ythapedadnbkgnaa
set_option linter.unusedVariables false
set_option linter.unusedSimpArgs false
open Go.RowKit
end Go.Proofs.Ythapedadnbkgnaa
namespace Go.Proofs.Ythapedadnbkgnaa
set_option linter.unusedVariables false
set_option linter.unusedSimpArgs false
open Go.RowKit
theorem Df.getD_get {α : Type} (l : List α) (d : α) {k : Nat} (h : k < l.length) : l.getD k d = l[k] := by rw [List.getD_eq_getElem?_getD, List.getElem?_eq_getElem h]; rfl
end Go.Proofs.Ythapedadnbkgnaa
