/- Plain facts on lines and columns (no program is named here). -/
import Derived.Test.YtnjcahcbeicblaaRpX
import Derived.Test.YtnjcahcbeicblaaRnE
namespace Go.Proofs.Ytnjcahcbeicblaa
set_option linter.unusedVariables false
set_option linter.unusedSimpArgs false
namespace Pl
/-- the column behind the bytes of a text, given from its end on -/
def colR : List UInt8 → Int
  | [] => 0
  | c :: t => if c = 10 then 0 else if Rn.folI c.toNat = true then colR t else colR t + 1
/-- the column of a text's end -/
def col (l : List UInt8) : Int := colR l.reverse
theorem col_snoc (l : List UInt8) (c : UInt8) : col (l ++ [c]) = if c = 10 then 0 else if Rn.folI c.toNat = true then col l else col l + 1 := by
  unfold col; rw [List.reverse_append]; rfl
theorem col_nil : col [] = 0 := rfl
theorem take_next (l : List UInt8) (i : Nat) (h : i < l.length) : l.take (i + 1) = l.take i ++ [l.getD i 0] := by
  rw [List.take_succ_eq_append_getElem h]
  have : l.getD i 0 = l[i] := by simp [h]
  rw [this]
theorem col_next (l : List UInt8) (i : Nat) (h : i < l.length) : col (l.take (i + 1)) = if l.getD i 0 = 10 then 0 else if Rn.folI (l.getD i 0).toNat = true then col (l.take i) else col (l.take i) + 1 := by
  rw [take_next l i h, col_snoc]
theorem cnt_next (l : List UInt8) (i : Nat) (h : i < l.length) : Rn.cnt (l.take (i + 1)) = Rn.cnt (l.take i) + if Rn.folI (l.getD i 0).toNat = true then 0 else 1 := by
  rw [take_next l i h, Rn.cnt_snoc]
theorem cnt_mono (l : List UInt8) {i j : Nat} (h : i ≤ j) : Rn.cnt (l.take i) ≤ Rn.cnt (l.take j) := by
  have e : l.take j = l.take i ++ (l.drop i).take (j - i) := by
    rw [← List.take_add]; congr 1; omega
  rw [e, Rp.cnt_append]
  have := (Rn.cnt_bd ((l.drop i).take (j - i))).1
  omega
theorem col_bd (l : List UInt8) : 0 ≤ col l ∧ col l ≤ l.length := by
  unfold col
  have : ∀ r : List UInt8, 0 ≤ colR r ∧ colR r ≤ r.length := by
    intro r
    induction r with
    | nil => simp [colR]
    | cons c t ih =>
      unfold colR
      simp only [List.length_cons]
      (repeat' split) <;> omega
  have h := this l.reverse
  simpa using h
/-- the line k begins at f and ends at t -/
structure Row (l : List UInt8) (k f t : Nat) : Prop where
  bh : Rp.Behind l k f
  ft : f ≤ t
  tl : t ≤ l.length
  ln : Rp.lns (l.take t) = k
  en : t = l.length ∨ l.getD t 0 = 10
theorem behind_le {l : List UInt8} {k f a : Nat} (hb : Rp.Behind l k f) (h : k ≤ Rp.lns (l.take a)) : f ≤ a := by
  obtain ⟨h1, h2, h3⟩ := hb
  rcases Nat.lt_or_ge a f with hlt | hge
  · rcases h3 with h3 | h3
    · omega
    · have e := Rp.lns_take_succ l (f - 1) (by omega)
      rw [h3, if_pos rfl, Nat.sub_add_cancel (by omega)] at e
      have := Rp.lns_take_mono l (show a ≤ f - 1 by omega)
      omega
  · exact hge
theorem end_le {l : List UInt8} {k t a : Nat} (tl : t ≤ l.length) (ln : Rp.lns (l.take t) = k) (en : t = l.length ∨ l.getD t 0 = 10) (ha : a ≤ l.length) (h : Rp.lns (l.take a) ≤ k) : a ≤ t := by
  rcases Nat.lt_or_ge t a with hlt | hge
  · rcases en with en | en
    · omega
    · have e := Rp.lns_take_succ l t (by omega)
      rw [en, if_pos rfl] at e
      have := Rp.lns_take_mono l (show t + 1 ≤ a by omega)
      omega
  · exact hge
theorem Row.one {l : List UInt8} {k f t f' t' : Nat} (h : Row l k f t) (h' : Row l k f' t') : f = f' ∧ t = t' := by
  refine ⟨Rp.behind_one h.bh h'.bh, Nat.le_antisymm ?_ ?_⟩
  · exact end_le h'.tl h'.ln h'.en h.tl (by rw [h.ln]; exact Nat.le_refl _)
  · exact end_le h.tl h.ln h.en h'.tl (by rw [h'.ln]; exact Nat.le_refl _)
theorem row_last {l : List UInt8} {k f : Nat} (hb : Rp.Behind l k f) (h : Rp.lns l = k) : Row l k f l.length :=
  ⟨hb, hb.1, Nat.le_refl _, by rw [List.take_length]; exact h, .inl rfl⟩
theorem row_next {l : List UInt8} {k f q : Nat} (hb : Rp.Behind l k f) (h : Rp.Behind l (k + 1) q) : 0 < q ∧ Row l k f (q - 1) := by
  obtain ⟨h1, h2, h3⟩ := h
  have h0 : 0 < q := by
    rcases Nat.eq_zero_or_pos q with e | e
    · subst e; simp [Rp.lns] at h2
    · exact e
  rcases h3 with h3 | h3
  · omega
  · have e := Rp.lns_take_succ l (q - 1) (by omega)
    rw [h3, if_pos rfl, Nat.sub_add_cancel (by omega), h2] at e
    exact ⟨h0, hb, behind_le hb (by omega), by omega, by omega, .inr h3⟩
theorem behind_zero (l : List UInt8) : Rp.Behind l 0 0 := ⟨Nat.zero_le _, by simp [Rp.lns], .inl rfl⟩
theorem behind_ex (l : List UInt8) : ∀ k, k ≤ Rp.lns l → ∃ q, Rp.Behind l k q := by
  intro k
  induction k with
  | zero => intro _; exact ⟨0, behind_zero l⟩
  | succ k ih =>
    intro h
    obtain ⟨p, hp⟩ := ih (by omega)
    obtain ⟨d, _, h2, h3, h4⟩ := Rp.idx_spec _ (Rp.behind_more hp (by omega))
    exact ⟨_, Rp.behind_next hp h2 h3 h4⟩
theorem row_ex (l : List UInt8) (k : Nat) (h : k ≤ Rp.lns l) : ∃ f t, Row l k f t := by
  obtain ⟨f, hf⟩ := behind_ex l k h
  by_cases e : Rp.lns l = k
  · exact ⟨f, _, row_last hf e⟩
  · obtain ⟨q, hq⟩ := behind_ex l (k + 1) (by omega)
    exact ⟨f, _, (row_next hf hq).2⟩
theorem Row.kl {l : List UInt8} {k f t : Nat} (h : Row l k f t) : k ≤ Rp.lns l := by rw [← h.ln]; exact Rp.lns_take_le _ _
theorem Row.has {l : List UInt8} {k f t a : Nat} (h : Row l k f t) (ha : a ≤ l.length) (hk : Rp.lns (l.take a) = k) : f ≤ a ∧ a ≤ t :=
  ⟨behind_le h.bh (by omega), end_le h.tl h.ln h.en ha (by omega)⟩
theorem col_at {l : List UInt8} {k f : Nat} (hb : Rp.Behind l k f) : ∀ d, f + d ≤ l.length → Rp.lns (l.take (f + d)) = k → col (l.take (f + d)) = Rn.cnt (l.take (f + d)) - Rn.cnt (l.take f) := by
  intro d
  induction d with
  | zero =>
    intro _ _
    obtain ⟨h1, _, h3⟩ := hb
    simp only [Nat.add_zero]
    rw [Int.sub_self]
    rcases h3 with h3 | h3
    · subst h3; simp [col_nil]
    · by_cases h0 : f = 0
      · subst h0; simp [col_nil]
      · obtain ⟨g, rfl⟩ : ∃ g, f = g + 1 := ⟨f - 1, by omega⟩
        rw [col_next l g (by omega), if_pos (by simpa using h3)]
  | succ d ih =>
    intro h1 h2
    have e := Rp.lns_take_succ l (f + d) (by omega)
    have hm := Rp.lns_take_mono l (show f ≤ f + d by omega)
    rw [hb.2.1] at hm
    rw [Nat.add_assoc] at e
    rw [h2] at e
    have hc : ¬ l.getD (f + d) 0 = 10 := by intro hc; rw [if_pos hc] at e; omega
    rw [if_neg hc] at e
    have i := ih (by omega) (by omega)
    rw [← Nat.add_assoc, col_next l (f + d) (by omega), cnt_next l (f + d) (by omega), if_neg hc, i]
    split <;> omega
theorem Row.col {l : List UInt8} {k f t a : Nat} (h : Row l k f t) (ha : a ≤ l.length) (hk : Rp.lns (l.take a) = k) : Pl.col (l.take a) = Rn.cnt (l.take a) - Rn.cnt (l.take f) := by
  obtain ⟨h1, _⟩ := h.has ha hk
  obtain ⟨d, rfl⟩ : ∃ d, a = f + d := ⟨a - f, by omega⟩
  exact col_at h.bh d ha hk
theorem edge_get (x : ByteArray) (j : Nat) (h : j < x.size) : Rn.edgeB x j = !Rn.folI (x.data.toList.getD j 0).toNat := by
  unfold Rn.edgeB
  rw [dif_pos (by omega)]
  have : x.data.toList.getD j 0 = x[(j : Int).toNat] := by simp [h]; rfl
  rw [this]
theorem edge_next {x : ByteArray} {j : Nat} (h : j < x.size) (he : Rn.edgeB x j = true) : Rn.cnt (x.data.toList.take (j + 1)) = Rn.cnt (x.data.toList.take j) + 1 := by
  rw [edge_get x j h] at he
  rw [cnt_next _ _ (by simpa using h), if_neg (by simpa using he)]
theorem cut_more (x : ByteArray) (n : Int) (h : 0 ≤ n) (i : Nat) (hi : Rn.cut x n < i) (hs : i ≤ x.size) : n < Rn.cnt (x.data.toList.take i) := by
  have hc := (Rn.cut_cnt x n h).2
  have he := edge_next (show Rn.cut x n < x.size by omega) (Rn.cut_edge x n h)
  have := cnt_mono x.data.toList (show Rn.cut x n + 1 ≤ i by omega)
  omega
theorem cut_is (x : ByteArray) (n : Int) (j : Nat) (hj : j ≤ x.size) (he : Rn.edgeB x j = true) (hc : Rn.cnt (x.data.toList.take j) = n) : Rn.cut x n = j := by
  have h0 : 0 ≤ n := by rw [← hc]; exact (Rn.cnt_bd _).1
  have hl := Rn.cut_le x n
  rcases Nat.lt_trichotomy (Rn.cut x n) j with h | h | h
  · have := cut_more x n h0 j h hj; omega
  · exact h
  · have h1 := (Rn.cut_cnt x n h0).1
    have h2 := edge_next (show j < x.size by omega) he
    have h3 := cnt_mono x.data.toList (show j + 1 ≤ Rn.cut x n by omega)
    omega
theorem cut_far (x : ByteArray) (n : Int) (h : Rn.cnt x.data.toList ≤ n) : Rn.cut x n = x.size := by
  have h0 : 0 ≤ n := by have := (Rn.cnt_bd x.data.toList).1; omega
  have hl := Rn.cut_le x n
  rcases Nat.lt_or_ge (Rn.cut x n) x.size with hlt | hge
  · have := cut_more x n h0 x.size hlt (Nat.le_refl _)
    rw [List.take_of_length_le (by simp)] at this
    omega
  · omega
/-- the greatest of the first edges with at most n signs ahead, as the document goes through them -/
def bestU (x : ByteArray) (n : Int) : Nat → Nat
  | 0 => 0
  | t + 1 => if (Rn.edgeB x t && decide (Rn.cnt (x.data.toList.take t) ≤ n)) = true then t else bestU x n t
theorem bestU_is (x : ByteArray) (n : Int) (j : Nat) (he : Rn.edgeB x j = true) (hc : Rn.cnt (x.data.toList.take j) ≤ n) : ∀ t, j < t → (∀ i, j < i → i < t → n < Rn.cnt (x.data.toList.take i)) → bestU x n t = j := by
  intro t
  induction t with
  | zero => intro h; omega
  | succ t ih =>
    intro h hm
    unfold bestU
    by_cases e : t = j
    · subst e; rw [if_pos (by simp [he, hc])]
    · have := hm t (by omega) (by omega)
      rw [if_neg (by simp; intro _; omega)]
      exact ih (by omega) (fun i a b => hm i a (by omega))
theorem bestU_cut (x : ByteArray) (n : Int) (h : 0 ≤ n) : bestU x n (x.size + 1) = Rn.cut x n :=
  bestU_is x n _ (Rn.cut_edge x n h) (Rn.cut_cnt x n h).1 _ (by have := Rn.cut_le x n; omega) (fun i a b => cut_more x n h i a (by omega))
theorem bestU_le (x : ByteArray) (n : Int) (t : Nat) : bestU x n t ≤ t := by
  induction t with
  | zero => exact Nat.le_refl _
  | succ t ih => unfold bestU; split <;> omega
theorem ext_take (s : ByteArray) (f t j : Nat) (h : f + j ≤ t) : s.data.toList.take (f + j) = s.data.toList.take f ++ (s.extract f t).data.toList.take j := by
  rw [Lib.extract_data, List.take_take, List.take_add]
  congr 2; omega
theorem ext_cnt (s : ByteArray) (f t j : Nat) (h : f + j ≤ t) : Rn.cnt ((s.extract f t).data.toList.take j) = Rn.cnt (s.data.toList.take (f + j)) - Rn.cnt (s.data.toList.take f) := by
  rw [ext_take s f t j h, Rp.cnt_append]; omega
theorem ext_size (s : ByteArray) (f t : Nat) (h : f ≤ t) (ht : t ≤ s.size) : (s.extract f t).size = t - f := by simp; omega
theorem ext_all (s : ByteArray) (f t : Nat) (h : f ≤ t) (ht : t ≤ s.size) : Rn.cnt (s.extract f t).data.toList = Rn.cnt (s.data.toList.take t) - Rn.cnt (s.data.toList.take f) := by
  have := ext_cnt s f t (t - f) (by omega)
  rw [List.take_of_length_le (by rw [Rn.len_data0, ext_size s f t h ht]; exact Nat.le_refl _)] at this
  rw [this]; congr 3; omega
theorem ext_edge (s : ByteArray) (f t k : Nat) (h1 : f ≤ k) (h2 : k ≤ t) (ht : t ≤ s.size) (he : Rn.edgeB s k = true) : Rn.edgeB (s.extract f t) (k - f : Nat) = true := by
  rcases Nat.lt_or_ge k t with h | h
  · rw [edge_get s k (by omega)] at he
    rw [edge_get _ _ (by rw [ext_size s f t (by omega) ht]; omega), ← he]
    congr 3
    have e : f + (k - f) = k := by omega
    rw [Lib.extract_data, List.getD_eq_getElem?_getD, List.getElem?_take_of_lt (by omega), List.getElem?_drop, List.getD_eq_getElem?_getD, e]
  · have : k - f = (s.extract f t).size := by rw [ext_size s f t (by omega) ht]; omega
    rw [this]; exact Rn.edge_end _
/-- the place of an edge's mark is the edge -/
theorem back {s : ByteArray} {k f t a : Nat} (R : Row s.data.toList k f t) (ha : a ≤ s.size) (hk : Rp.lns (s.data.toList.take a) = k) (he : Rn.edgeB s a = true) : f + Rn.cut (s.extract f t) (Rn.cnt (s.data.toList.take a) - Rn.cnt (s.data.toList.take f)) = a := by
  have htl := R.tl
  rw [Rn.len_data0] at htl
  obtain ⟨h1, h2⟩ := R.has (by rw [Rn.len_data0]; exact ha) hk
  have e := ext_cnt s f t (a - f) (by omega)
  rw [show f + (a - f) = a by omega] at e
  rw [cut_is (s.extract f t) _ (a - f) (by rw [ext_size s f t R.ft htl]; omega) (ext_edge s f t a h1 h2 htl he) e]
  omega
theorem Row.width {l : List UInt8} {k f t : Nat} (h : Row l k f t) : 0 ≤ Rn.cnt (l.take t) - Rn.cnt (l.take f) := by have := cnt_mono l h.ft; omega
theorem cnt_le (l : List UInt8) (i : Nat) : 0 ≤ Rn.cnt (l.take i) ∧ Rn.cnt (l.take i) ≤ l.length := by
  have h := Rn.cnt_bd (l.take i)
  have := List.length_take_le' i l
  omega
end Pl
end Go.Proofs.Ytnjcahcbeicblaa
