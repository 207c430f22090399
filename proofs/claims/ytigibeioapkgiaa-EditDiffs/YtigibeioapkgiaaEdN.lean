/- Edits as plain things: what they make of a text, what takes them back, where places go. Where places go by edits, as plain numbers; edges of what edits make. -/
import Derived.Test.YtigibeioapkgiaaEdA
import Derived.Test.YtigibeioapkgiaaRnQ
namespace Go.Proofs.Ytigibeioapkgiaa
set_option linter.unusedVariables false
set_option linter.unusedSimpArgs false
open Go.RowKit
def Ed.badS (n : Nat) (t : Int) (e : Ed.E) : Bool := decide (e.pos < t) || decide (e.del < 0) || decide ((n : Int) - e.pos < e.del)
def Ed.badT (s : ByteArray) (e : Ed.E) : Bool := !Rn.edgeB s e.pos || !Rn.edgeB s (e.pos + e.del) || !Rn.wholeL e.ins.data.toList
/-- the error of one edit behind the place t -/
def Ed.bad (s : ByteArray) (t : Int) (e : Ed.E) : Int := if Ed.badS s.size t e = true then 3 else if Ed.badT s e = true then 2 else 0
/-- the error of edits behind the place t, the text having grown by g -/
def Ed.chk (s : ByteArray) : List Ed.E → Int → Int → Int
  | [], _, g => if 4000 < (s.size : Int) + g then 4 else 0
  | e :: r, t, g => if Ed.bad s t e = 0 then Ed.chk s r (e.pos + e.del) (g + e.ins.size - e.del) else Ed.bad s t e
theorem Ed.drop_at {es : List Ed.E} {k : Nat} (h : k < es.length) : es.drop k = es[k] :: es.drop (k + 1) := List.drop_eq_getElem_cons h
theorem Ed.chk_go {s : ByteArray} {es : List Ed.E} {k : Nat} (h : k < es.length) {t g : Int} (hb : Ed.bad s t es[k] = 0) : Ed.chk s (es.drop k) t g = Ed.chk s (es.drop (k + 1)) (es[k].pos + es[k].del) (g + es[k].ins.size - es[k].del) := by
  rw [Ed.drop_at h]; show (if _ then _ else _) = _; rw [if_pos hb]
theorem Ed.chk_stop {s : ByteArray} {es : List Ed.E} {k : Nat} (h : k < es.length) {t g : Int} (hb : ¬ Ed.bad s t es[k] = 0) : Ed.chk s (es.drop k) t g = Ed.bad s t es[k] := by
  rw [Ed.drop_at h]; show (if _ then _ else _) = _; rw [if_neg hb]
theorem Ed.chk_end {s : ByteArray} {es : List Ed.E} {k : Nat} (h : ¬ k < es.length) {t g : Int} : Ed.chk s (es.drop k) t g = if 4000 < (s.size : Int) + g then 4 else 0 := by
  rw [List.drop_eq_nil_of_le (by omega)]; rfl
theorem Ed.bad_zero {s : ByteArray} {t : Int} {e : Ed.E} (h : Ed.bad s t e = 0) : t ≤ e.pos ∧ 0 ≤ e.del ∧ e.pos + e.del ≤ s.size ∧ Rn.edgeB s e.pos = true ∧ Rn.edgeB s (e.pos + e.del) = true ∧ Rn.wholeL e.ins.data.toList = true := by
  unfold Ed.bad at h
  split at h
  · omega
  · rename_i h1
    split at h
    · omega
    · rename_i h2
      simp [Ed.badS] at h1
      simp [Ed.badT] at h2
      exact ⟨by omega, by omega, by omega, h2.1.1, h2.1.2, h2.2⟩
/-- edits together may be, behind the place t, for a text of n bytes -/
def Ed.May (n : Nat) : Int → List Ed.E → Prop
  | _, [] => True
  | t, e :: r => t ≤ e.pos ∧ 0 ≤ e.del ∧ e.pos + e.del ≤ n ∧ Ed.May n (e.pos + e.del) r
/-- at edges of the text, and whole -/
def Ed.Fits (s : ByteArray) (es : List Ed.E) : Prop := ∀ e ∈ es, Rn.edgeB s e.pos = true ∧ Rn.edgeB s (e.pos + e.del) = true ∧ Rn.wholeL e.ins.data.toList = true
/-- how many bytes a text grows by -/
def Ed.grows : List Ed.E → Int
  | [] => 0
  | e :: r => e.ins.size - e.del + Ed.grows r
theorem Ed.chk_zero {s : ByteArray} : ∀ {es : List Ed.E} {t g : Int}, Ed.chk s es t g = 0 → Ed.May s.size t es ∧ Ed.Fits s es ∧ (s.size : Int) + g + Ed.grows es ≤ 4000
  | [], t, g, h => by
    unfold Ed.chk at h
    refine ⟨trivial, fun _ h => by simp at h, ?_⟩
    split at h
    · omega
    · show _ + (0 : Int) ≤ 4000; omega
  | e :: r, t, g, h => by
    unfold Ed.chk at h
    split at h
    · rename_i hb
      obtain ⟨b1, b2, b3, b4, b5, b6⟩ := Ed.bad_zero hb
      obtain ⟨h1, h2, h3⟩ := Ed.chk_zero h
      refine ⟨⟨b1, b2, b3, h1⟩, fun x hx => ?_, ?_⟩
      · rcases List.mem_cons.1 hx with rfl | hx
        · exact ⟨b4, b5, b6⟩
        · exact h2 x hx
      · show _ + (_ + Ed.grows r) ≤ (4000 : Int); omega
    · rename_i hb; exact absurd h hb
theorem Ed.chk_of {s : ByteArray} : ∀ {es : List Ed.E} {t g : Int}, Ed.May s.size t es → Ed.Fits s es → (s.size : Int) + g + Ed.grows es ≤ 4000 → Ed.chk s es t g = 0
  | [], t, g, _, _, h => by
    have h' : (s.size : Int) + g + 0 ≤ 4000 := h
    show (if _ then _ else _) = _
    rw [if_neg (by omega)]
  | e :: r, t, g, ⟨m1, m2, m3, m4⟩, f, h => by
    have h' : (s.size : Int) + g + (e.ins.size - e.del + Ed.grows r) ≤ 4000 := h
    obtain ⟨f1, f2, f3⟩ := f e (by simp)
    have hb : Ed.bad s t e = 0 := by
      unfold Ed.bad
      rw [if_neg (by simp [Ed.badS]; omega), if_neg (by simp [Ed.badT, f1, f2, f3])]
    show (if _ then _ else _) = _
    rw [if_pos hb]
    exact Ed.chk_of m4 (fun x hx => f x (by simp [hx])) (by omega)
theorem Ed.grows_low {n : Nat} : ∀ {es : List Ed.E} {t : Int}, Ed.May n t es → t ≤ n → t - n ≤ Ed.grows es
  | [], t, _, h => by show _ ≤ (0 : Int); omega
  | e :: r, t, ⟨m1, m2, m3, m4⟩, h => by
    have := Ed.grows_low m4 m3
    show _ ≤ _ + Ed.grows r; omega
theorem Ed.May.drop {n : Nat} : ∀ {es : List Ed.E} {t : Int} (k : Nat) (h : k < es.length), Ed.May n t es → t ≤ es[k].pos ∧ 0 ≤ es[k].del ∧ es[k].pos + es[k].del ≤ n ∧ Ed.May n (es[k].pos + es[k].del) (es.drop (k + 1))
  | e :: r, t, 0, h, ⟨m1, m2, m3, m4⟩ => ⟨m1, m2, m3, m4⟩
  | e :: r, t, k + 1, h, ⟨m1, m2, m3, m4⟩ => by
    obtain ⟨a, b, c, d⟩ := Ed.May.drop k (by simpa using h) m4
    exact ⟨by simp only [List.getElem_cons_succ]; omega, b, c, d⟩
theorem Ed.May.take {n : Nat} : ∀ {es : List Ed.E} {t : Int} (k : Nat) (h : k < es.length), Ed.May n t es → 0 ≤ t → Ed.May (es[k].pos.toNat) t (es.take k)
  | e :: r, t, 0, h, _, _ => trivial
  | e :: r, t, k + 1, h, ⟨m1, m2, m3, m4⟩, h0 => by
    have hk : k < r.length := by simpa using h
    obtain ⟨a, b, c, d⟩ := Ed.May.drop k hk m4
    have := Ed.May.take k hk m4 (by omega)
    refine ⟨m1, m2, ?_, this⟩
    simp only [List.getElem_cons_succ]; omega
theorem Ed.grows_append (a b : List Ed.E) : Ed.grows (a ++ b) = Ed.grows a + Ed.grows b := by
  induction a with
  | nil => show _ = (0 : Int) + _; simp
  | cons e r ih => show (_ - _ + Ed.grows (r ++ b)) = (_ - _ + Ed.grows r) + _; rw [ih]; omega
theorem Ed.take_at {es : List Ed.E} {k : Nat} (h : k < es.length) : es.take (k + 1) = es.take k ++ [es[k]] := by simp
theorem Ed.grows_take {es : List Ed.E} {k : Nat} (h : k < es.length) : Ed.grows (es.take (k + 1)) = Ed.grows (es.take k) + es[k].ins.size - es[k].del := by
  rw [Ed.take_at h, Ed.grows_append]; show _ + (_ - _ + (0 : Int)) = _; omega
/-- the text with all edits done, from the last one on -/
def Ed.app (l : List UInt8) : List Ed.E → List UInt8
  | [] => l
  | e :: r => (Ed.app l r).take e.pos.toNat ++ e.ins.data.toList ++ (Ed.app l r).drop (e.pos + e.del).toNat
/-- the same from the place t on, from the first one on -/
def Ed.fwd (l : List UInt8) : Int → List Ed.E → List UInt8
  | t, [] => l.drop t.toNat
  | t, e :: r => (l.drop t.toNat).take (e.pos - t).toNat ++ e.ins.data.toList ++ Ed.fwd l (e.pos + e.del) r
theorem Ed.take_two (l : List UInt8) {t p : Int} (h0 : 0 ≤ t) (h : t ≤ p) : l.take t.toNat ++ (l.drop t.toNat).take (p - t).toNat = l.take p.toNat := by
  have e : p.toNat = t.toNat + (p - t).toNat := by omega
  rw [e, List.take_add]
theorem Ed.app_fwd (l : List UInt8) : ∀ {es : List Ed.E} {t : Int}, Ed.May l.length t es → 0 ≤ t → t ≤ l.length → Ed.app l es = l.take t.toNat ++ Ed.fwd l t es
  | [], t, _, h0, h1 => by show l = _ ++ l.drop _; simp
  | e :: r, t, ⟨m1, m2, m3, m4⟩, h0, h1 => by
    have ih := Ed.app_fwd l m4 (by omega) m3
    show (Ed.app l r).take _ ++ _ ++ (Ed.app l r).drop _ = _ ++ (_ ++ _ ++ Ed.fwd l _ r)
    have k1 : (l.take (e.pos + e.del).toNat).length = (e.pos + e.del).toNat := by rw [List.length_take]; omega
    have e1 : (Ed.app l r).take e.pos.toNat = l.take e.pos.toNat := by
      rw [ih, List.take_append_of_le_length (by rw [k1]; omega), List.take_take, Nat.min_eq_left (by omega)]
    have e2 : (Ed.app l r).drop (e.pos + e.del).toNat = Ed.fwd l (e.pos + e.del) r := by
      rw [ih, List.drop_left' k1]
    rw [e1, e2, ← Ed.take_two l h0 m1]
    simp
theorem Ed.fwd_len (l : List UInt8) : ∀ {es : List Ed.E} {t : Int}, Ed.May l.length t es → 0 ≤ t → t ≤ l.length → ((Ed.fwd l t es).length : Int) = l.length - t + Ed.grows es
  | [], t, _, h0, h1 => by show (((l.drop _).length : Nat) : Int) = _ + (0 : Int); rw [List.length_drop]; omega
  | e :: r, t, ⟨m1, m2, m3, m4⟩, h0, h1 => by
    have ih := Ed.fwd_len l m4 (by omega) m3
    show (((_ ++ _ ++ Ed.fwd l _ r).length : Nat) : Int) = _ + (_ - _ + Ed.grows r)
    rw [List.length_append, List.length_append, List.length_take, List.length_drop, Rn.len_data0]
    omega
theorem Ed.app_len (l : List UInt8) {es : List Ed.E} {t : Int} (h : Ed.May l.length t es) (h0 : 0 ≤ t) (h1 : t ≤ l.length) : ((Ed.app l es).length : Int) = l.length + Ed.grows es := by
  rw [Ed.app_fwd l h h0 h1, List.length_append, List.length_take]
  have := Ed.fwd_len l h h0 h1
  omega
/-- the edits that turn their text back; ahead of them the text has grown by g -/
def Ed.bk (s : ByteArray) : Int → List Ed.E → List Ed.E
  | _, [] => []
  | g, e :: r => ⟨e.pos + g, e.ins.size, s.extract e.pos.toNat (e.pos + e.del).toNat⟩ :: Ed.bk s (g + e.ins.size - e.del) r
theorem Ed.bk_len (s : ByteArray) : ∀ (es : List Ed.E) (g : Int), (Ed.bk s g es).length = es.length
  | [], _ => rfl
  | e :: r, g => by show (Ed.bk s _ r).length + 1 = _; rw [Ed.bk_len s r]; rfl
theorem Ed.bk_at (s : ByteArray) : ∀ (es : List Ed.E) (g : Int) (k : Nat) (h : k < es.length), (Ed.bk s g es)[k]'(by rw [Ed.bk_len]; exact h) = ⟨es[k].pos + (g + Ed.grows (es.take k)), es[k].ins.size, s.extract es[k].pos.toNat (es[k].pos + es[k].del).toNat⟩
  | e :: r, g, 0, h => by show Ed.E.mk _ _ _ = Ed.E.mk (_ + (g + (0 : Int))) _ _; rw [Int.add_zero]; rfl
  | e :: r, g, k + 1, h => by
    show (Ed.bk s _ r)[k]'(by rw [Ed.bk_len]; simpa using h) = _
    rw [Ed.bk_at s r _ k (by simpa using h)]
    show Ed.E.mk (_ + (_ + Ed.grows (r.take k))) _ _ = Ed.E.mk (_ + (g + (_ - _ + Ed.grows (r.take k)))) _ _
    congr 1
    simp only [List.getElem_cons_succ]; omega
theorem Ed.cut_size (s : ByteArray) {a d : Int} (h0 : 0 ≤ a) (h1 : 0 ≤ d) (h2 : a + d ≤ s.size) : ((s.extract a.toNat (a + d).toNat).size : Int) = d := by
  simp; omega
theorem Ed.bk_may (s : ByteArray) (n : Nat) : ∀ {es : List Ed.E} {t g : Int}, Ed.May s.size t es → 0 ≤ t → t ≤ s.size → (n : Int) = s.size + g + Ed.grows es → Ed.May n (t + g) (Ed.bk s g es)
  | [], t, g, _, _, _, _ => trivial
  | e :: r, t, g, ⟨m1, m2, m3, m4⟩, h0, h1, hn => by
    have hn' : (n : Int) = s.size + g + (e.ins.size - e.del + Ed.grows r) := hn
    have low := Ed.grows_low m4 m3
    refine ⟨?_, ?_, ?_, ?_⟩
    · show _ ≤ e.pos + g; omega
    · show (0 : Int) ≤ (e.ins.size : Int); omega
    · show e.pos + g + (e.ins.size : Int) ≤ n; omega
    · show Ed.May n (e.pos + g + (e.ins.size : Int)) (Ed.bk s _ r)
      have ih := Ed.bk_may s n (g := g + e.ins.size - e.del) m4 (by omega) m3 (by omega)
      have q : e.pos + e.del + (g + e.ins.size - e.del) = e.pos + g + (e.ins.size : Int) := by omega
      rw [q] at ih; exact ih
theorem Ed.bk_grows (s : ByteArray) : ∀ {es : List Ed.E} {t g : Int}, Ed.May s.size t es → 0 ≤ t → Ed.grows (Ed.bk s g es) = - Ed.grows es
  | [], t, g, _, _ => rfl
  | e :: r, t, g, ⟨m1, m2, m3, m4⟩, h0 => by
    have ih := Ed.bk_grows s (g := g + e.ins.size - e.del) m4 (by omega)
    have hc := Ed.cut_size s (by omega : 0 ≤ e.pos) m2 m3
    show ((s.extract _ _).size : Int) - (e.ins.size : Int) + Ed.grows (Ed.bk s _ r) = - (_ - _ + Ed.grows r)
    rw [ih]; omega
/-- their text, with the edits that turn it back done, is the text -/
theorem Ed.bk_fwd (s : ByteArray) (T : List UInt8) : ∀ {es : List Ed.E} {t g : Int} (A : List UInt8), Ed.May s.size t es → 0 ≤ t → t ≤ s.size → T = A ++ Ed.fwd s.data.toList t es → (A.length : Int) = t + g → Ed.fwd T (t + g) (Ed.bk s g es) = s.data.toList.drop t.toNat
  | [], t, g, A, _, _, _, hT, hA => by
    show T.drop (t + g).toNat = _
    rw [hT, List.drop_left' (by omega)]; rfl
  | e :: r, t, g, A, ⟨m1, m2, m3, m4⟩, h0, h1, hT, hA => by
    have hT' : T = A ++ ((s.data.toList.drop t.toNat).take (e.pos - t).toNat ++ e.ins.data.toList ++ Ed.fwd s.data.toList (e.pos + e.del) r) := hT
    have kM : ((s.data.toList.drop t.toNat).take (e.pos - t).toNat).length = (e.pos - t).toNat := by rw [List.length_take, List.length_drop, Rn.len_data0]; omega
    have ih := Ed.bk_fwd s T (g := g + e.ins.size - e.del) (A ++ (s.data.toList.drop t.toNat).take (e.pos - t).toNat ++ e.ins.data.toList) m4 (by omega) m3 (by rw [hT']; simp) (by rw [List.length_append, List.length_append, kM, Rn.len_data0]; omega)
    have q : e.pos + e.del + (g + e.ins.size - e.del) = e.pos + g + (e.ins.size : Int) := by omega
    rw [q] at ih
    show (T.drop (t + g).toNat).take (e.pos + g - (t + g)).toNat ++ (s.extract _ _).data.toList ++ Ed.fwd T (e.pos + g + (e.ins.size : Int)) (Ed.bk s _ r) = _
    rw [ih]
    have e1 : T.drop (t + g).toNat = (s.data.toList.drop t.toNat).take (e.pos - t).toNat ++ (e.ins.data.toList ++ Ed.fwd s.data.toList (e.pos + e.del) r) := by rw [hT', List.drop_left' (by omega), List.append_assoc]
    rw [e1, show (e.pos + g - (t + g)).toNat = (e.pos - t).toNat by omega, List.take_left' kM]
    have e2 : (s.extract e.pos.toNat (e.pos + e.del).toNat).data.toList = (s.data.toList.drop e.pos.toNat).take e.del.toNat := by
      rw [Lib.extract_data]; congr 1; omega
    rw [e2]
    have e3 : s.data.toList.drop t.toNat = (s.data.toList.drop t.toNat).take (e.pos - t).toNat ++ (s.data.toList.drop t.toNat).drop (e.pos - t).toNat := (List.take_append_drop _ _).symm
    have e4 : (s.data.toList.drop t.toNat).drop (e.pos - t).toNat = s.data.toList.drop e.pos.toNat := by rw [List.drop_drop]; congr 1; omega
    have e5 : (s.data.toList.drop e.pos.toNat).take e.del.toNat ++ s.data.toList.drop (e.pos + e.del).toNat = s.data.toList.drop e.pos.toNat := by
      rw [show (e.pos + e.del).toNat = e.pos.toNat + e.del.toNat by omega, ← List.drop_drop, List.take_append_drop]
    rw [List.append_assoc, e5, ← e4, ← e3]
open Go.RowKit
/-- where a place goes by one edit, whose At it isn't below -/
def Ed.mv1 (e : Ed.E) (x : Int) (after : Bool) : Int :=
  if e.del < x - e.pos ∨ (x - e.pos = e.del ∧ 0 < e.del) then x + e.ins.size - e.del else if x = e.pos ∧ 0 < e.del then x else if after = true then e.pos + e.ins.size else e.pos
/-- where a place goes by edits, behind those by which the text has grown by g, and that take it to d -/
def Ed.mv (x : Int) (after : Bool) : List Ed.E → Int → Int → Int
  | [], _, d => d
  | e :: r, g, d => Ed.mv x after r (g + e.ins.size - e.del) (if e.pos ≤ x then g + Ed.mv1 e x after else d)
theorem Ed.mv_cons (x : Int) (after : Bool) (e : Ed.E) (r : List Ed.E) (g d : Int) : Ed.mv x after (e :: r) g d = Ed.mv x after r (g + e.ins.size - e.del) (if e.pos ≤ x then g + Ed.mv1 e x after else d) := rfl
theorem Ed.grows_cons (e : Ed.E) (r : List Ed.E) : Ed.grows (e :: r) = e.ins.size - e.del + Ed.grows r := rfl
theorem Ed.mv_step {x : Int} {after : Bool} {es : List Ed.E} {k : Nat} (h : k < es.length) (g d : Int) : Ed.mv x after (es.drop k) g d = Ed.mv x after (es.drop (k + 1)) (g + es[k].ins.size - es[k].del) (if es[k].pos ≤ x then g + Ed.mv1 es[k] x after else d) := by
  rw [Ed.drop_at h]; rfl
theorem Ed.mv_none {x : Int} {after : Bool} : ∀ {es : List Ed.E} {g d : Int}, (∀ e ∈ es, x < e.pos) → Ed.mv x after es g d = d
  | [], _, _, _ => rfl
  | e :: r, g, d, h => by
    show Ed.mv x after r _ (if _ then _ else _) = d
    have := h e (by simp)
    rw [if_neg (by omega)]
    exact Ed.mv_none fun y hy => h y (by simp [hy])
theorem Ed.mv_last {x : Int} {after : Bool} {es : List Ed.E} {k : Nat} (hk : k < es.length) (hp : es[k].pos ≤ x) (hn : ∀ e ∈ es.drop (k + 1), x < e.pos) : ∀ (j : Nat), j ≤ k → ∀ d, Ed.mv x after (es.drop (k - j)) (Ed.grows (es.take (k - j))) d = Ed.grows (es.take k) + Ed.mv1 es[k] x after
  | 0, _, d => by
    rw [Nat.sub_zero, Ed.mv_step hk, if_pos hp, Ed.mv_none hn]
  | j + 1, hj, d => by
    have e : k - j = k - (j + 1) + 1 := by omega
    have := Ed.mv_last (after := after) hk hp hn j (by omega) (if es[k - (j + 1)].pos ≤ x then Ed.grows (es.take (k - (j + 1))) + Ed.mv1 es[k - (j + 1)] x after else d)
    rw [Ed.mv_step (by omega), ← Ed.grows_take (by omega), ← e]
    exact this
theorem Ed.mv_is {x : Int} {after : Bool} {es : List Ed.E} {k : Nat} (hk : k < es.length) (hp : es[k].pos ≤ x) (hn : ∀ e ∈ es.drop (k + 1), x < e.pos) (d : Int) : Ed.mv x after es 0 d = Ed.grows (es.take k) + Ed.mv1 es[k] x after := by
  have := Ed.mv_last (after := after) hk hp hn k (Nat.le_refl _) d
  rw [Nat.sub_self] at this; exact this
theorem Ed.May.far {n : Nat} {x : Int} : ∀ {es : List Ed.E} {t : Int}, Ed.May n t es → x < t → ∀ e ∈ es, x < e.pos
  | e :: r, t, ⟨m1, m2, m3, m4⟩, h, y, hy => by
    rcases List.mem_cons.1 hy with rfl | hy
    · omega
    · exact Ed.May.far m4 (by omega) y hy
theorem Ed.mv1_low {e : Ed.E} {x : Int} {after : Bool} (h : e.pos ≤ x) (hd : 0 ≤ e.del) : e.pos ≤ Ed.mv1 e x after := by
  unfold Ed.mv1; (repeat' split) <;> omega
theorem Ed.mv1_mono {e : Ed.E} {x y : Int} {after : Bool} (h : e.pos ≤ x) (hxy : x ≤ y) (hd : 0 ≤ e.del) : Ed.mv1 e x after ≤ Ed.mv1 e y after := by
  unfold Ed.mv1
  cases after <;> simp only [Bool.false_eq_true, if_false, if_true] <;> (repeat' split) <;> omega
theorem Ed.mv_low {n : Nat} {x L : Int} {after : Bool} : ∀ {es : List Ed.E} {t g d : Int}, Ed.May n t es → L ≤ d → L ≤ g + t → L ≤ Ed.mv x after es g d
  | [], _, _, _, _, h, _ => h
  | e :: r, t, g, d, ⟨m1, m2, m3, m4⟩, h1, h2 => by
    rw [Ed.mv_cons]
    refine Ed.mv_low m4 ?_ (by omega)
    split
    · rename_i hp
      have := Ed.mv1_low (after := after) hp m2
      omega
    · exact h1
theorem Ed.mv_far {n : Nat} {x : Int} {after : Bool} {es : List Ed.E} {t g d : Int} (m : Ed.May n t es) (h : x < t) : Ed.mv x after es g d = d := Ed.mv_none (m.far h)
theorem Ed.mv_high {n : Nat} {x : Int} {after : Bool} (hx : x ≤ n) : ∀ {es : List Ed.E} {t g d : Int}, Ed.May n t es → t ≤ x → d ≤ x + g → Ed.mv x after es g d ≤ n + g + Ed.grows es
  | [], _, g, d, _, _, h => by show d ≤ _ + (0 : Int); omega
  | e :: r, t, g, d, ⟨m1, m2, m3, m4⟩, h1, h2 => by
    have low := Ed.grows_low m4 m3
    rw [Ed.mv_cons, Ed.grows_cons]
    split
    · rename_i hp
      by_cases hin : e.pos + e.del ≤ x
      · have := Ed.mv_high hx (after := after) (g := g + e.ins.size - e.del) (d := g + Ed.mv1 e x after) m4 hin (by unfold Ed.mv1; (repeat' split) <;> omega)
        omega
      · rw [Ed.mv_far m4 (by omega)]
        unfold Ed.mv1; (repeat' split) <;> omega
    · rename_i hp
      rw [Ed.mv_far m4 (by omega)]; omega
theorem Ed.mv_mono {n : Nat} {x y : Int} {after : Bool} (hxy : x ≤ y) : ∀ {es : List Ed.E} {t g d d' : Int}, Ed.May n t es → t ≤ x → d ≤ x + g → d ≤ d' → Ed.mv x after es g d ≤ Ed.mv y after es g d'
  | [], _, g, d, d', _, _, _, h => h
  | e :: r, t, g, d, d', ⟨m1, m2, m3, m4⟩, h1, h2, h3 => by
    rw [Ed.mv_cons, Ed.mv_cons]
    by_cases hp : e.pos ≤ x
    · rw [if_pos hp, if_pos (by omega)]
      have mono := Ed.mv1_mono (after := after) hp hxy m2
      by_cases hin : e.pos + e.del ≤ x
      · exact Ed.mv_mono hxy m4 hin (by unfold Ed.mv1; (repeat' split) <;> omega) (by omega)
      · rw [Ed.mv_far m4 (by omega)]
        refine Ed.mv_low m4 (by omega) ?_
        unfold Ed.mv1; (repeat' split) <;> omega
    · rw [if_neg hp, Ed.mv_far m4 (by omega)]
      refine Ed.mv_low m4 ?_ (by omega)
      split
      · rename_i hq
        have := Ed.mv1_low (after := after) hq m2
        omega
      · exact h3
/-- the place lies outside of what is taken out -/
def Ed.Out (x : Int) (es : List Ed.E) : Prop := ∀ e ∈ es, x < e.pos ∨ e.pos + e.del < x
theorem Ed.mv_over {n : Nat} {x : Int} {after : Bool} : ∀ {es : List Ed.E} {t g : Int}, Ed.May n t es → Ed.Out x es → t < x → t + g < Ed.mv x after es g (x + g)
  | [], _, g, _, _, h => by show _ < x + g; omega
  | e :: r, t, g, ⟨m1, m2, m3, m4⟩, ho, h => by
    rw [Ed.mv_cons]
    rcases ho e (by simp) with h1 | h1
    · rw [if_neg (by omega), Ed.mv_far m4 (by omega)]; omega
    · have em : g + Ed.mv1 e x after = x + (g + e.ins.size - e.del) := by unfold Ed.mv1; rw [if_pos (.inl (by omega))]; omega
      rw [if_pos (by omega), em]
      have := Ed.mv_over (after := after) (g := g + e.ins.size - e.del) m4 (fun y hy => ho y (by simp [hy])) (by omega)
      omega
theorem Ed.mv_back {s : ByteArray} {n : Nat} {x : Int} {after : Bool} : ∀ {es : List Ed.E} {t g : Int}, Ed.May s.size t es → 0 ≤ t → t ≤ s.size → (n : Int) = s.size + g + Ed.grows es → Ed.Out x es →
    Ed.mv (Ed.mv x after es g (x + g)) after (Ed.bk s g es) (-g) (Ed.mv x after es g (x + g) - g) = x
  | [], t, g, _, _, _, _, _ => by show x + g - g = x; omega
  | e :: r, t, g, ⟨m1, m2, m3, m4⟩, h0, h1, hn, ho => by
    have hn' : (n : Int) = s.size + g + (e.ins.size - e.del + Ed.grows r) := hn
    rcases ho e (by simp) with h2 | h2
    · have e1 : Ed.mv x after (e :: r) g (x + g) = x + g := by
        rw [Ed.mv_cons]
        rw [if_neg (by omega), Ed.mv_far m4 (by omega)]
      rw [e1]
      have mb := Ed.bk_may s n (t := t) (g := g) (es := e :: r) ⟨m1, m2, m3, m4⟩ h0 h1 hn
      have mb' : Ed.May n (e.pos + g) (Ed.bk s g (e :: r)) := ⟨Int.le_refl _, mb.2.1, mb.2.2.1, mb.2.2.2⟩
      rw [Ed.mv_far mb' (by omega)]; omega
    · have em : g + Ed.mv1 e x after = x + (g + e.ins.size - e.del) := by unfold Ed.mv1; rw [if_pos (.inl (by omega))]; omega
      have e1 : Ed.mv x after (e :: r) g (x + g) = Ed.mv x after r (g + e.ins.size - e.del) (x + (g + e.ins.size - e.del)) := by
        rw [Ed.mv_cons]
        rw [if_pos (by omega), em]
      have ih := Ed.mv_back (after := after) (n := n) (g := g + e.ins.size - e.del) m4 (by omega) m3 (by omega) (fun y hy => ho y (by simp [hy]))
      have ov := Ed.mv_over (after := after) (g := g + e.ins.size - e.del) m4 (fun y hy => ho y (by simp [hy])) h2
      rw [e1]
      generalize Ed.mv x after r (g + e.ins.size - e.del) (x + (g + e.ins.size - e.del)) = to at *
      have hc := Ed.cut_size s (by omega : 0 ≤ e.pos) m2 m3
      show Ed.mv to after (Ed.bk s _ r) (-g + ((s.extract _ _).size : Int) - (e.ins.size : Int)) (if e.pos + g ≤ to then -g + Ed.mv1 ⟨e.pos + g, e.ins.size, s.extract _ _⟩ to after else to - g) = x
      rw [if_pos (by omega)]
      have em2 : -g + Ed.mv1 ⟨e.pos + g, e.ins.size, s.extract e.pos.toNat (e.pos + e.del).toNat⟩ to after = to - (g + e.ins.size - e.del) := by
        unfold Ed.mv1
        rw [if_pos (.inl (by show (e.ins.size : Int) < to - (e.pos + g); omega))]
        show -g + (to + ((s.extract _ _).size : Int) - (e.ins.size : Int)) = _
        rw [hc]; omega
      rw [em2, show -g + ((s.extract e.pos.toNat (e.pos + e.del).toNat).size : Int) - (e.ins.size : Int) = -(g + e.ins.size - e.del) by rw [hc]; omega]
      exact ih
/-- a list that begins with no follower -/
def Ed.Head (l : List UInt8) : Prop := ∀ c, l[0]? = some c → Rn.folI c.toNat = false
theorem Ed.edge_head (s : ByteArray) (a : Int) : Rn.edgeB s a = true ↔ 0 ≤ a ∧ a ≤ s.size ∧ Ed.Head (s.data.toList.drop a.toNat) := by
  unfold Rn.edgeB Ed.Head
  split
  · rename_i h
    have e : (s.data.toList.drop a.toNat)[0]? = some s[a.toNat] := by
      rw [List.getElem?_drop]; simp
      rw [Array.getElem?_eq_getElem (by show a.toNat < s.size; omega)]; rfl
    rw [e]
    simp
    exact ⟨fun k => ⟨by omega, by omega, k⟩, fun k => k.2.2⟩
  · rename_i h
    simp only [decide_eq_true_eq]
    constructor
    · rintro rfl
      refine ⟨by omega, by omega, fun c hc => ?_⟩
      rw [List.drop_eq_nil_of_le (by simp)] at hc
      simp at hc
    · rintro ⟨h1, h2, _⟩; omega
theorem Ed.head_app {a b : List UInt8} (ha : Ed.Head a) (hb : Ed.Head b) : Ed.Head (a ++ b) := by
  intro c hc
  cases a with
  | nil => exact hb c (by simpa using hc)
  | cons x r => exact ha c (by simpa using hc)
theorem Ed.head_take {a : List UInt8} (ha : Ed.Head a) (k : Nat) : Ed.Head (a.take k) := by
  intro c hc
  rw [List.getElem?_take] at hc
  split at hc
  · exact ha c hc
  · simp at hc
/-- a text that is whole is signs one behind the other -/
theorem Ed.whole_cat : ∀ (n : Nat) (l : List UInt8), l.length ≤ n → Rn.wholeL l = true → ∃ ns, Rn.Signs ns ∧ l = Rn.cat ns
  | 0, l, hn, _ => ⟨[], fun _ h => by simp at h, by
      have : l = [] := List.eq_nil_of_length_eq_zero (by omega)
      rw [this]; rfl⟩
  | n + 1, l, hn, hw => by
    rw [Rn.wholeL_eq] at hw
    split at hw
    · refine ⟨[], fun _ h => by simp at h, ?_⟩
      have : l = [] := by simpa using hw
      rw [this]; rfl
    · rename_i hk
      have hbd := Rn.firstL_bd l
      obtain ⟨ns, hs, hl⟩ := Ed.whole_cat n (l.drop (Rn.firstL l).2.toNat) (by rw [List.length_drop]; omega) hw
      obtain ⟨hsg, j, hj, j1, j4, jl, hb, _⟩ := Rn.of_first l (Rn.firstL l).1 (Rn.firstL l).2 rfl (by omega)
      refine ⟨(Rn.firstL l).1 :: ns, fun m hm => ?_, ?_⟩
      · rcases List.mem_cons.1 hm with rfl | hm
        · exact hsg
        · exact hs m hm
      · have e1 : Rn.blk (Rn.firstL l).1 = l.take j := (Rn.map_back _ _ (Rn.bytesI_byte _)).2 hb
        show l = Rn.blk (Rn.firstL l).1 ++ Rn.cat ns
        rw [e1, ← hl, hj]; simp
theorem Ed.whole_head {l : List UInt8} (h : Rn.wholeL l = true) : Ed.Head l := by
  obtain ⟨ns, hs, rfl⟩ := Ed.whole_cat l.length l (Nat.le_refl _) h
  cases ns with
  | nil => intro c hc; simp [Rn.cat] at hc
  | cons n ns =>
    obtain ⟨c, t, hc, hf, _⟩ := Rn.blk_form n (hs n (by simp))
    intro x hx
    have e : Rn.cat (n :: ns) = c :: (t ++ Rn.cat ns) := by show Rn.blk n ++ Rn.cat ns = _; rw [hc]; rfl
    rw [e] at hx
    simp at hx
    rw [← hx]; exact hf
/-- a piece between two edges of a whole text is whole -/
theorem Ed.piece_whole {s : ByteArray} (h : Rn.wholeL s.data.toList = true) {a b : Nat} (hab : a ≤ b) (hb : b ≤ s.size) (ha : Rn.edgeB s a = true) (he : Rn.edgeB s b = true) : Rn.wholeL (s.extract a b).data.toList = true := by
  obtain ⟨ns, hs, e⟩ := Ed.whole_cat _ s.data.toList (Nat.le_refl _) h
  have h1 := Rn.edge_of s a ha
  have h2 := Rn.edge_of s b he
  rw [e] at h1 h2
  have := Rn.piece_whole ns hs a b hab (by rw [← e, Rn.len_data0]; exact hb) h1 h2
  rw [Lib.extract_data, e]; exact this
theorem Ed.Fits.cons {s : ByteArray} {e : Ed.E} {r : List Ed.E} (h : Ed.Fits s (e :: r)) : Ed.Fits s r := fun x hx => h x (by simp [hx])
theorem Ed.fwd_head (s : ByteArray) : ∀ {es : List Ed.E} {t : Int}, Ed.Fits s es → Ed.Head (s.data.toList.drop t.toNat) → Ed.Head (Ed.fwd s.data.toList t es)
  | [], _, _, h => h
  | e :: r, t, f, h => by
    obtain ⟨_, f2, f3⟩ := f e (by simp)
    exact Ed.head_app (Ed.head_app (Ed.head_take h _) (Ed.whole_head f3)) (Ed.fwd_head s f.cons ((Ed.edge_head _ _).1 f2).2.2)
theorem Ed.bk_fits (s T : ByteArray) (hw : Rn.wholeL s.data.toList = true) : ∀ {es : List Ed.E} {t g : Int} (A : List UInt8), Ed.May s.size t es → 0 ≤ t → t ≤ s.size → Ed.Fits s es → T.data.toList = A ++ Ed.fwd s.data.toList t es → (A.length : Int) = t + g → Ed.Fits T (Ed.bk s g es)
  | [], t, g, A, _, _, _, _, _, _ => fun x hx => by simp [Ed.bk] at hx
  | e :: r, t, g, A, ⟨m1, m2, m3, m4⟩, h0, h1, f, hT, hA => by
    obtain ⟨f1, f2, f3⟩ := f e (by simp)
    have hT' : T.data.toList = A ++ ((s.data.toList.drop t.toNat).take (e.pos - t).toNat ++ e.ins.data.toList ++ Ed.fwd s.data.toList (e.pos + e.del) r) := hT
    have kM : ((s.data.toList.drop t.toNat).take (e.pos - t).toNat).length = (e.pos - t).toNat := by rw [List.length_take, List.length_drop, Rn.len_data0]; omega
    have hf := Ed.fwd_head s (t := e.pos + e.del) f.cons ((Ed.edge_head _ _).1 f2).2.2
    have lT : (T.size : Int) = A.length + (e.pos - t).toNat + e.ins.size + (Ed.fwd s.data.toList (e.pos + e.del) r).length := by
      rw [← Rn.len_data0, hT', List.length_append, List.length_append, List.length_append, kM, Rn.len_data0]; omega
    have d1 : T.data.toList.drop (e.pos + g).toNat = e.ins.data.toList ++ Ed.fwd s.data.toList (e.pos + e.del) r := by
      rw [hT', ← List.append_assoc, ← List.append_assoc, List.append_assoc, List.drop_left' (by rw [List.length_append, kM]; omega)]
    have d2 : T.data.toList.drop (e.pos + g + (e.ins.size : Int)).toNat = Ed.fwd s.data.toList (e.pos + e.del) r := by
      rw [show (e.pos + g + (e.ins.size : Int)).toNat = (e.pos + g).toNat + e.ins.size by omega, ← List.drop_drop, d1, List.drop_left' (by rw [Rn.len_data0])]
    intro x hx
    rcases List.mem_cons.1 hx with rfl | hx
    · refine ⟨(Ed.edge_head _ _).2 ⟨?_, ?_, ?_⟩, (Ed.edge_head _ _).2 ⟨?_, ?_, ?_⟩, ?_⟩
      · show 0 ≤ e.pos + g; omega
      · show e.pos + g ≤ _; omega
      · show Ed.Head (T.data.toList.drop (e.pos + g).toNat); rw [d1]; exact Ed.head_app (Ed.whole_head f3) hf
      · show 0 ≤ e.pos + g + (e.ins.size : Int); omega
      · show e.pos + g + (e.ins.size : Int) ≤ _; omega
      · show Ed.Head (T.data.toList.drop (e.pos + g + (e.ins.size : Int)).toNat); rw [d2]; exact hf
      · exact Ed.piece_whole hw (by omega) (by omega) (by rw [Int.toNat_of_nonneg (by omega)]; exact f1) (by rw [Int.toNat_of_nonneg (by omega)]; exact f2)
    · have q : e.pos + e.del + (g + e.ins.size - e.del) = e.pos + g + (e.ins.size : Int) := by omega
      exact Ed.bk_fits s T hw (g := g + e.ins.size - e.del) (A ++ (s.data.toList.drop t.toNat).take (e.pos - t).toNat ++ e.ins.data.toList) m4 (by omega) m3 f.cons (by rw [hT']; simp) (by rw [List.length_append, List.length_append, kM, Rn.len_data0]; omega) x hx
end Go.Proofs.Ytigibeioapkgiaa
