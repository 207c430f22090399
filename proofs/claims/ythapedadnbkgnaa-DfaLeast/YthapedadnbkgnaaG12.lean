/- The program's machine in memory, and how it grows: facts about worlds. What the program's place and join do, walked. What the program's layRow does, walked; how great the machine grows. What the program's lay does, walked. -/
import Derived.Test.YthapedadnbkgnaaG11
import Derived.Test.YthapedadnbkgnaaG10
import Derived.Deep.AppendLies
import Derived.Laws.OwnMore
import Derived.OneCell
namespace Go.Proofs.Ythapedadnbkgnaa
set_option linter.unusedVariables false
set_option linter.unusedSimpArgs false
open Go.RowKit
abbrev Ng.Tr := (Nat → Bool) × (Nat × Nat)
def Ng.six (o : Ng.Tr) : List Value := [.int .u64 (Bs.word o.1 0), .int .u64 (Bs.word o.1 1), .int .u64 (Bs.word o.1 2), .int .u64 (Bs.word o.1 3), .int .i64 (o.2.1 : Nat), .int .i64 (o.2.2 : Nat)]
def Ng.sixes (l : List Ng.Tr) : List Value := l.flatMap Ng.six
theorem Ng.sixes_append (a b : List Ng.Tr) : Ng.sixes (a ++ b) = Ng.sixes a ++ Ng.sixes b := by simp [Ng.sixes]
theorem Ng.sixes_at : ∀ (l : List Ng.Tr) (k : Nat) (h : k < l.length) (j : Nat), j < 6 → (Ng.sixes l)[k * 6 + j]? = (Ng.six l[k])[j]?
  | o :: r, 0, h, j, hj => by
    have e0 : Ng.sixes (o :: r) = Ng.six o ++ Ng.sixes r := rfl
    rw [e0, List.getElem?_append_left (by simp [Ng.six]; omega)]
    simp
  | o :: r, k + 1, h, j, hj => by
    have ih := Ng.sixes_at r k (by simpa using h) j hj
    have e0 : Ng.sixes (o :: r) = Ng.six o ++ Ng.sixes r := rfl
    have a0 : (k + 1) * 6 + j = 6 + (k * 6 + j) := by omega
    rw [e0, a0, List.getElem?_append_right (by simp [Ng.six])]
    simpa [Ng.six] using ih
structure Ng.Only (w w' : World) (p : Nat → Prop) : Prop where
  os : w'.os = w.os
  tape : w'.tape = w.tape
  output : w'.output = w.output
  size : w.heap.size ≤ w'.heap.size
  block : ∀ k, k < w.heap.size → ¬ p k → w'.heap[k]? = w.heap[k]?
theorem Ng.Only.of_grown {w w' : World} {row : Option Nat} (h : w.grownBy w' row) : Ng.Only w w' (fun k => row = some k) := ⟨h.os, h.tape, h.output, h.size, fun k hk hp => h.block k hk (fun e => hp e.symm)⟩
theorem Ng.Only.set {w w' : World} {p : Nat → Prop} (h : Ng.Only w w' p) (b i : Nat) (v : Value) : Ng.Only w (w'.setCell ⟨b, i, none⟩ v) (fun k => p k ∨ k = b) :=
  ⟨h.os, h.tape, h.output, by rw [show (w'.setCell ⟨b, i, none⟩ v).heap.size = w'.heap.size by simp [go_sem]]; exact h.size, fun k hk hp => by rw [Below.heap_setCell _ _ _ _ (fun e => hp (.inr e))]; exact h.block k hk (fun e => hp (.inl e))⟩
theorem Ng.Only.cell {w w' : World} {p : Nat → Prop} (h : Ng.Only w w' p) {a : Addr} {v : Value} (hc : w.cell? a = some v) (hp : ¬ p a.block) : w'.cell? a = some v :=
  (World.cell?_of_block (h.block a.block (World.block_lt_of_cell? w a hc) hp)).trans hc
theorem Ng.Only.frozen {w w' : World} {p : Nat → Prop} (h : Ng.Only w w' p) {a : Addr} (hl : a.block < w.heap.size) (hp : ¬ p a.block) : w'.frozen? a = w.frozen? a := World.frozen?_of_block (h.block a.block hl hp)
theorem Ng.Only.row {w w' : World} {p : Nat → Prop} (h : Ng.Only w w' p) {base : Nat} {e : TypeId} {size : Nat} {v : Value} {n : Nat} {xs : List Value} (hr : w.ownsRow base e size v n xs) (hp : ∀ k, v.ownBlock = some k → ¬ p k) : w'.ownsRow base e size v n xs := by
  refine ⟨hr.1, ?_⟩
  rcases hr.2 with h0 | ⟨g, cap, cur, rfl, h1, h2, h3⟩
  · exact .inl h0
  · exact .inr ⟨g, cap, cur, rfl, h1, by rw [h.block g (Array.getElem?_eq_some_iff.1 h2).1 (hp g rfl)]; exact h2, h3⟩
theorem Ng.Only.below {w w' : World} {p : Nat → Prop} (h : Ng.Only w w' p) {B : Nat} (hp : ∀ k, p k → B ≤ k) (hB : B ≤ w.heap.size) : Below B w w' :=
  ⟨h.os, h.tape, h.output, h.size, fun k hk => h.block k (by omega) (fun e => by have := hp k e; omega)⟩
abbrev Ng.nums (l : List Nat) : List Int := l.map fun n : Nat => (n : Int)
structure Ng.Mem (w : World) (base r : Nat) (col : Nat → Nat) (vf vo vs ve : Value) (rows : List Value) (M : Nf.Mach) (tr : List Ng.Tr) (ss es : List Nat) : Prop where
  c0 : w.cell? ⟨r, 0, none⟩ = some vf
  c1 : w.cell? ⟨r, 1, none⟩ = some vo
  c2 : w.cell? ⟨r, 2, none⟩ = some vs
  c3 : w.cell? ⟨r, 3, none⟩ = some ve
  z : ∀ i, i < 4 → w.frozen? ⟨r, i, none⟩ = false
  rb : base ≤ r
  cr : col r = 0
  kf : ∀ k, vf.ownBlock = some k → col k = 1
  ko : ∀ k, vo.ownBlock = some k → col k = 2
  ks : ∀ k, vs.ownBlock = some k → col k = 3
  ke : ∀ k, ve.ownBlock = some k → col k = 4
  kr : ∀ i (h : i < rows.length) k, rows[i].ownBlock = some k → col k = 5 + i
  ofr : Ng.Own base vf rows w
  oo : w.ownsRow base 107 6 vo tr.length (Ng.sixes tr)
  os : Nf.Own base vs (Ng.nums ss) w
  oe : Nf.Own base ve (Ng.nums es) w
  len : rows.length = M.free.length
  orow : ∀ i (h : i < rows.length) (h' : i < M.free.length), Nf.Own base rows[i] (Ng.nums M.free[i]) w
  ons : tr.map (·.2) = M.ones
theorem Ng.Mem.lt {w : World} {base r : Nat} {col : Nat → Nat} {vf vo vs ve : Value} {rows : List Value} {M : Nf.Mach} {tr : List Ng.Tr} {ss es : List Nat} (h : Ng.Mem w base r col vf vo vs ve rows M tr ss es) : r < w.heap.size := World.block_lt_of_cell? w _ h.c0
theorem Ng.Mem.up {w w' : World} {base r : Nat} {col : Nat → Nat} {vf vo vs ve : Value} {rows : List Value} {M : Nf.Mach} {tr : List Ng.Tr} {ss es : List Nat} (h : Ng.Mem w base r col vf vo vs ve rows M tr ss es) (hb : Below w.heap.size w w') : Ng.Mem w' base r col vf vo vs ve rows M tr ss es :=
  ⟨Bs.cell_up hb h.c0, Bs.cell_up hb h.c1, Bs.cell_up hb h.c2, Bs.cell_up hb h.c3, fun i hi => by rw [hb.frozen h.lt]; exact h.z i hi, h.rb, h.cr, h.kf, h.ko, h.ks, h.ke, h.kr, h.ofr.up hb, Bs.row_up h.oo hb, h.os.up hb, h.oe.up hb, h.len, fun i h1 h2 => (h.orow i h1 h2).up hb, h.ons⟩
theorem Ng.col_far {w : World} {col : Nat → Nat} {v : Value} {c g k c' : Nat} (hv : ∀ k, v.ownBlock = some k → col k = c) (hl : v.ownBlock = some g ∨ g = w.heap.size) (hk : col k = c') (hc : c' ≠ c) (hlt : k < w.heap.size) : k ≠ g := by
  rintro rfl
  rcases hl with hl | hl
  · exact hc (by rw [← hk, hv k hl])
  · omega
theorem Ng.far {w : World} {col : Nat → Nat} {u : Value} {cu g b cb : Nat} (hu : ∀ k, u.ownBlock = some k → col k = cu) (hl : u.ownBlock = some g ∨ g = w.heap.size) (hb : col b = cb) (v : Value) (c : Nat) (hc : ∀ k, v.ownBlock = some k → col k = c ∧ k < w.heap.size) (h1 : c ≠ cu) (h0 : c ≠ cb) :
    (∀ k, v.ownBlock = some k → ¬ (u.ownBlock = some k ∨ k = b)) ∧ ∀ k, v.ownBlock = some k → (if k = g then cu else col k) = c := by
  refine ⟨fun k hk e => ?_, fun k hk => ?_⟩
  · obtain ⟨e1, e2⟩ := hc k hk
    rcases e with e | e
    · exact h1 (by rw [← e1, hu k e])
    · subst e; exact h0 (by rw [← e1, hb])
  · obtain ⟨e1, e2⟩ := hc k hk
    rw [if_neg (Ng.col_far hu hl e1 h1 e2), e1]
theorem Ng.Mem.place {w w' : World} {base r : Nat} {col : Nat → Nat} {vf vo vs ve : Value} {rows : List Value} {M : Nf.Mach} {tr : List Ng.Tr} {ss es : List Nat} (h : Ng.Mem w base r col vf vo vs ve rows M tr ss es) {g n cap : Nat} (hg : w.grownBy w' vf.ownBlock) (ho : Ng.Own base (.slice (some ⟨g, 0, none⟩) n cap) (rows ++ [.slice none 0 0]) w') (hl : vf.ownBlock = some g ∨ g = w.heap.size) :
    Ng.Mem (w'.setCell ⟨r, 0, none⟩ (.slice (some ⟨g, 0, none⟩) n cap)) base r (fun k => if k = g then 1 else col k) (.slice (some ⟨g, 0, none⟩) n cap) vo vs ve (rows ++ [.slice none 0 0]) M.place tr ss es := by
  have hO := (Ng.Only.of_grown hg).set r 0 (.slice (some ⟨g, 0, none⟩) n cap)
  have hr := h.lt
  have hrg : r ≠ g := Ng.col_far h.kf hl h.cr (by decide) hr
  have hrf : ¬ vf.ownBlock = some r := fun e => by have := h.kf r e; rw [h.cr] at this; omega
  have f2 := Ng.far h.kf hl h.cr vo 2 (fun k hk => ⟨h.ko k hk, (h.oo.lt k hk).2⟩) (by decide) (by decide)
  have f3 := Ng.far h.kf hl h.cr vs 3 (fun k hk => ⟨h.ks k hk, (World.ownsRow.lt h.os k hk).2⟩) (by decide) (by decide)
  have f4 := Ng.far h.kf hl h.cr ve 4 (fun k hk => ⟨h.ke k hk, (World.ownsRow.lt h.oe k hk).2⟩) (by decide) (by decide)
  have f5 : ∀ i (hi : i < rows.length), _ := fun i hi => Ng.far h.kf hl h.cr rows[i] (5 + i) (fun k hk => ⟨h.kr i hi k hk, (World.ownsRow.lt (h.orow i hi (by rw [← h.len]; exact hi)) k hk).2⟩) (by omega) (by omega)
  have hc1 := hg.cell h.c1 (fun e => hrf e.symm)
  have hc2 := hg.cell h.c2 (fun e => hrf e.symm)
  have hc3 := hg.cell h.c3 (fun e => hrf e.symm)
  have hc0 := hg.cell h.c0 (fun e => hrf e.symm)
  refine ⟨by simp [go_sem, hc0], by simp [go_sem, hc1], by simp [go_sem, hc2], by simp [go_sem, hc3], fun i hi => ?_, h.rb, by simp [hrg, h.cr], fun k hk => ?_, f2.2, f3.2, f4.2, fun i hi k hk => ?_, ?_, hO.row h.oo f2.1, hO.row h.os f3.1, hO.row h.oe f4.1, by simp [Nf.Mach.place, h.len], fun i hi hi' => ?_, by simp [Nf.Mach.place, h.ons]⟩
  · have e1 : w'.frozen? ⟨r, i, none⟩ = false := by rw [(Ng.Only.of_grown hg).frozen hr hrf]; exact h.z i hi
    simpa [go_sem] using e1
  · simp only [Value.ownBlock] at hk
    injection hk with hk
    simp [hk]
  · by_cases e : i < rows.length
    · rw [List.getElem_append_left e] at hk
      exact (f5 i e).2 k hk
    · rw [List.getElem_append_right (by omega)] at hk
      have : i - rows.length = 0 := by simp at hi; omega
      simp [this, Value.ownBlock] at hk
  · exact ownsRow_setCell_other ho (by simp only [Value.ownBlock]; exact fun e => hrg (by injection e with e; exact e.symm)) _
  · by_cases e : i < rows.length
    · have e' : i < M.free.length := by rw [← h.len]; exact e
      have := hO.row (h.orow i e e') (f5 i e).1
      simp only [Nf.Mach.place]
      rw [List.getElem_append_left e]
      unfold Nf.Own
      simp only [List.getElem_append_left e']
      exact this
    · have h0 : i - rows.length = 0 := by simp at hi; omega
      have h1 : i - M.free.length = 0 := by rw [← h.len]; exact h0
      simp only [Nf.Mach.place]
      rw [List.getElem_append_right (by omega)]
      unfold Nf.Own
      simp only [List.getElem_append_right (show M.free.length ≤ i by rw [← h.len]; omega), h0, h1]
      exact Nf.own_nil _ _
theorem Ng.Mem.one {w w' : World} {base r : Nat} {col : Nat → Nat} {vf vo vs ve : Value} {rows : List Value} {M : Nf.Mach} {tr : List Ng.Tr} {ss es : List Nat} (h : Ng.Mem w base r col vf vo vs ve rows M tr ss es) {g n cap : Nat} {o : Ng.Tr} (hg : w.grownBy w' vo.ownBlock) (ho : w'.ownsRow base 107 6 (.slice (some ⟨g, 0, none⟩) n cap) (tr ++ [o]).length (Ng.sixes (tr ++ [o]))) (hl : vo.ownBlock = some g ∨ g = w.heap.size) :
    Ng.Mem (w'.setCell ⟨r, 1, none⟩ (.slice (some ⟨g, 0, none⟩) n cap)) base r (fun k => if k = g then 2 else col k) vf (.slice (some ⟨g, 0, none⟩) n cap) vs ve rows { M with ones := M.ones ++ [o.2] } (tr ++ [o]) ss es := by
  have hO := (Ng.Only.of_grown hg).set r 1 (.slice (some ⟨g, 0, none⟩) n cap)
  have hr := h.lt
  have hrg : r ≠ g := Ng.col_far h.ko hl h.cr (by decide) hr
  have hrf : ¬ vo.ownBlock = some r := fun e => by have := h.ko r e; rw [h.cr] at this; omega
  have f1 := Ng.far h.ko hl h.cr vf 1 (fun k hk => ⟨h.kf k hk, (World.ownsRow.lt h.ofr k hk).2⟩) (by decide) (by decide)
  have f3 := Ng.far h.ko hl h.cr vs 3 (fun k hk => ⟨h.ks k hk, (World.ownsRow.lt h.os k hk).2⟩) (by decide) (by decide)
  have f4 := Ng.far h.ko hl h.cr ve 4 (fun k hk => ⟨h.ke k hk, (World.ownsRow.lt h.oe k hk).2⟩) (by decide) (by decide)
  have f5 : ∀ i (hi : i < rows.length), _ := fun i hi => Ng.far h.ko hl h.cr rows[i] (5 + i) (fun k hk => ⟨h.kr i hi k hk, (World.ownsRow.lt (h.orow i hi (by rw [← h.len]; exact hi)) k hk).2⟩) (by omega) (by omega)
  have hc0 := hg.cell h.c0 (fun e => hrf e.symm)
  have hc1 := hg.cell h.c1 (fun e => hrf e.symm)
  have hc2 := hg.cell h.c2 (fun e => hrf e.symm)
  have hc3 := hg.cell h.c3 (fun e => hrf e.symm)
  have hnew : ∀ k, ((.slice (some ⟨g, 0, none⟩) n cap) : Value).ownBlock = some k → (if k = g then 2 else col k) = 2 := fun k hk => by
    simp only [Value.ownBlock] at hk
    injection hk with hk
    simp [hk]
  have hown := ownsRow_setCell_other ho (a := ⟨r, 1, none⟩) (by simp only [Value.ownBlock]; exact fun e => hrg (by injection e with e; exact e.symm)) (.slice (some ⟨g, 0, none⟩) n cap)
  refine ⟨by simp [go_sem, hc0], by simp [go_sem, hc1], by simp [go_sem, hc2], by simp [go_sem, hc3], fun i hi => ?_, h.rb, by simp [hrg, h.cr], f1.2, hnew, f3.2, f4.2, fun i hi k hk => (f5 i hi).2 k hk, hO.row h.ofr f1.1, hown, hO.row h.os f3.1, hO.row h.oe f4.1, h.len, fun i hi hi' => hO.row (h.orow i hi hi') (f5 i hi).1, by simp [h.ons]⟩
  have e1 : w'.frozen? ⟨r, i, none⟩ = false := by rw [(Ng.Only.of_grown hg).frozen hr hrf]; exact h.z i hi
  simpa [go_sem] using e1
theorem Ng.Mem.start {w w' : World} {base r : Nat} {col : Nat → Nat} {vf vo vs ve : Value} {rows : List Value} {M : Nf.Mach} {tr : List Ng.Tr} {ss es : List Nat} (h : Ng.Mem w base r col vf vo vs ve rows M tr ss es) {g n cap : Nat} {x : Nat} (hg : w.grownBy w' vs.ownBlock) (ho : Nf.Own base (.slice (some ⟨g, 0, none⟩) n cap) (Ng.nums (ss ++ [x])) w') (hl : vs.ownBlock = some g ∨ g = w.heap.size) :
    Ng.Mem (w'.setCell ⟨r, 2, none⟩ (.slice (some ⟨g, 0, none⟩) n cap)) base r (fun k => if k = g then 3 else col k) vf vo (.slice (some ⟨g, 0, none⟩) n cap) ve rows M tr (ss ++ [x]) es := by
  have hO := (Ng.Only.of_grown hg).set r 2 (.slice (some ⟨g, 0, none⟩) n cap)
  have hr := h.lt
  have hrg : r ≠ g := Ng.col_far h.ks hl h.cr (by decide) hr
  have hrf : ¬ vs.ownBlock = some r := fun e => by have := h.ks r e; rw [h.cr] at this; omega
  have f1 := Ng.far h.ks hl h.cr vf 1 (fun k hk => ⟨h.kf k hk, (World.ownsRow.lt h.ofr k hk).2⟩) (by decide) (by decide)
  have f2 := Ng.far h.ks hl h.cr vo 2 (fun k hk => ⟨h.ko k hk, (h.oo.lt k hk).2⟩) (by decide) (by decide)
  have f4 := Ng.far h.ks hl h.cr ve 4 (fun k hk => ⟨h.ke k hk, (World.ownsRow.lt h.oe k hk).2⟩) (by decide) (by decide)
  have f5 : ∀ i (hi : i < rows.length), _ := fun i hi => Ng.far h.ks hl h.cr rows[i] (5 + i) (fun k hk => ⟨h.kr i hi k hk, (World.ownsRow.lt (h.orow i hi (by rw [← h.len]; exact hi)) k hk).2⟩) (by omega) (by omega)
  have hc0 := hg.cell h.c0 (fun e => hrf e.symm)
  have hc1 := hg.cell h.c1 (fun e => hrf e.symm)
  have hc2 := hg.cell h.c2 (fun e => hrf e.symm)
  have hc3 := hg.cell h.c3 (fun e => hrf e.symm)
  have hnew : ∀ k, ((.slice (some ⟨g, 0, none⟩) n cap) : Value).ownBlock = some k → (if k = g then 3 else col k) = 3 := fun k hk => by
    simp only [Value.ownBlock] at hk
    injection hk with hk
    simp [hk]
  have hown := ownsRow_setCell_other ho (a := ⟨r, 2, none⟩) (by simp only [Value.ownBlock]; exact fun e => hrg (by injection e with e; exact e.symm)) (.slice (some ⟨g, 0, none⟩) n cap)
  refine ⟨by simp [go_sem, hc0], by simp [go_sem, hc1], by simp [go_sem, hc2], by simp [go_sem, hc3], fun i hi => ?_, h.rb, by simp [hrg, h.cr], f1.2, f2.2, hnew, f4.2, fun i hi k hk => (f5 i hi).2 k hk, hO.row h.ofr f1.1, hO.row h.oo f2.1, hown, hO.row h.oe f4.1, h.len, fun i hi hi' => hO.row (h.orow i hi hi') (f5 i hi).1, h.ons⟩
  have e1 : w'.frozen? ⟨r, i, none⟩ = false := by rw [(Ng.Only.of_grown hg).frozen hr hrf]; exact h.z i hi
  simpa [go_sem] using e1
theorem Ng.Mem.end_ {w w' : World} {base r : Nat} {col : Nat → Nat} {vf vo vs ve : Value} {rows : List Value} {M : Nf.Mach} {tr : List Ng.Tr} {ss es : List Nat} (h : Ng.Mem w base r col vf vo vs ve rows M tr ss es) {g n cap : Nat} {x : Nat} (hg : w.grownBy w' ve.ownBlock) (ho : Nf.Own base (.slice (some ⟨g, 0, none⟩) n cap) (Ng.nums (es ++ [x])) w') (hl : ve.ownBlock = some g ∨ g = w.heap.size) :
    Ng.Mem (w'.setCell ⟨r, 3, none⟩ (.slice (some ⟨g, 0, none⟩) n cap)) base r (fun k => if k = g then 4 else col k) vf vo vs (.slice (some ⟨g, 0, none⟩) n cap) rows M tr ss (es ++ [x]) := by
  have hO := (Ng.Only.of_grown hg).set r 3 (.slice (some ⟨g, 0, none⟩) n cap)
  have hr := h.lt
  have hrg : r ≠ g := Ng.col_far h.ke hl h.cr (by decide) hr
  have hrf : ¬ ve.ownBlock = some r := fun e => by have := h.ke r e; rw [h.cr] at this; omega
  have f1 := Ng.far h.ke hl h.cr vf 1 (fun k hk => ⟨h.kf k hk, (World.ownsRow.lt h.ofr k hk).2⟩) (by decide) (by decide)
  have f2 := Ng.far h.ke hl h.cr vo 2 (fun k hk => ⟨h.ko k hk, (h.oo.lt k hk).2⟩) (by decide) (by decide)
  have f3 := Ng.far h.ke hl h.cr vs 3 (fun k hk => ⟨h.ks k hk, (World.ownsRow.lt h.os k hk).2⟩) (by decide) (by decide)
  have f5 : ∀ i (hi : i < rows.length), _ := fun i hi => Ng.far h.ke hl h.cr rows[i] (5 + i) (fun k hk => ⟨h.kr i hi k hk, (World.ownsRow.lt (h.orow i hi (by rw [← h.len]; exact hi)) k hk).2⟩) (by omega) (by omega)
  have hc0 := hg.cell h.c0 (fun e => hrf e.symm)
  have hc1 := hg.cell h.c1 (fun e => hrf e.symm)
  have hc2 := hg.cell h.c2 (fun e => hrf e.symm)
  have hc3 := hg.cell h.c3 (fun e => hrf e.symm)
  have hnew : ∀ k, ((.slice (some ⟨g, 0, none⟩) n cap) : Value).ownBlock = some k → (if k = g then 4 else col k) = 4 := fun k hk => by
    simp only [Value.ownBlock] at hk
    injection hk with hk
    simp [hk]
  have hown := ownsRow_setCell_other ho (a := ⟨r, 3, none⟩) (by simp only [Value.ownBlock]; exact fun e => hrg (by injection e with e; exact e.symm)) (.slice (some ⟨g, 0, none⟩) n cap)
  refine ⟨by simp [go_sem, hc0], by simp [go_sem, hc1], by simp [go_sem, hc2], by simp [go_sem, hc3], fun i hi => ?_, h.rb, by simp [hrg, h.cr], f1.2, f2.2, f3.2, hnew, fun i hi k hk => (f5 i hi).2 k hk, hO.row h.ofr f1.1, hO.row h.oo f2.1, hO.row h.os f3.1, hown, h.len, fun i hi hi' => hO.row (h.orow i hi hi') (f5 i hi).1, h.ons⟩
  have e1 : w'.frozen? ⟨r, i, none⟩ = false := by rw [(Ng.Only.of_grown hg).frozen hr hrf]; exact h.z i hi
  simpa [go_sem] using e1
theorem Ng.Mem.join {w w' : World} {base r : Nat} {col : Nat → Nat} {vf vo vs ve : Value} {rows : List Value} {M : Nf.Mach} {tr : List Ng.Tr} {ss es : List Nat} (h : Ng.Mem w base r col vf vo vs ve rows M tr ss es) {g n cap gf nf cf i : Nat} {ts : List Nat} (hi : i < rows.length) (hvf : vf = .slice (some ⟨gf, 0, none⟩) nf cf) (hg : w.grownBy w' rows[i].ownBlock) (ho : Nf.Own base (.slice (some ⟨g, 0, none⟩) n cap) (Ng.nums (M.free[i]'(by rw [← h.len]; exact hi) ++ ts)) w') (hl : rows[i].ownBlock = some g ∨ g = w.heap.size) :
    Ng.Mem (w'.setCell ⟨gf, i, none⟩ (.slice (some ⟨g, 0, none⟩) n cap)) base r (fun k => if k = g then 5 + i else col k) vf vo vs ve (rows.set i (.slice (some ⟨g, 0, none⟩) n cap)) (M.join i ts) tr ss es := by
  have hM : i < M.free.length := by rw [← h.len]; exact hi
  have hgf : col gf = 1 := h.kf gf (by rw [hvf]; rfl)
  have hgfl : gf < w.heap.size := (World.ownsRow.lt h.ofr gf (by rw [hvf]; rfl)).2
  have hO := (Ng.Only.of_grown hg).set gf i (.slice (some ⟨g, 0, none⟩) n cap)
  have hr := h.lt
  have hku := h.kr i hi
  have hrg : r ≠ g := Ng.col_far hku hl h.cr (by omega) hr
  have hfg : gf ≠ g := Ng.col_far hku hl hgf (by omega) hgfl
  have hrf : ¬ (rows[i].ownBlock = some r ∨ r = gf) := fun e => by
    rcases e with e | e
    · have := hku r e; rw [h.cr] at this; omega
    · have := h.cr; rw [e, hgf] at this; omega
  have hff : ¬ rows[i].ownBlock = some gf := fun e => by have := hku gf e; rw [hgf] at this; omega
  have f2 := Ng.far hku hl hgf vo 2 (fun k hk => ⟨h.ko k hk, (h.oo.lt k hk).2⟩) (by omega) (by decide)
  have f3 := Ng.far hku hl hgf vs 3 (fun k hk => ⟨h.ks k hk, (World.ownsRow.lt h.os k hk).2⟩) (by omega) (by decide)
  have f4 := Ng.far hku hl hgf ve 4 (fun k hk => ⟨h.ke k hk, (World.ownsRow.lt h.oe k hk).2⟩) (by omega) (by decide)
  have f5 : ∀ j (hj : j < rows.length), j ≠ i → _ := fun j hj hji => Ng.far hku hl hgf rows[j] (5 + j) (fun k hk => ⟨h.kr j hj k hk, (World.ownsRow.lt (h.orow j hj (by rw [← h.len]; exact hj)) k hk).2⟩) (by omega) (by omega)
  have hfree : Ng.Own base vf rows w' := (Ng.Only.of_grown hg).row h.ofr (fun k hk e => hff (by rw [hvf] at hk; simp only [Value.ownBlock] at hk; injection hk with hk; rw [hk]; exact e))
  have hfree2 : Ng.Own base vf (rows.set i (.slice (some ⟨g, 0, none⟩) n cap)) (w'.setCell ⟨gf, i, none⟩ (.slice (some ⟨g, 0, none⟩) n cap)) := by
    subst hvf
    have hn : nf = rows.length := by
      obtain ⟨a, c, e, _⟩ := Ng.Own.cells hfree
      injection e
    subst hn
    unfold Ng.Own
    rw [List.length_set]
    exact (World.ownsRow.stored hfree i (.slice (some ⟨g, 0, none⟩) n cap)).1
  have hown : Nf.Own base (.slice (some ⟨g, 0, none⟩) n cap) (Ng.nums (M.free[i] ++ ts)) (w'.setCell ⟨gf, i, none⟩ (.slice (some ⟨g, 0, none⟩) n cap)) := ownsRow_setCell_other ho (a := ⟨gf, i, none⟩) (by simp only [Value.ownBlock]; exact fun e => hfg (by injection e with e; exact e.symm)) (.slice (some ⟨g, 0, none⟩) n cap)
  refine ⟨hO.cell h.c0 hrf, hO.cell h.c1 hrf, hO.cell h.c2 hrf, hO.cell h.c3 hrf, fun j hj => by rw [hO.frozen hr hrf]; exact h.z j hj, h.rb, by simp [hrg, h.cr], fun k hk => ?_, f2.2, f3.2, f4.2, fun j hj k hk => ?_, hfree2, hO.row h.oo f2.1, hO.row h.os f3.1, hO.row h.oe f4.1, by simp [Nf.Mach.join, h.len], fun j hj hj' => ?_, by simp [Nf.Mach.join, h.ons]⟩
  · have e1 := h.kf k hk
    rw [if_neg (Ng.col_far hku hl e1 (by omega) (World.ownsRow.lt h.ofr k hk).2), e1]
  · rw [List.length_set] at hj
    by_cases e : j = i
    · subst e
      rw [List.getElem_set_self] at hk
      simp only [Value.ownBlock] at hk
      injection hk with hk
      simp [hk]
    · rw [List.getElem_set_ne (Ne.symm e)] at hk
      exact (f5 j hj e).2 k hk
  · rw [List.length_set] at hj
    have hjM : j < M.free.length := by rw [← h.len]; exact hj
    simp only [Nf.Mach.join] at hj' ⊢
    by_cases e : j = i
    · subst e
      simp only [List.getElem_set_self]
      rw [List.getD_eq_getElem?_getD, List.getElem?_eq_getElem hM]
      exact hown
    · simp only [List.getElem_set_ne (Ne.symm e)]
      exact hO.row (h.orow j hj hjM) (f5 j hj e).1
open Go.RowKit
def Ng.At (w : World) (base r : Nat) (M : Nf.Mach) (tr : List Ng.Tr) (ss es : List Nat) : Prop := ∃ col vf vo vs ve rows, Ng.Mem w base r col vf vo vs ve rows M tr ss es
theorem Ng.At.up {w w' : World} {base r : Nat} {M : Nf.Mach} {tr : List Ng.Tr} {ss es : List Nat} (h : Ng.At w base r M tr ss es) (hb : Below w.heap.size w w') : Ng.At w' base r M tr ss es := by
  obtain ⟨col, vf, vo, vs, ve, rows, h⟩ := h
  exact ⟨col, vf, vo, vs, ve, rows, h.up hb⟩
theorem Ng.append1 {ops : Array Oper} {rest : List Oper} {o : Oper} {a : Act} {Q : Exit → Act → World → Prop} {W : World} (hgd : o.guard = none) (s x : Operand)
    (ho : o.op = .call { callee := .builtin .append, args := #[s, x], argTypes := #[37, 37] })
    (base : Nat) (v : Value) (ns : List Value) (hs : a.eval s = v) (O : Ng.Own base v ns W) (B c : Nat) (u : Value) (hx : a.eval x = .slice (some ⟨B, 0, none⟩) 1 c) (hB : W.heap[B]? = some (.cells #[u] 38)) (hu : u.oneCell' = true) (hl : ns.length ≤ 1000000) (hbase : base ≤ W.heap.size)
    (h : ∀ g cap w', Ng.Own base (.slice (some ⟨g, 0, none⟩) (ns.length + 1) cap) (ns ++ [u]) w' → W.grownBy w' v.ownBlock → (v.ownBlock = some g ∨ g = W.heap.size) → wpList Try.prog ops Q rest (a.put o.dst (.slice (some ⟨g, 0, none⟩) (ns.length + 1) cap)) w') : wpList Try.prog ops Q (o :: rest) a W := by
  obtain ⟨iI, hiI, hz0, hz1, hz2⟩ := info_parts Ng.infoRow
  refine wpList_append_lies W hgd s x 37 ho base 38 iI _ 1 24 Try.underlying37 hiI hz0 hz1 hz2 rfl (by decide) v ns.length ns hs O ⟨B, 0, none⟩ 1 c [u] hx rfl (World.news_of_block hB) (by simp [hu]) (by decide) (by unfold maxLen; omega) (by omega) hbase _ rfl ?_
  intro g cap w' o1 o2 o3 _
  exact h g cap w' (by unfold Ng.Own; rw [List.length_append]; exact o1) o2 o3
theorem Nf.appendL {ops : Array Oper} {rest : List Oper} {o : Oper} {a : Act} {Q : Exit → Act → World → Prop} {W : World} (hgd : o.guard = none) (s x : Operand)
    (ho : o.op = .call { callee := .builtin .append, args := #[s, x], argTypes := #[38, 38] })
    (base : Nat) (v : Value) (ns : List Int) (hs : a.eval s = v) (O : Nf.Own base v ns W) (B c : Nat) (u : Int) (hx : a.eval x = .slice (some ⟨B, 0, none⟩) 1 c) (hB : W.heap[B]? = some (.cells #[.int .i64 u] 3)) (hl : ns.length ≤ 10000000) (hbase : base ≤ W.heap.size)
    (h : ∀ g cap w', Nf.Own base (.slice (some ⟨g, 0, none⟩) (ns.length + 1) cap) (ns ++ [u]) w' → W.grownBy w' v.ownBlock → (v.ownBlock = some g ∨ g = W.heap.size) → wpList Try.prog ops Q rest (a.put o.dst (.slice (some ⟨g, 0, none⟩) (ns.length + 1) cap)) w') : wpList Try.prog ops Q (o :: rest) a W := by
  obtain ⟨iI, hiI, hz0, hz1, hz2⟩ := info_parts Nf.infoInt
  refine wpList_append_lies W hgd s x 38 ho base 3 iI _ 1 8 Try.underlying38 hiI hz0 hz1 hz2 rfl (by decide) v ns.length (ns.map (Value.int .i64)) hs O ⟨B, 0, none⟩ 1 c [.int .i64 u] hx rfl (World.news_of_block hB) (by simp [Value.oneCell']) (by decide) (by unfold maxLen; omega) (by omega) hbase _ rfl ?_
  intro g cap w' o1 o2 o3 _
  exact h g cap w' (by unfold Nf.Own; rw [List.length_append, List.map_append]; exact o1) o2 o3
theorem Ng.Mem.still {w w' : World} {base r : Nat} {col : Nat → Nat} {vf vo vs ve : Value} {rows : List Value} {M : Nf.Mach} {tr : List Ng.Tr} {ss es : List Nat} (h : Ng.Mem w base r col vf vo vs ve rows M tr ss es) {row : Option Nat} (hg : w.grownBy w' row) {c : Nat} (hr : ∀ k, row = some k → col k = c) (hc : c ≠ 0) {i : Nat} (hi : i < 4) {v : Value} (hv : w.cell? ⟨r, i, none⟩ = some v) : w'.cell? ⟨r, i, none⟩ = some v ∧ w'.frozen? ⟨r, i, none⟩ = false := by
  have hrf : ¬ row = some r := fun e => by have := hr r e; rw [h.cr] at this; exact hc this.symm
  exact ⟨hg.cell hv (fun e => hrf e.symm), by rw [(Ng.Only.of_grown hg).frozen h.lt hrf]; exact h.z i hi⟩
theorem Ng.bel {w w' : World} {base : Nat} {row : Option Nat} (hg : w.grownBy w' row) (hr : ∀ k, row = some k → base ≤ k) (hB : base ≤ w.heap.size) {b : Nat} (hb : base ≤ b) (i : Nat) (u : Value) : Below base w (w'.setCell ⟨b, i, none⟩ u) :=
  ((Ng.Only.of_grown hg).set b i u).below (fun k hk => by
    rcases hk with hk | hk
    · exact hr k hk
    · omega) hB
def Ng.GPost (w : World) (base r : Nat) (v : Value) (M : Nf.Mach) (tr : List Ng.Tr) (ss es : List Nat) (e : Ending) (w' : World) : Prop := e = .returned v ∧ Ng.At w' base r M tr ss es ∧ Below base w w'
def Ng.AtX (w : World) (base r p : Nat) (M : Nf.Mach) (tr : List Ng.Tr) (ss es : List Nat) : Prop := ∃ col vf vo vs ve rows, Ng.Mem w base r col vf vo vs ve rows M tr ss es ∧ vf.ownBlock ≠ some p ∧ r ≠ p
theorem Ng.AtX.at {w : World} {base r p : Nat} {M : Nf.Mach} {tr : List Ng.Tr} {ss es : List Nat} (h : Ng.AtX w base r p M tr ss es) : Ng.At w base r M tr ss es := by
  obtain ⟨col, vf, vo, vs, ve, rows, h, _⟩ := h
  exact ⟨col, vf, vo, vs, ve, rows, h⟩
theorem Ng.At.new {w w' : World} {base r : Nat} {M : Nf.Mach} {tr : List Ng.Tr} {ss es : List Nat} (h : Ng.At w base r M tr ss es) (hb : Below w.heap.size w w') : Ng.AtX w' base r w.heap.size M tr ss es := by
  obtain ⟨col, vf, vo, vs, ve, rows, h⟩ := h
  refine ⟨col, vf, vo, vs, ve, rows, h.up hb, fun e => ?_, fun e => ?_⟩
  · have := (World.ownsRow.lt h.ofr _ e).2; omega
  · have := h.lt; omega
def Ng.PPost (w : World) (base r p : Nat) (v : Value) (M : Nf.Mach) (tr : List Ng.Tr) (ss es : List Nat) (e : Ending) (w' : World) : Prop := e = .returned v ∧ Ng.AtX w' base r p M tr ss es ∧ Below base w w' ∧ w'.heap[p]? = w.heap[p]?
set_option maxRecDepth 100000 in
set_option maxHeartbeats 1000000 in
theorem place_any (w : World) (base r p : Nat) (M : Nf.Mach) (tr : List Ng.Tr) (ss es : List Nat) (HA : Ng.AtX w base r p M tr ss es) (hp : p < w.heap.size) (hB : base ≤ w.heap.size) (hn : M.free.length ≤ 1000000) : Calls Try.prog 26 #[.pointer (some ⟨r, 0, none⟩)] w (Ng.PPost w base r p (.int .i64 (M.free.length : Nat)) M.place tr ss es) := by
  obtain ⟨col, vf, vo, vs, ve, rows, HM, hpf, hrp⟩ := HA
  have B1 := Bs.below1 w (.cells #[.slice none 0 0] 38)
  have H1 := HM.up B1
  have hB1 : base ≤ (w.alloc (.cells #[.slice none 0 0] 38)).heap.size := Nat.le_trans hB B1.size
  have hN : (w.alloc (.cells #[.slice none 0 0] 38)).heap[w.heap.size]? = some (.cells #[.slice none 0 0] 38) := heap_alloc_new w _
  have c0 := HM.c0
  have hl := HM.len
  obtain ⟨m, hm⟩ : ∃ m, rows.length = m := ⟨_, rfl⟩
  have HM1 := Lib.hid hm
  rw [hl] at hm
  have HL := Lib.hid hm
  rw [hm] at hn ⊢
  have hrl : rows.length ≤ 1000000 := by rw [HM1.out]; exact hn
  have HH := Lib.hid H1
  have HN := Lib.hid hN
  have HB := Lib.hid B1
  have HPF := Lib.hid hpf
  have HRP := Lib.hid hrp
  obtain ⟨af, nf, cf, rfl⟩ := HM.ofr.form
  clear HM H1 hl hm hN B1 hpf hrp
  go_enter Try.func26, Try.ntmps26
  go_wp2_with (first | (at_builtin; refine Ng.append1 rfl _ _ rfl base _ rows rfl HH.out.ofr w.heap.size 1 _ rfl HN.out rfl (by rw [HM1.out]; exact hn) hB1 ?_; intro g cap w1 O1 g1 l1; have s1 := HH.out.still g1 HH.out.kf (by decide) (by decide) HH.out.c0; obtain ⟨s2, s3⟩ := s1))
  go_ret
  have hpW : p < (w.alloc (.cells #[.slice none 0 0] 38)).heap.size := Nat.lt_of_lt_of_le hp HB.out.size
  refine ⟨?_, ⟨_, _, _, _, _, _, HH.out.place g1 O1 l1, ?_, HRP.out⟩, (HB.out.mono hB).trans (Ng.bel g1 (fun k hk => (World.ownsRow.lt HH.out.ofr k hk).1) hB1 HH.out.rb _ _), ?_⟩
  · rw [HM1.out]
    go_num
  · simp only [Value.ownBlock]
    intro e
    injection e with e
    subst e
    rcases l1 with l1 | l1
    · exact HPF.out l1
    · omega
  · rw [Below.heap_setCell _ _ _ _ (fun e => HRP.out e.symm), g1.block p hpW (fun e => HPF.out e.symm), HB.out.block p hp]
def Ng.relJ (r i gf : Nat) (vf vi vt : Value) (P : Value → World → Prop) : List (Value → World → Prop) :=
  [fun v _ => v = .pointer (some ⟨r, 0, none⟩), fun v _ => v = .pointer (some ⟨r, 0, none⟩), fun v _ => v = .pointer (some ⟨r, 0, none⟩), fun v _ => v = vf, fun v _ => v = .int .i64 i,
   fun v _ => v = .pointer (some ⟨r, 0, none⟩), fun v _ => v = .pointer (some ⟨r, 0, none⟩), fun v _ => v = .pointer (some ⟨r, 0, none⟩), fun v _ => v = vf, fun v _ => v = .int .i64 i,
   fun v _ => v = .pointer (some ⟨gf, i, none⟩), fun v _ => v = vi, fun v _ => v = vt, P, fun v _ => v = .pointer (some ⟨gf, i, none⟩)]
theorem Ng.relJ_up {r i gf : Nat} {vf vi vt : Value} {P : Value → World → Prop} {k j : Nat} {v : Value} {w w' : World} (hjk : j ≠ k) (h : Rg.rel (Ng.relJ r i gf vf vi vt P) j v w) (hb : k = 13 ∨ w = w') : Rg.rel (Ng.relJ r i gf vf vi vt P) j v w' := by
  rcases hb with rfl | rfl
  · match j, h with
    | 0, h => exact h
    | 1, h => exact h
    | 2, h => exact h
    | 3, h => exact h
    | 4, h => exact h
    | 5, h => exact h
    | 6, h => exact h
    | 7, h => exact h
    | 8, h => exact h
    | 9, h => exact h
    | 10, h => exact h
    | 11, h => exact h
    | 12, h => exact h
    | 13, h => exact absurd rfl hjk
    | 14, h => exact h
    | n + 15, h => exact h
  · exact h
def Ng.MJ (k : Nat) (u u' : World) : Prop := k = 13 ∨ u = u'
def Ng.JP (w : World) (base r gf i : Nat) (M : Nf.Mach) (tr : List Ng.Tr) (ss es : List Nat) (v : Value) (u : World) : Prop := ∃ g cap k, v = .slice (some ⟨g, 0, none⟩) k cap ∧ Ng.At (u.setCell ⟨gf, i, none⟩ v) base r M tr ss es ∧ Below base w (u.setCell ⟨gf, i, none⟩ v)
structure Ng.WJ (w : World) (r gf i : Nat) (vf vi : Value) (I : World → Prop) (L : Nat → Bool) (u : World) : Prop where
  c0 : u.cell? ⟨r, 0, none⟩ = some vf
  ci : u.cell? ⟨gf, i, none⟩ = some vi
  zi : u.frozen? ⟨gf, i, none⟩ = false
  is : L 13 = false → I u
theorem Ng.WJ.on {w : World} {r gf i : Nat} {vf vi : Value} {I : World → Prop} {L : Nat → Bool} {u : World} (h : Ng.WJ w r gf i vf vi I L u) (j : Nat) (hj : j ≠ 13) : Ng.WJ w r gf i vf vi I (fun k => decide (k = j) || L k) u :=
  ⟨h.c0, h.ci, h.zi, fun e => h.is (by simpa [Ne.symm hj] using e)⟩
set_option maxRecDepth 100000 in
set_option maxHeartbeats 4000000 in
theorem join_any (w : World) (base r : Nat) (M : Nf.Mach) (tr : List Ng.Tr) (ss es : List Nat) (HA : Ng.At w base r M tr ss es) (hB : base ≤ w.heap.size) (hn : M.free.length ≤ 1000000) (i : Nat) (hi : i < M.free.length) (hfi : M.free[i].length ≤ 1000000) (ts : List Nat) (ht0 : ts ≠ []) (htl : ts.length ≤ 1000000) (ad : Addr) (c : Nat) (HT : Rx.Sg w (some ad) (Ng.nums ts)) :
    Calls Try.prog 45 #[.pointer (some ⟨r, 0, none⟩), .int .i64 i, .slice (some ad) ts.length c] w (Ng.GPost w base r (.tuple #[]) (M.join i ts) tr ss es) := by
  obtain ⟨col, vf, vo, vs, ve, rows, HM⟩ := HA
  have hir : i < rows.length := by rw [HM.len]; exact hi
  obtain ⟨gf, cf, rfl, hgb, hgl⟩ := World.ownsRow.form HM.ofr (by omega)
  have hci : w.cell? ⟨gf, i, none⟩ = some rows[i] := by
    have := World.ownsRow.cellAt HM.ofr i (by omega)
    rw [this]; simp [hir]
  have hzi := World.ownsRow.frozenAt HM.ofr i
  obtain ⟨ai, ni, ki, hri⟩ := (Nf.Own.row (HM.orow i hir hi) (fun _ h => h)).form
  have HRI := Lib.hid hri
  have c0 := HM.c0
  have hrl : rows.length ≤ 1000000 := by rw [HM.len]; exact hn
  have HMM := Lib.hid HM
  have HTT := Lib.hid HT
  have HFI := Lib.hid hfi
  have HT0 := Lib.hid ht0
  obtain ⟨tl, htl'⟩ : ∃ tl, ts.length = tl := ⟨_, rfl⟩
  have HTL := Lib.hid htl'
  rw [htl'] at htl ⊢
  obtain ⟨n, hnn⟩ : ∃ n, rows.length = n := ⟨_, rfl⟩
  have HNN := Lib.hid hnn
  have hin : i < n := by omega
  rw [hnn] at c0 hrl
  rw [hri] at hci
  have W0 : Ng.WJ w r gf i (.slice (some ⟨gf, 0, none⟩) n cf) (.slice ai ni ki) (fun u => Below w.heap.size w u) (fun _ => false) w.drew := ⟨c0, hci, hzi, fun _ => (Below.refl _ _).drew⟩
  have i1 : (0 : Int) ≤ (i : Int) := by omega
  have i2 : (i : Int) < (n : Int) := by omega
  clear HM HT hfi ht0 htl' hnn hci hzi hri c0
  go_enter Try.func45, Try.ntmps45
  go_upto_region 0 with fail
  refine Rg.regionZ (by kernel_rfl) (by kernel_rfl) (by kernel_rfl) (by decide) (Rg.rel (Ng.relJ r i gf (.slice (some ⟨gf, 0, none⟩) n cf) (.slice ai ni ki) (.slice (some ad) tl c) (Ng.JP w base r gf i (M.join i ts) tr ss es))) (Ng.WJ w r gf i (.slice (some ⟨gf, 0, none⟩) n cf) (.slice ai ni ki) (fun u => Below w.heap.size w u)) Ng.MJ (fun _ _ => False) (fun c b x _ h => h.elim) (fun i j v w w' hij h hb => Ng.relJ_up hij h hb) W0 ⟨?_, ?_, ?_, ?_, ?_, ?_, ?_, ?_, ?_, ?_, ?_, ?_, ?_, ?_, ?_, trivial⟩ ?_
  · intro L f' x hL hw hd
    have HW := Lib.hid hw
    clear hw hd
    simp only [Rg.stepZ, Rg.all, Act.put, List.setIfInBounds_toArray, List.set_cons_zero, List.set_cons_succ]
    go_simp
    exact ⟨rfl, HW.out.on 0 (by decide), .inr rfl⟩
  · intro L f' x hL hw hd
    have r0 : f' 0 = .pointer (some ⟨r, 0, none⟩) := (hd _ (List.mem_cons_self ..)).2
    have HW := Lib.hid hw
    clear hw hd
    simp only [Rg.stepZ, Rg.all, Act.put, List.setIfInBounds_toArray, List.set_cons_zero, List.set_cons_succ]
    go_simp
    exact ⟨rfl, HW.out.on 1 (by decide), .inr rfl⟩
  · intro L f' x hL hw hd
    have r1 : f' 1 = .pointer (some ⟨r, 0, none⟩) := (hd _ (List.mem_cons_self ..)).2
    have HW := Lib.hid hw
    clear hw hd
    simp only [Rg.stepZ, Rg.all, Act.put, List.setIfInBounds_toArray, List.set_cons_zero, List.set_cons_succ]
    go_simp
    exact ⟨rfl, HW.out.on 2 (by decide), .inr rfl⟩
  · intro L f' x hL hw hd
    have r2 : f' 2 = .pointer (some ⟨r, 0, none⟩) := (hd _ (List.mem_cons_self ..)).2
    have c0 := hw.c0
    have HW := Lib.hid hw
    clear hw hd
    simp only [Rg.stepZ, Rg.all, Act.put, List.setIfInBounds_toArray, List.set_cons_zero, List.set_cons_succ]
    go_simp
    exact ⟨rfl, HW.out.on 3 (by decide), .inr rfl⟩
  · intro L f' x hL hw hd
    have HW := Lib.hid hw
    clear hw hd
    simp only [Rg.stepZ, Rg.all, Act.put, List.setIfInBounds_toArray, List.set_cons_zero, List.set_cons_succ]
    go_simp
    exact ⟨rfl, HW.out.on 4 (by decide), .inr rfl⟩
  · intro L f' x hL hw hd
    have HW := Lib.hid hw
    clear hw hd
    simp only [Rg.stepZ, Rg.all, Act.put, List.setIfInBounds_toArray, List.set_cons_zero, List.set_cons_succ]
    go_simp
    exact ⟨rfl, HW.out.on 5 (by decide), .inr rfl⟩
  · intro L f' x hL hw hd
    have r5 : f' 5 = .pointer (some ⟨r, 0, none⟩) := (hd _ (List.mem_cons_self ..)).2
    have HW := Lib.hid hw
    clear hw hd
    simp only [Rg.stepZ, Rg.all, Act.put, List.setIfInBounds_toArray, List.set_cons_zero, List.set_cons_succ]
    go_simp
    exact ⟨rfl, HW.out.on 6 (by decide), .inr rfl⟩
  · intro L f' x hL hw hd
    have r6 : f' 6 = .pointer (some ⟨r, 0, none⟩) := (hd _ (List.mem_cons_self ..)).2
    have HW := Lib.hid hw
    clear hw hd
    simp only [Rg.stepZ, Rg.all, Act.put, List.setIfInBounds_toArray, List.set_cons_zero, List.set_cons_succ]
    go_simp
    exact ⟨rfl, HW.out.on 7 (by decide), .inr rfl⟩
  · intro L f' x hL hw hd
    have r7 : f' 7 = .pointer (some ⟨r, 0, none⟩) := (hd _ (List.mem_cons_self ..)).2
    have c0 := hw.c0
    have HW := Lib.hid hw
    clear hw hd
    simp only [Rg.stepZ, Rg.all, Act.put, List.setIfInBounds_toArray, List.set_cons_zero, List.set_cons_succ]
    go_simp
    exact ⟨rfl, HW.out.on 8 (by decide), .inr rfl⟩
  · intro L f' x hL hw hd
    have HW := Lib.hid hw
    clear hw hd
    simp only [Rg.stepZ, Rg.all, Act.put, List.setIfInBounds_toArray, List.set_cons_zero, List.set_cons_succ]
    go_simp
    exact ⟨rfl, HW.out.on 9 (by decide), .inr rfl⟩
  · intro L f' x hL hw hd
    have r8 : f' 8 = .slice (some ⟨gf, 0, none⟩) n cf := (hd _ (List.mem_cons_self ..)).2
    have r9 : f' 9 = .int .i64 i := (hd _ (List.mem_cons_of_mem _ (List.mem_cons_self ..))).2
    have HW := Lib.hid hw
    clear hw hd
    simp only [Rg.stepZ, Rg.all, Act.put, List.setIfInBounds_toArray, List.set_cons_zero, List.set_cons_succ]
    go_simp
    exact ⟨rfl, HW.out.on 10 (by decide), .inr rfl⟩
  · intro L f' x hL hw hd
    have r10 : f' 10 = .pointer (some ⟨gf, i, none⟩) := (hd _ (List.mem_cons_self ..)).2
    have ci := hw.ci
    have HW := Lib.hid hw
    clear hw hd
    simp only [Rg.stepZ, Rg.all, Act.put, List.setIfInBounds_toArray, List.set_cons_zero, List.set_cons_succ]
    go_simp
    exact ⟨rfl, HW.out.on 11 (by decide), .inr rfl⟩
  · intro L f' x hL hw hd
    have HW := Lib.hid hw
    clear hw hd
    simp only [Rg.stepZ, Rg.all, Act.put, List.setIfInBounds_toArray, List.set_cons_zero, List.set_cons_succ]
    go_simp
    exact ⟨rfl, HW.out.on 12 (by decide), .inr rfl⟩
  · intro L f' x hL hw hd
    have r11 : f' 11 = .slice ai ni ki := (hd _ (List.mem_cons_self ..)).2
    have r12 : f' 12 = .slice (some ad) tl c := (hd _ (List.mem_cons_of_mem _ (List.mem_cons_self ..))).2
    simp only [Rg.all, Act.put, List.setIfInBounds_toArray, List.set_cons_zero, List.set_cons_succ]
    have hb := hw.is hL
    have HX := HMM.out.up hb
    have hbx : base ≤ x.heap.size := Nat.le_trans hB hb.size
    have O := HX.orow i hir hi
    have HS := Rx.Sg.up HTT.out hb
    obtain ⟨iI, hiI, hz0, hz1, hz2⟩ := info_parts Nf.infoInt
    have hnl : ((Ng.nums ts).map (Value.int .i64)).length = tl * 1 := by simp [HTL.out]
    have hfl : (Ng.nums M.free[i]).length ≤ 1000000 := by rw [List.length_map]; exact HFI.out
    have htp : 0 < tl := by have := List.length_pos_iff.2 HT0.out; rw [HTL.out] at this; exact this
    refine Rg.stepZ_append _ _ 38 rfl base 3 iI _ 1 8 Try.underlying38 hiI hz0 hz1 hz2 rfl (by decide) rows[i] (Ng.nums M.free[i]).length ((Ng.nums M.free[i]).map (Value.int .i64)) (by rw [HRI.out]; exact r11) O ad tl c ((Ng.nums ts).map (Value.int .i64)) r12 hnl ?_ (by simp [Value.oneCell']) htp (by unfold maxLen; omega) (by omega) hbx ?_
    · intro j u hu
      rw [List.getElem?_map] at hu
      by_cases hj : j < (Ng.nums ts).length
      · rw [List.getElem?_eq_getElem hj] at hu
        obtain ⟨ad', e', hc⟩ := HS j hj
        injection e' with e'
        subst e'
        simp at hu
        rw [← hu]
        simpa using hc
      · rw [List.getElem?_eq_none (by omega)] at hu
        simp at hu
    · intro g cap x1 o1 o2 o3 o4
      have O1 : Nf.Own base (.slice (some ⟨g, 0, none⟩) ((Ng.nums M.free[i]).length + tl) cap) (Ng.nums (M.free[i] ++ ts)) x1 := by
        unfold Nf.Own Ng.nums
        rw [List.map_append, List.length_append, List.map_append]
        unfold Ng.nums at o1
        rw [show (List.map (fun n : Nat => (n : Int)) ts).length = tl by rw [List.length_map, HTL.out]]
        exact o1
      have HJ := HX.join hir rfl o2 O1 o3
      have hgfi : rows[i].ownBlock ≠ some gf := fun e => by
        have h1 := HMM.out.kr i hir gf e
        have h2 := HMM.out.kf gf rfl
        omega
      have hBL := hb.mono hB
      refine ⟨⟨g, cap, _, rfl, ⟨_, _, _, _, _, _, HJ⟩, hBL.trans (Ng.bel o2 (fun k hk => (World.ownsRow.lt O k hk).1) hbx hgb _ _)⟩, ⟨?_, ?_, ?_, fun e => by simp at e⟩, .inl rfl⟩
      · exact o2.cell hw.c0 (fun e => by have h1 := HMM.out.kr i hir r e.symm; have h2 := HMM.out.cr; omega)
      · exact o2.cell hw.ci (fun e => hgfi e.symm)
      · rw [(Ng.Only.of_grown o2).frozen (Nat.lt_of_lt_of_le hgl hb.size) hgfi]; exact hw.zi
  · intro L f' x hL hw hd
    have r3 : f' 3 = .slice (some ⟨gf, 0, none⟩) n cf := (hd _ (List.mem_cons_self ..)).2
    have r4 : f' 4 = .int .i64 i := (hd _ (List.mem_cons_of_mem _ (List.mem_cons_self ..))).2
    have HW := Lib.hid hw
    clear hw hd
    simp only [Rg.stepZ, Rg.all, Act.put, List.setIfInBounds_toArray, List.set_cons_zero, List.set_cons_succ]
    go_simp
    exact ⟨rfl, HW.out.on 14 (by decide), .inr rfl⟩
  · intro L f' x hall hw hR o ho
    obtain ⟨g, cap, k, r13, A, B⟩ : ∃ g cap k, f' 13 = .slice (some ⟨g, 0, none⟩) k cap ∧ Ng.At (x.setCell ⟨gf, i, none⟩ (f' 13)) base r (M.join i ts) tr ss es ∧ Below base w (x.setCell ⟨gf, i, none⟩ (f' 13)) := hR 13 (by decide)
    have r14 : f' 14 = .pointer (some ⟨gf, i, none⟩) := hR 14 (by decide)
    simp at ho
    subst ho
    simp only [Rg.stepZ, Rg.all, Act.put, List.setIfInBounds_toArray, List.set_cons_zero, List.set_cons_succ]
    rw [r13] at A B
    have HA := Lib.hid A
    have HB := Lib.hid B
    have ci := hw.ci
    have zi := hw.zi
    clear hw hR A B
    go_simp
    go_wp2_with fail
    go_end0
    exact ⟨rfl, HA.out, HB.out⟩
open Go.RowKit
def Ng.tot (M : Nf.Mach) : Nat := (M.free.map List.length).sum
theorem Ng.tot_place (M : Nf.Mach) : Ng.tot M.place = Ng.tot M := by simp [Ng.tot, Nf.Mach.place]
theorem Ng.set_sum (ts : List Nat) : ∀ (l : List (List Nat)) (i : Nat), ((l.set i (l.getD i [] ++ ts)).map List.length).sum ≤ (l.map List.length).sum + ts.length
  | [], i => by simp
  | x :: r, 0 => by simp; omega
  | x :: r, i + 1 => by
    have := Ng.set_sum ts r i
    simp only [List.getD_cons_succ, List.set_cons_succ, List.map_cons, List.sum_cons]
    omega
theorem Ng.tot_join (M : Nf.Mach) (i : Nat) (ts : List Nat) : Ng.tot (M.join i ts) ≤ Ng.tot M + ts.length := Ng.set_sum ts M.free i
theorem Ng.le_sum : ∀ (l : List (List Nat)) (i : Nat) (h : i < l.length), l[i].length ≤ (l.map List.length).sum
  | x :: r, 0, h => by simp
  | x :: r, i + 1, h => by
    have := Ng.le_sum r i (by simpa using h)
    simp only [List.getElem_cons_succ, List.map_cons, List.sum_cons]
    omega
theorem Ng.le_tot (M : Nf.Mach) (i : Nat) (h : i < M.free.length) : M.free[i].length ≤ Ng.tot M := Ng.le_sum M.free i h
structure Ng.Grow (M M' : Nf.Mach) (p t o : Nat) : Prop where
  lo : M.free.length ≤ M'.free.length
  hi : M'.free.length ≤ M.free.length + p
  tot : Ng.tot M' ≤ Ng.tot M + t
  one : M'.ones.length ≤ M.ones.length + o
theorem Ng.Grow.trans {M M' M'' : Nf.Mach} {p t o p' t' o' : Nat} (h : Ng.Grow M M' p t o) (h' : Ng.Grow M' M'' p' t' o') {p'' t'' o'' : Nat} (hp : p + p' ≤ p'') (ht : t + t' ≤ t'') (ho : o + o' ≤ o'') : Ng.Grow M M'' p'' t'' o'' := by
  obtain ⟨a, b, c, d⟩ := h
  obtain ⟨a', b', c', d'⟩ := h'
  exact ⟨by omega, by omega, by omega, by omega⟩
theorem Ng.grow_place (M : Nf.Mach) : Ng.Grow M M.place 1 0 0 := ⟨by simp [Nf.Mach.place], by simp [Nf.Mach.place], by rw [Ng.tot_place]; omega, by simp [Nf.Mach.place]⟩
theorem Ng.grow_join (M : Nf.Mach) (i : Nat) (ts : List Nat) : Ng.Grow M (M.join i ts) 0 ts.length 0 := ⟨by simp [Nf.Mach.join], by simp [Nf.Mach.join], Ng.tot_join M i ts, by simp [Nf.Mach.join]⟩
theorem Ng.grow_refl (M : Nf.Mach) (p t o : Nat) : Ng.Grow M M p t o := ⟨by omega, by omega, by omega, by omega⟩
mutual
theorem Ng.grow_lay : ∀ (x : Rx) (a b : Nat) (M : Nf.Mach), Ng.Grow M (Nf.lay x a b M) (3 * x.size - 1) (4 * x.size) x.size
  | .node 0 f l, a, b, M => by
    simp only [Nf.lay, Rx.size]
    exact (Ng.grow_join M a [b]).trans (Ng.grow_refl _ 0 0 0) (by omega) (by simp; omega) (by omega)
  | .node 1 f l, a, b, M => by
    simp only [Nf.lay, Rx.size]
    exact ⟨by simp, by simp, by simp [Ng.tot], by simp⟩
  | .node 2 f l, a, b, M => by
    have := Ng.grow_layC l a b M
    simp only [Nf.lay, Rx.size]
    exact this.trans (Ng.grow_refl _ 0 0 0) (by omega) (by omega) (by omega)
  | .node 3 f l, a, b, M => by
    have := Ng.grow_layA l a b M
    simp only [Nf.lay, Rx.size]
    exact this.trans (Ng.grow_refl _ 0 0 0) (by omega) (by omega) (by omega)
  | .node (k + 4) f l, a, b, M => by
    have := Ng.grow_layS l a b M
    simp only [Nf.lay, Rx.size]
    exact this.trans (Ng.grow_refl _ 0 0 0) (by omega) (by omega) (by omega)
theorem Ng.grow_layC : ∀ (l : List Rx) (a b : Nat) (M : Nf.Mach), Ng.Grow M (Nf.layC l a b M) (3 * Rx.sizeL l) (4 * Rx.sizeL l + 1) (Rx.sizeL l)
  | [], a, b, M => by
    simp only [Nf.layC, Rx.sizeL]
    exact (Ng.grow_join M a [b]).trans (Ng.grow_refl _ 0 0 0) (by omega) (by simp) (by omega)
  | x :: r, a, b, M => by
    have h1 := Ng.grow_lay x a M.free.length M.place
    have h2 := Ng.grow_layC r M.free.length b (Nf.lay x a M.free.length M.place)
    have hs := x.size_pos
    simp only [Nf.layC, Rx.sizeL]
    exact ((Ng.grow_place M).trans h1 (Nat.le_refl _) (Nat.le_refl _) (Nat.le_refl _)).trans h2 (by omega) (by omega) (by omega)
theorem Ng.grow_layA : ∀ (l : List Rx) (a b : Nat) (M : Nf.Mach), Ng.Grow M (Nf.layA l a b M) (3 * Rx.sizeL l) (4 * Rx.sizeL l) (Rx.sizeL l)
  | [], a, b, M => by
    simp only [Nf.layA, Rx.sizeL]
    exact Ng.grow_refl _ _ _ _
  | x :: r, a, b, M => by
    have h1 := Ng.grow_lay x a b M
    have h2 := Ng.grow_layA r a b (Nf.lay x a b M)
    simp only [Nf.layA, Rx.sizeL]
    exact h1.trans h2 (by omega) (by omega) (by omega)
theorem Ng.grow_layS : ∀ (l : List Rx) (a b : Nat) (M : Nf.Mach), Ng.Grow M (Nf.layS l a b M) (3 * Rx.sizeL l + 1) (4 * Rx.sizeL l + 4) (Rx.sizeL l)
  | [], a, b, M => by
    simp only [Nf.layS, Rx.sizeL]
    exact Ng.grow_refl _ _ _ _
  | x :: r, a, b, M => by
    have h1 := Ng.grow_lay x M.free.length (M.free.length + 1) M.place.place
    have hs := x.size_pos
    simp only [Nf.layS, Rx.sizeL]
    exact ((((Ng.grow_place M).trans (Ng.grow_place M.place) (Nat.le_refl _) (Nat.le_refl _) (Nat.le_refl _)).trans h1 (Nat.le_refl _) (Nat.le_refl _) (Nat.le_refl _)).trans (Ng.grow_join _ a [M.free.length, b]) (Nat.le_refl _) (Nat.le_refl _) (Nat.le_refl _)).trans (Ng.grow_join _ (M.free.length + 1) [M.free.length, b]) (by simp <;> omega) (by simp <;> omega) (by simp <;> omega)
end
structure Ng.Fit (M : Nf.Mach) (s : Nat) : Prop where
  len : M.free.length + 3 * s ≤ 1000000
  tot : Ng.tot M + 4 * s ≤ 1000000
  one : M.ones.length + s ≤ 1000000
theorem Ng.Fit.grow {M M' : Nf.Mach} {s s' p t o : Nat} (h : Ng.Fit M s) (g : Ng.Grow M M' p t o) (hp : p + 3 * s' ≤ 3 * s) (ht : t + 4 * s' ≤ 4 * s) (ho : o + s' ≤ s) : Ng.Fit M' s' := by
  obtain ⟨a, b, c⟩ := h
  obtain ⟨_, a', b', c'⟩ := g
  exact ⟨by omega, by omega, by omega⟩
def Ng.LPost (w : World) (base r : Nat) (M : Nf.Mach) (fs : List (Nat → Bool)) (tr : List Ng.Tr) (ss es : List Nat) (e : Ending) (w' : World) : Prop := ∃ tr', e = .returned (.tuple #[]) ∧ Ng.At w' base r M tr' ss es ∧ tr'.map (·.1) = tr.map (·.1) ++ fs ∧ Below base w w'
def Ng.LayOk (w0 : World) (x : Rx) : Prop := ∀ (v : Value), Rx.Is w0 x v → ∀ (r : Nat) (M : Nf.Mach) (tr : List Ng.Tr) (ss es : List Nat) (a b : Nat) (w : World), Below w0.heap.size w0 w → Ng.At w w0.heap.size r M tr ss es → a < M.free.length → b < M.free.length → Ng.Fit M x.size → Calls Try.prog 27 #[.pointer (some ⟨r, 0, none⟩), v, .int .i64 a, .int .i64 b] w (Ng.LPost w w0.heap.size r (Nf.lay x a b M) (Rx.sets x) tr ss es)
theorem Ng.sg_one (w : World) (b : Nat) : Rx.Sg (w.alloc (.cells #[.int .i64 b] 3)) (some ⟨w.heap.size, 0, none⟩) (Ng.nums [b]) := Nf.sg_new w b _
theorem Ng.sizeL_drop (l : List Rx) (q : Nat) (h : q < l.length) : Rx.sizeL (l.drop q) = l[q].size + Rx.sizeL (l.drop (q + 1)) := by
  rw [List.drop_eq_getElem_cons h, Rx.sizeL]
theorem Ng.nod_same {w w' : World} {b k : Nat} {f : Nat → Bool} {a : Option Addr} {n cap : Nat} (h : Rx.Nod w b k f a n cap) (e : w'.heap[b]? = w.heap[b]?) : Rx.Cell w' ⟨b, 0, none⟩ k f a n cap :=
  ⟨(World.cell?_of_block (a := ⟨b, 0, none⟩) e).trans h.cell.c0, (World.cell?_of_block (a := ⟨b, 0 + 1, none⟩) e).trans h.cell.c1, (World.cell?_of_block (a := ⟨b, 0 + 2, none⟩) e).trans h.cell.c2, (World.cell?_of_block (a := ⟨b, 0 + 3, none⟩) e).trans h.cell.c3, (World.cell?_of_block (a := ⟨b, 0 + 4, none⟩) e).trans h.cell.c4, (World.cell?_of_block (a := ⟨b, 0 + 5, none⟩) e).trans h.cell.c5⟩
set_option maxRecDepth 100000 in
set_option maxHeartbeats 2000000 in
theorem layRow_of (w0 : World) (l : List Rx) (hok : ∀ y ∈ l, Ng.LayOk w0 y) (al : Option Addr) (cap : Nat) (hl : Rx.InL w0 l al 0) (r : Nat) (M : Nf.Mach) (tr : List Ng.Tr) (ss es : List Nat) (a b : Nat) (w : World) (A : Below w0.heap.size w0 w) (HA : Ng.At w w0.heap.size r M tr ss es) (ha : a < M.free.length) (hb : b < M.free.length) (hF : Ng.Fit M (Rx.sizeL l + 1)) :
    Calls Try.prog 46 #[.pointer (some ⟨r, 0, none⟩), .slice al l.length cap, .int .i64 a, .int .i64 b] w (Ng.LPost w w0.heap.size r (Nf.layC l a b M) (Rx.setsL l) tr ss es) := by
  have hlen := Rx.length_le l
  have hFl := hF.len
  have hFt := hF.tot
  have HOK := Lib.hid hok
  have HL := Lib.hid hl
  have HF := Lib.hid hF
  have HAT := Lib.hid HA
  have HA0 := Lib.hid A
  obtain ⟨n, hn⟩ : ∃ n, l.length = n := ⟨_, rfl⟩
  have HN := Lib.hid hn
  rw [hn] at hlen ⊢
  have hnb : n ≤ 1000000 := by omega
  clear hok hl hF HA hn A
  go_enter Try.func46, Try.ntmps46
  go_wp2_with fail
  go_loopw [2, 13] (fun fr i wr => ∃ (q aq : Nat) (Mq : Nf.Mach) (tq : List Ng.Tr), q ≤ n ∧ i = .int .i64 q ∧ fr = .int .i64 aq ∧ Hid (Nf.layC (l.drop q) aq b Mq = Nf.layC l a b M) ∧ Hid (Ng.At wr w0.heap.size r Mq tq ss es) ∧ Hid (tq.map (·.1) = tr.map (·.1) ++ Rx.setsL (l.take q)) ∧ Hid (Below w0.heap.size w wr) ∧ aq < Mq.free.length ∧ b < Mq.free.length ∧ Hid (Ng.Fit Mq (Rx.sizeL (l.drop q) + 1))) (fun _ i _ => n - (intOf i).toNat)
  case atStart => exact ⟨0, a, M, tr, by omega, rfl, rfl, Lib.hid (by simp), HAT, Lib.hid (by simp [Rx.setsL]), Lib.hid (Below.refl _ _), ha, hb, Lib.hid (by simpa using HF.out)⟩
  case round =>
    clear HAT HF ha hb hFl hFt
    obtain ⟨q, aq, Mq, tq, hq, rfl, rfl, HC, HAT, HTQ, HB, ha, hb, HF⟩ := hrel
    have hbase : w0.heap.size ≤ wr.heap.size := Nat.le_trans HA0.out.size HB.out.size
    by_cases hlt : q < n
    · have hlt' : q < l.length := by rw [HN.out]; exact hlt
      obtain ⟨p, rfl, hp⟩ := HL.out.get q hlt'
      rw [Nat.zero_add] at hp
      have HSD := Lib.hid (Ng.sizeL_drop l q hlt')
      have HTK := Lib.hid (Rx.setsL_take l q hlt')
      have HC2 := Lib.hid (show Nf.layC (l.drop (q + 1)) Mq.free.length b (Nf.lay l[q] aq Mq.free.length Mq.place) = Nf.layC l a b M by
        have := HC.out
        rw [List.drop_eq_getElem_cons hlt', Nf.layC] at this
        exact this)
      have OK := Lib.hid (HOK.out l[q] (List.getElem_mem hlt'))
      generalize l[q] = y at *
      have A := Below.trans HA0.out HB.out
      obtain ⟨k1, f1, a1, n1, cap1, ⟨x0, x1, x2, x3, x4, x5⟩, hi⟩ := hp.open
      replace x0 := Bs.cell_up A x0; replace x1 := Bs.cell_up A x1; replace x2 := Bs.cell_up A x2; replace x3 := Bs.cell_up A x3; replace x4 := Bs.cell_up A x4; replace x5 := Bs.cell_up A x5
      have HI := Lib.hid hi
      clear hp hi
      unfold Rx.hdr at HI
      have B1 := Bs.below1 wr (.cells #[.int .u8 k1, .int .u64 (Bs.word f1 0), .int .u64 (Bs.word f1 1), .int .u64 (Bs.word f1 2), .int .u64 (Bs.word f1 3), .slice a1 n1 cap1] 28)
      have HX := Lib.hid (HAT.out.new B1)
      have HND := Lib.hid (Rx.nod_new wr k1 f1 a1 n1 cap1)
      have hbs : w0.heap.size ≤ (wr.alloc (.cells #[.int .u8 k1, .int .u64 (Bs.word f1 0), .int .u64 (Bs.word f1 1), .int .u64 (Bs.word f1 2), .int .u64 (Bs.word f1 3), .slice a1 n1 cap1] 28)).heap.size := Nat.le_trans hbase B1.size
      have hpl : wr.heap.size < (wr.alloc (.cells #[.int .u8 k1, .int .u64 (Bs.word f1 0), .int .u64 (Bs.word f1 1), .int .u64 (Bs.word f1 2), .int .u64 (Bs.word f1 3), .slice a1 n1 cap1] 28)).heap.size := by simp
      have hsd := HSD.out
      have hFl := HF.out.len
      have hys := y.size_pos
      have C := Lib.hid (place_any _ w0.heap.size r wr.heap.size Mq tq ss es HX.out hpl hbs (by omega))
      have HA1 := Lib.hid (Below.trans HA0.out (HB.out.trans (B1.mono hbase)))
      have HB1 := Lib.hid (HB.out.trans (B1.mono hbase))
      have i1 : (0 : Int) ≤ (q : Int) := by omega
      have i2 : (q : Int) < (n : Int) := by omega
      have e1 : decide ((q : Int) < (n : Int)) = true := decide_eq_true (by omega)
      have e2 : decide (q < n) = true := decide_eq_true hlt
      clear B1 A hsd
      go_wp2_with fail
      refine C.out.mono ?_
      rintro e w1 ⟨rfl, X1, b1, hp1⟩
      obtain ⟨y0, y1, y2, y3, y4, y5⟩ := Ng.nod_same HND.out hp1
      simp only [Nat.zero_add] at y1 y2 y3 y4 y5
      have HB2 := Lib.hid (HB1.out.trans b1)
      have HFQ := Lib.hid (show Ng.Fit Mq.place y.size from HF.out.grow (Ng.grow_place Mq) (by rw [HSD.out]; omega) (by rw [HSD.out]; omega) (by rw [HSD.out]; omega))
      have hpl2 : aq < Mq.place.free.length ∧ Mq.free.length < Mq.place.free.length ∧ b < Mq.place.free.length := by simp [Nf.Mach.place]; omega
      have C2 := Lib.hid (OK.out _ HI.out r Mq.place tq ss es aq Mq.free.length w1 (HA0.out.trans HB2.out) X1.at hpl2.1 hpl2.2.1 HFQ.out)
      have HGL := Lib.hid (Ng.grow_lay y aq Mq.free.length Mq.place)
      clear C HX HND X1 b1 hp1 HFQ x0 x1 x2 x3 x4 x5
      go_wp2_with fail
      refine C2.out.mono ?_
      rintro e w2 ⟨t2, rfl, X2, ht2, b2⟩
      have HX2 := Lib.hid X2
      have HT2 := Lib.hid ht2
      have HB3 := Lib.hid (HB2.out.trans b2)
      have hlo := HGL.out.lo
      clear C2 X2 ht2 b2 y0 y1 y2 y3 y4 y5
      go_wp2_with fail
      go_roundw
      case rel =>
        refine ⟨q + 1, Mq.free.length, _, t2, by omega, by go_num, rfl, HC2, HX2, Lib.hid ?_, HB3, by omega, by omega, Lib.hid ?_⟩
        · rw [HT2.out, HTQ.out, HTK.out, List.append_assoc]
        · have g2 := (Ng.grow_place Mq).trans HGL.out (Nat.le_refl _) (Nat.le_refl _) (Nat.le_refl _)
          exact HF.out.grow g2 (by rw [HSD.out]; omega) (by rw [HSD.out]; omega) (by rw [HSD.out]; omega)
      case measure => simp [intOf]; omega
    · have hd : l.drop q = [] := List.drop_eq_nil_of_le (by rw [HN.out]; omega)
      have ht : l.take q = l := List.take_of_length_le (by rw [HN.out]; omega)
      have hc := HC.out
      have hf := HF.out
      have htq := HTQ.out
      rw [hd] at hc hf
      rw [ht] at htq
      rw [Nf.layC] at hc
      have HC3 := Lib.hid hc
      have HTQ2 := Lib.hid htq
      have B1 := Bs.below1 wr (.cells #[.int .i64 b] 3)
      have hlen1 := hf.len
      have htot := hf.tot
      have hbs : w0.heap.size ≤ (wr.alloc (.cells #[.int .i64 b] 3)).heap.size := Nat.le_trans hbase B1.size
      have C := Lib.hid (join_any _ w0.heap.size r Mq tq ss es (HAT.out.up B1) hbs (by omega) aq ha (by have := Ng.le_tot Mq aq ha; omega) [b] (by simp) (by simp) ⟨wr.heap.size, 0, none⟩ 1 (Ng.sg_one wr b))
      have HB1 := Lib.hid (HB.out.trans (B1.mono hbase))
      have e1 : decide ((q : Int) < (n : Int)) = false := decide_eq_false (by omega)
      have e2 : decide (q < n) = false := decide_eq_false hlt
      clear hd ht hc hf htq B1 hlen1 htot
      go_wp2_with fail
      refine C.out.mono ?_
      rintro e w1 ⟨rfl, X1, b1⟩
      have HX1 := Lib.hid X1
      have HB2 := Lib.hid (HB1.out.trans b1)
      clear C X1 b1
      go_wp2_with fail
      go_end0
      exact ⟨tq, rfl, by rw [← HC3.out]; exact HX1.out, HTQ2.out, HB2.out⟩
open Go.RowKit
theorem Ng.infoOne : (Try.prog.info? 107).map (fun i => (i.zero, i.size, i.bytes)) = some (some (.agg #[.int .u64 0, .int .u64 0, .int .u64 0, .int .u64 0, .int .i64 0, .int .i64 0]), 6, 48) := by kernel_rfl
def Ng.OP (w : World) (base r : Nat) (col : Nat → Nat) (vf vo vs ve : Value) (rows : List Value) (M : Nf.Mach) (tr : List Ng.Tr) (ss es : List Nat) (o : Ng.Tr) (v : Value) (u : World) : Prop :=
  ∃ (x : World) (g cap : Nat), v = .slice (some ⟨g, 0, none⟩) (tr.length + 1) cap ∧ Ng.Mem x base r col vf vo vs ve rows M tr ss es ∧ Below w.heap.size w x ∧ x.grownBy u vo.ownBlock ∧ u.ownsRow base 107 6 v (tr.length + 1) (Ng.sixes tr ++ Ng.six o) ∧ (vo.ownBlock = some g ∨ g = x.heap.size)
theorem Ng.grown_up {x u u' : World} {row : Option Nat} (h : x.grownBy u row) (hb : Below u.heap.size u u') : x.grownBy u' row :=
  ⟨hb.os.trans h.os, hb.tape.trans h.tape, hb.output.trans h.output, Nat.le_trans h.size hb.size, fun k hk hr => (hb.block k (Nat.lt_of_lt_of_le hk h.size)).trans (h.block k hk hr)⟩
theorem Ng.OP.up {w : World} {base r : Nat} {col : Nat → Nat} {vf vo vs ve : Value} {rows : List Value} {M : Nf.Mach} {tr : List Ng.Tr} {ss es : List Nat} {o : Ng.Tr} {v : Value} {u u' : World} (h : Ng.OP w base r col vf vo vs ve rows M tr ss es o v u) (hb : Below u.heap.size u u') : Ng.OP w base r col vf vo vs ve rows M tr ss es o v u' := by
  obtain ⟨x, g, cap, e, h1, h2, h3, h4, h5⟩ := h
  exact ⟨x, g, cap, e, h1, h2, Ng.grown_up h3 hb, Bs.row_up h4 hb, h5⟩
def Ng.MO (vo : Value) (k : Nat) (u u' : World) : Prop := (k = 11 ∧ u.grownBy u' vo.ownBlock) ∨ Below u.heap.size u u'
def Ng.BO (vo : Value) (o : Ng.Tr) (v : Value) (u : World) : Prop := ∃ B, v = .slice (some ⟨B, 0, none⟩) 1 1 ∧ u.heap[B]? = some (.cells (Ng.six o).toArray 107) ∧ vo.ownBlock ≠ some B
def Ng.relO (r p a b : Nat) (f : Nat → Bool) (vo : Value) (P : Value → World → Prop) : List (Value → World → Prop) :=
  [fun v _ => v = .pointer (some ⟨r, 0, none⟩), fun v _ => v = .pointer (some ⟨r, 0, none⟩), fun v _ => v = .pointer (some ⟨r, 0, none⟩), fun v _ => v = .pointer (some ⟨r, 1, none⟩), fun v _ => v = vo,
   fun v _ => v = .pointer (some ⟨p, 1, none⟩), fun v _ => v = Bs.val f, fun v _ => v = .int .i64 a, fun v _ => v = .int .i64 b, fun v _ => v = .agg (Ng.six (f, a, b)).toArray,
   Ng.BO vo (f, a, b), P, fun v _ => v = .pointer (some ⟨r, 0, none⟩), fun v _ => v = .pointer (some ⟨r, 1, none⟩)]
theorem Ng.relO_up {r p a b : Nat} {f : Nat → Bool} {vo : Value} {P : Value → World → Prop} (hP : ∀ v u u', P v u → Below u.heap.size u u' → P v u') {k j : Nat} {v : Value} {w w' : World} (hjk : j ≠ k) (h : Rg.rel (Ng.relO r p a b f vo P) j v w) (hb : Ng.MO vo k w w') : Rg.rel (Ng.relO r p a b f vo P) j v w' := by
  match j, h with
  | 0, h => exact h
  | 1, h => exact h
  | 2, h => exact h
  | 3, h => exact h
  | 4, h => exact h
  | 5, h => exact h
  | 6, h => exact h
  | 7, h => exact h
  | 8, h => exact h
  | 9, h => exact h
  | 10, h =>
    obtain ⟨B, e, h1, h2⟩ := h
    refine ⟨B, e, ?_, h2⟩
    have hB : B < w.heap.size := (Array.getElem?_eq_some_iff.1 h1).1
    rcases hb with ⟨_, hg⟩ | hb
    · rw [hg.block B hB (fun e => h2 e.symm)]; exact h1
    · rw [hb.block B hB]; exact h1
  | 11, h =>
    rcases hb with ⟨e, _⟩ | hb
    · exact absurd e.symm hjk
    · exact hP _ _ _ h hb
  | 12, h => exact h
  | 13, h => exact h
  | n + 14, h => exact h
structure Ng.WO (w : World) (r p : Nat) (f : Nat → Bool) (vo : Value) (L : Nat → Bool) (u : World) : Prop where
  c1 : u.cell? ⟨r, 1, none⟩ = some vo
  z1 : u.frozen? ⟨r, 1, none⟩ = false
  p1 : u.cell? ⟨p, 1, none⟩ = some (.int .u64 (Bs.word f 0))
  p2 : u.cell? ⟨p, 2, none⟩ = some (.int .u64 (Bs.word f 1))
  p3 : u.cell? ⟨p, 3, none⟩ = some (.int .u64 (Bs.word f 2))
  p4 : u.cell? ⟨p, 4, none⟩ = some (.int .u64 (Bs.word f 3))
  is : L 11 = false → Below w.heap.size w u
theorem Ng.WO.on {w : World} {r p : Nat} {f : Nat → Bool} {vo : Value} {L : Nat → Bool} {u : World} (h : Ng.WO w r p f vo L u) (j : Nat) (hj : j ≠ 11) : Ng.WO w r p f vo (fun k => decide (k = j) || L k) u :=
  ⟨h.c1, h.z1, h.p1, h.p2, h.p3, h.p4, fun e => h.is (by simpa [Ne.symm hj] using e)⟩
theorem Ng.WO.up {w : World} {r p : Nat} {f : Nat → Bool} {vo : Value} {L : Nat → Bool} {u u' : World} (h : Ng.WO w r p f vo L u) (hb : Below u.heap.size u u') : Ng.WO w r p f vo L u' :=
  ⟨Bs.cell_up hb h.c1, by rw [hb.frozen (World.block_lt_of_cell? u _ h.c1)]; exact h.z1, Bs.cell_up hb h.p1, Bs.cell_up hb h.p2, Bs.cell_up hb h.p3, Bs.cell_up hb h.p4, fun e => Bs.below_up (h.is e) hb⟩
theorem Nf.add_zero' (a : Addr) : a.add 0 = a := by unfold Addr.add; rw [if_pos rfl]
theorem Ng.sg_one' (w : World) (b n : Nat) (hn : n = w.heap.size) : Rx.Sg (w.alloc (.cells #[.int .i64 b] 3)) (some ⟨n, 0, none⟩) (Ng.nums [b]) := hn ▸ Nf.sg_new w b _
theorem Ng.sg_two (w : World) (a b : Nat) : Rx.Sg (w.alloc (.cells #[.int .i64 a, .int .i64 b] 3)) (some ⟨w.heap.size, 0, none⟩) (Ng.nums [a, b]) := fun i hi => by
  have : i = 0 ∨ i = 1 := by simp at hi; omega
  rcases this with rfl | rfl
  · exact ⟨_, rfl, by simp [go_sem, Addr.add]⟩
  · exact ⟨_, rfl, by simp [go_sem, Addr.add]⟩
set_option maxRecDepth 100000 in
set_option maxHeartbeats 1000000 in
theorem lay_any (w0 : World) : ∀ (m : Nat) (x : Rx), x.size ≤ m → x.wf = true → Ng.LayOk w0 x := by
  intro m
  induction m with
  | zero => intro x h; have := x.size_pos; omega
  | succ m ih =>
    rintro ⟨k, f, l⟩ hm hw v hx r M tr ss es a b w A HA ha hb hF
    obtain ⟨hk, al, cap, rfl, hl⟩ := hx
    simp only [Rx.size] at hm hF
    simp only [Rx.wf, Bool.and_eq_true, decide_eq_true_eq] at hw
    obtain ⟨⟨⟨hk4, hw0⟩, hw1⟩, hwl⟩ := hw
    have hle := Rx.length_le l
    have OK := Lib.hid (show ∀ y ∈ l, Ng.LayOk w0 y from fun y hy => ih y (by have := (Rx.part_le hy).1; omega) (Rx.wfL_all.1 hwl y hy))
    have HL := Lib.hid hl
    have HWK := Lib.hid hw1
    have HW0 := Lib.hid hw0
    clear ih hl hwl hw1 hw0
    have HF := Lib.hid hF
    have HA0 := Lib.hid A
    have hFl := hF.len
    have hFt := hF.tot
    have hFo := hF.one
    have hsz := A.size
    obtain ⟨n, hn⟩ : ∃ n, l.length = n := ⟨_, rfl⟩
    have HN := Lib.hid hn
    unfold Rx.hdr
    rw [hn] at hle ⊢
    clear hn hF A
    have B1 := Bs.below1 w (.cells #[.int .u8 k, .int .u64 (Bs.word f 0), .int .u64 (Bs.word f 1), .int .u64 (Bs.word f 2), .int .u64 (Bs.word f 3), .slice al n cap] 28)
    have N := Rx.nod_new w k f al n cap
    have HND := Lib.hid N
    have HX := Lib.hid (HA.new B1)
    have HA1 := Lib.hid (HA.up B1)
    have HB1 := Lib.hid (B1.mono hsz)
    have HBW := Lib.hid B1
    have hsz1 : w0.heap.size ≤ (w.alloc (.cells #[.int .u8 k, .int .u64 (Bs.word f 0), .int .u64 (Bs.word f 1), .int .u64 (Bs.word f 2), .int .u64 (Bs.word f 3), .slice al n cap] 28)).heap.size := Nat.le_trans hsz B1.size
    have hpl : w.heap.size < (w.alloc (.cells #[.int .u8 k, .int .u64 (Bs.word f 0), .int .u64 (Bs.word f 1), .int .u64 (Bs.word f 2), .int .u64 (Bs.word f 3), .slice al n cap] 28)).heap.size := by simp
    have c0 := N.cell.c0; have c1 := N.cell.c1; have c2 := N.cell.c2; have c3 := N.cell.c3; have c4 := N.cell.c4; have c5 := N.cell.c5
    simp only [Nat.zero_add] at c0 c1 c2 c3 c4 c5
    have HHA := Lib.hid HA
    clear B1 N HA
    go_enter Try.func27, Try.ntmps27
    rcases (show k = 0 ∨ k = 1 ∨ k = 2 ∨ k = 3 ∨ k = 4 by omega) with hk0 | hk0 | hk0 | hk0 | hk0
    · have hl0 : l = [] := by
        have := HW0.out
        simp [hk0] at this
        exact this
      have HS := Lib.hid (show Rx.sets (.node k f l) = [] by rw [hl0, hk0]; simp [Rx.sets, Rx.setsL])
      have HLY := Lib.hid (show Nf.lay (.node k f l) a b M = M.join a [b] by rw [hk0, Nf.lay])
      have e09 : ((k : Int) == 0) = true := by simp; omega
      clear hl0 hk0
      have B2 := Bs.below1 (w.alloc (.cells #[.int .u8 k, .int .u64 (Bs.word f 0), .int .u64 (Bs.word f 1), .int .u64 (Bs.word f 2), .int .u64 (Bs.word f 3), .slice al n cap] 28)) (.cells #[.int .i64 b] 3)
      have hbs := Nat.le_trans hsz1 B2.size
      have C := Lib.hid (join_any _ w0.heap.size r M tr ss es (HA1.out.up B2) hbs (by omega) a ha (by have := Ng.le_tot M a ha; omega) [b] (by simp) (by simp) ⟨w.heap.size + 1, 0, none⟩ 1 (Ng.sg_one' _ b _ (by simp)))
      have HB2 := Lib.hid (HB1.out.trans (B2.mono hsz1))
      clear B2
      go_wp2_with fail
      refine C.out.mono ?_
      rintro e w1 ⟨rfl, X1, b1⟩
      have HX1 := Lib.hid X1
      have HB3 := Lib.hid (HB2.out.trans b1)
      clear C X1 b1
      go_wp2_with fail
      go_end0
      exact ⟨tr, rfl, by rw [HLY.out]; exact HX1.out, by rw [HS.out, List.append_nil], HB3.out⟩
    · have hl0 : l = [] := by
        have := HW0.out
        simp [hk0] at this
        exact this
      have HS := Lib.hid (show Rx.sets (.node k f l) = [f] by rw [hk0]; simp [Rx.sets])
      have HLY := Lib.hid (show Nf.lay (.node k f l) a b M = { M with ones := M.ones ++ [(a, b)] } by rw [hk0, Nf.lay])
      have e09 : ((k : Int) == 0) = false := by simp; omega
      have e19 : ((k : Int) == 1) = true := by simp; omega
      clear hl0 hk0
      obtain ⟨col, vf, vo, vs, ve, rows, HM⟩ := HHA.out
      have HMU := Lib.hid (HM.up HBW.out)
      have hvo := HM.oo
      have hvl : ∀ j, vo.ownBlock = some j → w0.heap.size ≤ j ∧ j < w.heap.size := fun j hj => HM.oo.lt j hj
      obtain ⟨ao, no, co, hvf⟩ : ∃ ao no co, vo = .slice ao no co := by
        rcases hvo.2 with ⟨h0, _⟩ | ⟨g, cap, cur, e, _⟩
        · exact ⟨_, _, _, h0⟩
        · exact ⟨_, _, _, e⟩
      have hrl := HM.lt
      have HVL := Lib.hid hvl
      have HRB := Lib.hid HM.rb
      have htl : tr.length ≤ 1000000 := by
        have := congrArg List.length HM.ons
        rw [List.length_map] at this
        omega
      have z1 := HMU.out.z 1 (by decide)
      have W0 : Ng.WO (w.alloc (.cells #[.int .u8 k, .int .u64 (Bs.word f 0), .int .u64 (Bs.word f 1), .int .u64 (Bs.word f 2), .int .u64 (Bs.word f 3), .slice al n cap] 28)) r w.heap.size f vo (fun _ => false) (w.alloc (.cells #[.int .u8 k, .int .u64 (Bs.word f 0), .int .u64 (Bs.word f 1), .int .u64 (Bs.word f 2), .int .u64 (Bs.word f 3), .slice al n cap] 28)).drew := ⟨HMU.out.c1, z1, c1, c2, c3, c4, fun _ => (Below.refl _ _).drew⟩
      have HCOL := Lib.hid (show ∀ j, vo.ownBlock = some j → j ≠ r from fun j hj e => by
        have h1 := HM.ko j hj
        have h2 := HM.cr
        rw [e, h2] at h1
        omega)
      have d1 := HMU.out.c1
      rw [hvf] at d1
      have HVF := Lib.hid hvf
      clear HM hvo hvl hvf z1
      go_upto_region 5 with fail
      generalize hU : (w.alloc (.cells #[.int .u8 k, .int .u64 (Bs.word f 0), .int .u64 (Bs.word f 1), .int .u64 (Bs.word f 2), .int .u64 (Bs.word f 3), .slice al n cap] 28)) = U at *
      have HU := Lib.hid hU
      clear c0 c1 c2 c3 c4 c5 d1 hU
      refine Rg.regionZ (by kernel_rfl) (by kernel_rfl) (by kernel_rfl) (by decide) (Rg.rel (Ng.relO r w.heap.size a b f vo (Ng.OP U w0.heap.size r col vf vo vs ve rows M tr ss es (f, a, b)))) (Ng.WO U r w.heap.size f vo) (Ng.MO vo) (fun _ _ => False) (fun c b x _ h => h.elim) (fun i j v w w' hij h hb => Ng.relO_up (fun v u u' h hb => h.up hb) hij h hb) W0 ⟨?_, ?_, ?_, ?_, ?_, ?_, ?_, ?_, ?_, ?_, ?_, ?_, ?_, ?_, trivial⟩ ?_
      · intro L f' x hL hw hd
        have HW := Lib.hid hw
        clear hw hd
        simp only [Rg.stepZ, Rg.all, Act.put, List.setIfInBounds_toArray, List.set_cons_zero, List.set_cons_succ]
        go_simp
        exact ⟨rfl, HW.out.on 0 (by decide), .inr (Below.refl _ _)⟩
      · intro L f' x hL hw hd
        have HW := Lib.hid hw
        clear hw hd
        simp only [Rg.stepZ, Rg.all, Act.put, List.setIfInBounds_toArray, List.set_cons_zero, List.set_cons_succ]
        go_simp
        exact ⟨rfl, HW.out.on 1 (by decide), .inr (Below.refl _ _)⟩
      · intro L f' x hL hw hd
        have r1 : f' 1 = .pointer (some ⟨r, 0, none⟩) := (hd _ (List.mem_cons_self ..)).2
        have HW := Lib.hid hw
        clear hw hd
        simp only [Rg.stepZ, Rg.all, Act.put, List.setIfInBounds_toArray, List.set_cons_zero, List.set_cons_succ]
        go_simp
        exact ⟨rfl, HW.out.on 2 (by decide), .inr (Below.refl _ _)⟩
      · intro L f' x hL hw hd
        have r2 : f' 2 = .pointer (some ⟨r, 0, none⟩) := (hd _ (List.mem_cons_self ..)).2
        have HW := Lib.hid hw
        clear hw hd
        simp only [Rg.stepZ, Rg.all, Act.put, List.setIfInBounds_toArray, List.set_cons_zero, List.set_cons_succ]
        go_simp
        exact ⟨rfl, HW.out.on 3 (by decide), .inr (Below.refl _ _)⟩
      · intro L f' x hL hw hd
        have r3 : f' 3 = .pointer (some ⟨r, 1, none⟩) := (hd _ (List.mem_cons_self ..)).2
        have c1 := hw.c1
        rw [HVF.out] at c1
        have HW := Lib.hid hw
        clear hw hd
        simp only [Rg.stepZ, Rg.all, Act.put, List.setIfInBounds_toArray, List.set_cons_zero, List.set_cons_succ]
        go_simp
        exact ⟨by rw [HVF.out]; exact rfl, HW.out.on 4 (by decide), .inr (Below.refl _ _)⟩
      · intro L f' x hL hw hd
        have HW := Lib.hid hw
        clear hw hd
        simp only [Rg.stepZ, Rg.all, Act.put, List.setIfInBounds_toArray, List.set_cons_zero, List.set_cons_succ]
        go_simp
        exact ⟨rfl, HW.out.on 5 (by decide), .inr (Below.refl _ _)⟩
      · intro L f' x hL hw hd
        have r5 : f' 5 = .pointer (some ⟨w.heap.size, 1, none⟩) := (hd _ (List.mem_cons_self ..)).2
        have p1 := hw.p1
        have p2 := hw.p2
        have p3 := hw.p3
        have p4 := hw.p4
        have HW := Lib.hid hw
        clear hw hd
        simp only [Rg.stepZ, Rg.all, Act.put, List.setIfInBounds_toArray, List.set_cons_zero, List.set_cons_succ]
        go_simp
        exact ⟨rfl, HW.out.on 6 (by decide), .inr (Below.refl _ _)⟩
      · intro L f' x hL hw hd
        have HW := Lib.hid hw
        clear hw hd
        simp only [Rg.stepZ, Rg.all, Act.put, List.setIfInBounds_toArray, List.set_cons_zero, List.set_cons_succ]
        go_simp
        exact ⟨rfl, HW.out.on 7 (by decide), .inr (Below.refl _ _)⟩
      · intro L f' x hL hw hd
        have HW := Lib.hid hw
        clear hw hd
        simp only [Rg.stepZ, Rg.all, Act.put, List.setIfInBounds_toArray, List.set_cons_zero, List.set_cons_succ]
        go_simp
        exact ⟨rfl, HW.out.on 8 (by decide), .inr (Below.refl _ _)⟩
      · intro L f' x hL hw hd
        have r6 : f' 6 = Bs.val f := (hd _ (List.mem_cons_self ..)).2
        have r7 : f' 7 = .int .i64 a := (hd _ (List.mem_cons_of_mem _ (List.mem_cons_self ..))).2
        have r8 : f' 8 = .int .i64 b := (hd _ (List.mem_cons_of_mem _ (List.mem_cons_of_mem _ (List.mem_cons_self ..)))).2
        unfold Bs.val at r6
        have HW := Lib.hid hw
        clear hw hd
        simp only [Rg.stepZ, Rg.all, Act.put, List.setIfInBounds_toArray, List.set_cons_zero, List.set_cons_succ]
        go_simp
        exact ⟨rfl, HW.out.on 9 (by decide), .inr (Below.refl _ _)⟩
      · intro L f' x hL hw hd
        have r9 : f' 9 = .agg (Ng.six (f, a, b)).toArray := (hd _ (List.mem_cons_self ..)).2
        simp only [Ng.six] at r9
        have hxs : vo.ownBlock ≠ some x.heap.size := fun e => by
          have h1 := (HVL.out _ e).2
          have h2 := World.block_lt_of_cell? x _ hw.p1
          simp at h2
          omega
        have HW := Lib.hid hw
        clear hw hd
        simp only [Rg.stepZ, Rg.all, Act.put, List.setIfInBounds_toArray, List.set_cons_zero, List.set_cons_succ]
        go_simp
        exact ⟨⟨x.heap.size, rfl, heap_alloc_new x _, hxs⟩, (HW.out.up (Bs.below1 x _)).on 10 (by decide), .inr (Bs.below1 x _)⟩
      · intro L f' x hL hw hd
        have r4 : f' 4 = vo := (hd _ (List.mem_cons_self ..)).2
        obtain ⟨B, r10, hB, hBo⟩ := (hd _ (List.mem_cons_of_mem _ (List.mem_cons_self ..))).2
        simp only [Rg.all, Act.put, List.setIfInBounds_toArray, List.set_cons_zero, List.set_cons_succ]
        have hb := hw.is hL
        have HX := HMU.out.up hb
        have hbx : w0.heap.size ≤ x.heap.size := Nat.le_trans hsz1 hb.size
        obtain ⟨iI, hiI, hz0, hz1, hz2⟩ := info_parts Ng.infoOne
        refine Rg.stepZ_append _ _ 63 rfl w0.heap.size 107 iI _ 6 48 Try.underlying63 hiI hz0 hz1 hz2 rfl (by decide) vo tr.length (Ng.sixes tr) r4 HX.oo ⟨B, 0, none⟩ 1 1 (Ng.six (f, a, b)) r10 rfl (World.news_of_block hB) (by simp [Ng.six, Value.oneCell']) (by decide) (by unfold maxLen; omega) (by omega) hbx ?_
        intro g cp x1 o1 o2 o3 o4
        have hP : ¬ vo.ownBlock = some w.heap.size := fun e => by have := (HVL.out _ e).2; omega
        have hR : ¬ vo.ownBlock = some r := fun e => HCOL.out r e rfl
        refine ⟨⟨x, g, cp, rfl, HX, hb, o2, o1, o3⟩, ⟨o2.cell hw.c1 (fun e => hR e.symm), ?_, o2.cell hw.p1 (fun e => hP e.symm), o2.cell hw.p2 (fun e => hP e.symm), o2.cell hw.p3 (fun e => hP e.symm), o2.cell hw.p4 (fun e => hP e.symm), fun e => by simp at e⟩, .inl ⟨rfl, o2⟩⟩
        rw [(Ng.Only.of_grown o2).frozen (Nat.lt_of_lt_of_le (HMU.out.lt) hb.size) hR]; exact hw.z1
      · intro L f' x hL hw hd
        have r0 : f' 0 = .pointer (some ⟨r, 0, none⟩) := (hd _ (List.mem_cons_self ..)).2
        have HW := Lib.hid hw
        clear hw hd
        simp only [Rg.stepZ, Rg.all, Act.put, List.setIfInBounds_toArray, List.set_cons_zero, List.set_cons_succ]
        go_simp
        exact ⟨rfl, HW.out.on 12 (by decide), .inr (Below.refl _ _)⟩
      · intro L f' x hL hw hd
        have r12 : f' 12 = .pointer (some ⟨r, 0, none⟩) := (hd _ (List.mem_cons_self ..)).2
        have HW := Lib.hid hw
        clear hw hd
        simp only [Rg.stepZ, Rg.all, Act.put, List.setIfInBounds_toArray, List.set_cons_zero, List.set_cons_succ]
        go_simp
        exact ⟨rfl, HW.out.on 13 (by decide), .inr (Below.refl _ _)⟩
      · intro L f' x hall hw hR o ho
        obtain ⟨y, g, cp, r11, HY, hby, hgy, hoy, hly⟩ : Ng.OP U w0.heap.size r col vf vo vs ve rows M tr ss es (f, a, b) (f' 11) x := hR 11 (by decide)
        have r13 : f' 13 = .pointer (some ⟨r, 1, none⟩) := hR 13 (by decide)
        simp at ho
        subst ho
        simp only [Rg.stepZ, Rg.all, Act.put, List.setIfInBounds_toArray, List.set_cons_zero, List.set_cons_succ]
        rw [r11] at hoy
        have hoy2 : x.ownsRow w0.heap.size 107 6 (.slice (some ⟨g, 0, none⟩) (tr.length + 1) cp) (tr ++ [(f, a, b)]).length (Ng.sixes (tr ++ [(f, a, b)])) := by
          rw [Ng.sixes_append, List.length_append]
          have e0 : Ng.sixes [(f, a, b)] = Ng.six (f, a, b) := by simp [Ng.sixes]
          rw [e0]
          exact hoy
        have HF9 := Lib.hid (HY.one (o := (f, a, b)) hgy hoy2 hly)
        have hsy : w0.heap.size ≤ y.heap.size := Nat.le_trans hsz1 hby.size
        have HB9 := Lib.hid (HB1.out.trans ((hby.mono hsz1).trans (Ng.bel hgy (fun k hk => (HVL.out k hk).1) hsy HRB.out 1 (.slice (some ⟨g, 0, none⟩) (tr.length + 1) cp))))
        have d1 := hw.c1
        have z1 := hw.z1
        rw [HVF.out] at d1
        clear hw hR HY hby hgy hoy hly hoy2
        go_simp
        go_wp2_with fail
        go_end0
        exact ⟨tr ++ [(f, a, b)], rfl, by rw [HLY.out]; exact ⟨_, _, _, _, _, _, HF9.out⟩, by rw [HS.out, List.map_append]; rfl, HB9.out⟩
    · have HS := Lib.hid (show Rx.sets (.node k f l) = Rx.setsL l by rw [hk0]; simp [Rx.sets])
      have HLY := Lib.hid (show Nf.lay (.node k f l) a b M = Nf.layC l a b M by rw [hk0, Nf.lay])
      have e09 : ((k : Int) == 0) = false := by simp; omega
      have e19 : ((k : Int) == 1) = false := by simp; omega
      have e29 : ((k : Int) == 2) = true := by simp; omega
      clear hk0
      have C := Lib.hid (layRow_of w0 l OK.out al cap HL.out r M tr ss es a b _ (HA0.out.trans HB1.out) HA1.out ha hb (by rw [Nat.add_comm]; exact HF.out))
      rw [HN.out] at C
      go_wp2_with fail
      refine C.out.mono ?_
      rintro e w1 ⟨t1, rfl, X1, h1, b1⟩
      have HX1 := Lib.hid X1
      have H1 := Lib.hid h1
      have HB3 := Lib.hid (HB1.out.trans b1)
      clear C X1 b1 h1
      go_wp2_with fail
      go_end0
      exact ⟨t1, rfl, by rw [HLY.out]; exact HX1.out, by rw [HS.out]; exact H1.out, HB3.out⟩
    · have HS := Lib.hid (show Rx.sets (.node k f l) = Rx.setsL l by rw [hk0]; simp [Rx.sets])
      have HLY := Lib.hid (show Nf.lay (.node k f l) a b M = Nf.layA l a b M by rw [hk0, Nf.lay])
      have e09 : ((k : Int) == 0) = false := by simp; omega
      have e19 : ((k : Int) == 1) = false := by simp; omega
      have e29 : ((k : Int) == 2) = false := by simp; omega
      have e39 : ((k : Int) == 3) = true := by simp; omega
      clear hk0
      go_wp2_with fail
      generalize (w.alloc (.cells #[.int .u8 k, .int .u64 (Bs.word f 0), .int .u64 (Bs.word f 1), .int .u64 (Bs.word f 2), .int .u64 (Bs.word f 3), .slice al n cap] 28)) = U at *
      clear c0 c1 c2 c3 c4 c5
      go_loopw [50] (fun i wr => ∃ (q : Nat) (Mq : Nf.Mach) (tq : List Ng.Tr), q ≤ n ∧ i = .int .i64 q ∧ Hid (Nf.layA (l.drop q) a b Mq = Nf.layA l a b M) ∧ Hid (Ng.At wr w0.heap.size r Mq tq ss es) ∧ Hid (tq.map (·.1) = tr.map (·.1) ++ Rx.setsL (l.take q)) ∧ Hid (Below w0.heap.size w wr) ∧ a < Mq.free.length ∧ b < Mq.free.length ∧ Hid (Ng.Fit Mq (Rx.sizeL (l.drop q)))) (fun i _ => n - (intOf i).toNat)
      case atStart => exact ⟨0, M, tr, by omega, rfl, Lib.hid (by simp), HA1, Lib.hid (by simp [Rx.setsL]), HB1, ha, hb, Lib.hid (HF.out.grow (Ng.grow_refl M 0 0 0) (by simp <;> omega) (by simp <;> omega) (by simp <;> omega))⟩
      case round =>
        clear HA1 HX HND HBW
        obtain ⟨q, Mq, tq, hq, rfl, HC, HAT, HTQ, HB, ha', hb', HFq⟩ := hrel
        have hbase : w0.heap.size ≤ wr.heap.size := Nat.le_trans HA0.out.size HB.out.size
        by_cases hlt : q < n
        · have hlt' : q < l.length := by rw [HN.out]; exact hlt
          obtain ⟨p, rfl, hp⟩ := HL.out.get q hlt'
          rw [Nat.zero_add] at hp
          have HSD := Lib.hid (Ng.sizeL_drop l q hlt')
          have HTK := Lib.hid (Rx.setsL_take l q hlt')
          have HC2 := Lib.hid (show Nf.layA (l.drop (q + 1)) a b (Nf.lay l[q] a b Mq) = Nf.layA l a b M by
            have := HC.out
            rw [List.drop_eq_getElem_cons hlt', Nf.layA] at this
            exact this)
          have OKy := Lib.hid (OK.out l[q] (List.getElem_mem hlt'))
          generalize l[q] = y at *
          have A := Below.trans HA0.out HB.out
          obtain ⟨k1, f1, a1, n1, cap1, ⟨x0, x1, x2, x3, x4, x5⟩, hi⟩ := hp.open
          replace x0 := Bs.cell_up A x0; replace x1 := Bs.cell_up A x1; replace x2 := Bs.cell_up A x2; replace x3 := Bs.cell_up A x3; replace x4 := Bs.cell_up A x4; replace x5 := Bs.cell_up A x5
          have HI := Lib.hid hi
          clear hp hi
          unfold Rx.hdr at HI
          have B1 := Bs.below1 wr (.cells #[.int .u8 k1, .int .u64 (Bs.word f1 0), .int .u64 (Bs.word f1 1), .int .u64 (Bs.word f1 2), .int .u64 (Bs.word f1 3), .slice a1 n1 cap1] 28)
          have HBq := Lib.hid (HB.out.trans (B1.mono hbase))
          have C := Lib.hid (OKy.out _ HI.out r Mq tq ss es a b _ (HA0.out.trans HBq.out) (HAT.out.up B1) ha' hb' (HFq.out.grow (Ng.grow_refl Mq 0 0 0) (by rw [HSD.out]; omega) (by rw [HSD.out]; omega) (by rw [HSD.out]; omega)))
          have HGL := Lib.hid (Ng.grow_lay y a b Mq)
          have i1 : (0 : Int) ≤ (q : Int) := by omega
          have i2 : (q : Int) < (n : Int) := by omega
          have e1 : decide ((q : Int) < (n : Int)) = true := decide_eq_true (by omega)
          have e2 : decide (q < n) = true := decide_eq_true hlt
          clear B1 A
          go_wp2_with fail
          refine C.out.mono ?_
          rintro e w2 ⟨t2, rfl, X2, ht2, b2⟩
          have HX2 := Lib.hid X2
          have HT2 := Lib.hid ht2
          have HB3 := Lib.hid (HBq.out.trans b2)
          have hlo := HGL.out.lo
          clear C X2 ht2 b2 x0 x1 x2 x3 x4 x5
          go_wp2_with fail
          go_roundw
          case rel =>
            refine ⟨q + 1, _, t2, by omega, by go_num, HC2, HX2, Lib.hid ?_, HB3, by omega, by omega, Lib.hid ?_⟩
            · rw [HT2.out, HTQ.out, HTK.out, List.append_assoc]
            · exact HFq.out.grow HGL.out (by rw [HSD.out]; have := y.size_pos; omega) (by rw [HSD.out]; omega) (by rw [HSD.out]; omega)
          case measure => simp [intOf]; omega
        · have hd : l.drop q = [] := List.drop_eq_nil_of_le (by rw [HN.out]; omega)
          have ht : l.take q = l := List.take_of_length_le (by rw [HN.out]; omega)
          have hc := HC.out
          have htq := HTQ.out
          rw [hd] at hc
          rw [ht] at htq
          rw [Nf.layA] at hc
          have HC3 := Lib.hid hc
          have HTQ2 := Lib.hid htq
          have e1 : decide ((q : Int) < (n : Int)) = false := decide_eq_false (by omega)
          have e2 : decide (q < n) = false := decide_eq_false hlt
          clear hd ht hc htq
          go_wp2_with fail
          go_end0
          exact ⟨tq, rfl, by rw [HLY.out, ← HC3.out]; exact HAT.out, by rw [HS.out]; exact HTQ2.out, HB.out⟩
    · have hl1 : ∃ y, l = [y] := by
        have := HWK.out
        simp [hk0] at this
        exact List.length_eq_one_iff.1 this
      obtain ⟨y, rfl⟩ := hl1
      have hn1 : n = 1 := by have := HN.out; simp at this; omega
      subst hn1
      have HS := Lib.hid (show Rx.sets (.node k f [y]) = Rx.sets y by rw [hk0]; simp [Rx.sets, Rx.setsL])
      have HLY := Lib.hid (show Nf.lay (.node k f [y]) a b M = Nf.layS [y] a b M by rw [hk0, Nf.lay])
      have e09 : ((k : Int) == 0) = false := by simp; omega
      have e19 : ((k : Int) == 1) = false := by simp; omega
      have e29 : ((k : Int) == 2) = false := by simp; omega
      have e39 : ((k : Int) == 3) = false := by simp; omega
      have e49 : ((k : Int) == 4) = true := by simp; omega
      clear hk0
      obtain ⟨p, rfl, hp⟩ := HL.out.get 0 (by simp)
      simp only [Nat.zero_add, List.getElem_cons_zero, Nat.zero_mul] at hp
      rw [Nf.add_zero'] at hp
      have OKy := Lib.hid (OK.out y (by simp))
      have hys : y.size = Rx.sizeL [y] := by simp [Rx.sizeL]
      obtain ⟨k1, f1, a1, n1, cap1, ⟨x0, x1, x2, x3, x4, x5⟩, hi⟩ := hp.open
      have HI := Lib.hid hi
      clear hp hi
      unfold Rx.hdr at HI
      have HXC := Lib.hid (show Rx.Cell w0 p k1 f1 a1 n1 cap1 from ⟨x0, x1, x2, x3, x4, x5⟩)
      clear x0 x1 x2 x3 x4 x5
      have C := Lib.hid (place_any _ w0.heap.size r w.heap.size M tr ss es HX.out hpl hsz1 (by omega))
      go_wp2_with fail
      refine C.out.mono ?_
      rintro e w1 ⟨rfl, X1, b1, hp1⟩
      have hsz2 : w0.heap.size ≤ w1.heap.size := Nat.le_trans hsz1 b1.size
      have hpl2 : w.heap.size < w1.heap.size := Nat.lt_of_lt_of_le hpl b1.size
      have hpl3 : M.place.free.length = M.free.length + 1 := M.place_len
      have C2 := Lib.hid (place_any w1 w0.heap.size r w.heap.size M.place tr ss es X1 hpl2 hsz2 (by omega))
      rw [hpl3] at C2
      have HB2 := Lib.hid (HB1.out.trans b1)
      have HP1 := Lib.hid hp1
      clear C X1 b1 hp1
      go_wp2_with fail
      refine C2.out.mono ?_
      rintro e w2 ⟨rfl, X2, b2, hp2⟩
      have hsz3 : w0.heap.size ≤ w2.heap.size := Nat.le_trans hsz2 b2.size
      have HB3 := Lib.hid (HB2.out.trans b2)
      obtain ⟨y0, y1, y2, y3, y4, y5⟩ := Ng.nod_same HND.out (hp2.trans HP1.out)
      simp only [Nat.zero_add] at y1 y2 y3 y4 y5
      obtain ⟨x0, x1, x2, x3, x4, x5⟩ := HXC.out
      have A2 := HA0.out.trans HB3.out
      replace x0 := Bs.cell_up A2 x0; replace x1 := Bs.cell_up A2 x1; replace x2 := Bs.cell_up A2 x2; replace x3 := Bs.cell_up A2 x3; replace x4 := Bs.cell_up A2 x4; replace x5 := Bs.cell_up A2 x5
      have hpl4 : M.place.place.free.length = M.free.length + 2 := by rw [Nf.Mach.place_len, hpl3]
      have g2 := (Ng.grow_place M).trans (Ng.grow_place M.place) (Nat.le_refl _) (Nat.le_refl _) (Nat.le_refl _)
      have C3 := Lib.hid (OKy.out _ HI.out r M.place.place tr ss es M.free.length (M.free.length + 1) w2 A2 X2.at (by omega) (by omega) (HF.out.grow g2 (by omega) (by omega) (by omega)))
      have HGL := Lib.hid (g2.trans (Ng.grow_lay y M.free.length (M.free.length + 1) M.place.place) (Nat.le_refl _) (Nat.le_refl _) (Nat.le_refl _))
      clear C2 X2 b2 hp2 A2 c0 c1 c2 c3 c4 c5 g2
      go_wp2_with fail
      refine C3.out.mono ?_
      rintro e w3 ⟨t3, rfl, X3, h3, b3⟩
      have hsz4 : w0.heap.size ≤ w3.heap.size := Nat.le_trans hsz3 b3.size
      have HB4 := Lib.hid (HB3.out.trans b3)
      have H3 := Lib.hid h3
      have hgl := HGL.out.lo
      have hgh := HGL.out.hi
      have hgt := HGL.out.tot
      obtain ⟨M3, hM3⟩ : ∃ M3, Nf.lay y M.free.length (M.free.length + 1) M.place.place = M3 := ⟨_, rfl⟩
      have HM3 := Lib.hid hM3
      rw [hM3] at X3 hgl hgh hgt
      have ha3 : a < M3.free.length := by omega
      have hl3 : M.free.length + 1 < M3.free.length := by
        have := (Ng.grow_lay y M.free.length (M.free.length + 1) M.place.place).lo
        rw [hM3] at this
        omega
      have B4 := Bs.below1 w3 (.cells #[.int .i64 (M.free.length : Nat), .int .i64 b] 3)
      have hbs4 := Nat.le_trans hsz4 B4.size
      have C4 := Lib.hid (join_any _ w0.heap.size r M3 t3 ss es (X3.up B4) hbs4 (by omega) a ha3 (by have := Ng.le_tot M3 a ha3; omega) [M.free.length, b] (by simp) (by simp) ⟨_, 0, none⟩ 2 (Ng.sg_two w3 M.free.length b))
      have HB5 := Lib.hid (HB4.out.trans (B4.mono hsz4))
      clear C3 X3 b3 h3 hM3 B4 y0 y1 y2 y3 y4 y5 x0 x1 x2 x3 x4 x5
      go_wp2_with fail
      refine C4.out.mono ?_
      rintro e w5 ⟨rfl, X5, b5⟩
      have hsz5 : w0.heap.size ≤ w5.heap.size := Nat.le_trans hbs4 b5.size
      have HB6 := Lib.hid (HB5.out.trans b5)
      have g5 := Ng.grow_join M3 a [M.free.length, b]
      have hg5l := g5.lo
      have hg5h := g5.hi
      have hg5t := g5.tot
      simp only [List.length_cons, List.length_nil] at hg5t
      obtain ⟨M5, hM5⟩ : ∃ M5, M3.join a [M.free.length, b] = M5 := ⟨_, rfl⟩
      have HM5 := Lib.hid hM5
      rw [hM5] at X5 hg5l hg5h hg5t
      have hl5 : M.free.length + 1 < M5.free.length := by omega
      have B6 := Bs.below1 w5 (.cells #[.int .i64 (M.free.length : Nat), .int .i64 b] 3)
      have hbs6 := Nat.le_trans hsz5 B6.size
      have C6 := Lib.hid (join_any _ w0.heap.size r M5 t3 ss es (X5.up B6) hbs6 (by omega) (M.free.length + 1) hl5 (by have := Ng.le_tot M5 (M.free.length + 1) hl5; omega) [M.free.length, b] (by simp) (by simp) ⟨_, 0, none⟩ 2 (Ng.sg_two w5 M.free.length b))
      have HB7 := Lib.hid (HB6.out.trans (B6.mono hsz5))
      clear C4 X5 b5 hM5 B6 g5
      go_wp2_with fail
      refine C6.out.mono ?_
      rintro e w7 ⟨rfl, X7, b7⟩
      have HX7 := Lib.hid X7
      have HB8 := Lib.hid (HB7.out.trans b7)
      clear C6 X7 b7
      go_wp2_with fail
      go_end0
      refine ⟨t3, rfl, ?_, by rw [HS.out]; exact H3.out, HB8.out⟩
      rw [HLY.out, Nf.layS, HM3.out, HM5.out]
      exact HX7.out
end Go.Proofs.Ythapedadnbkgnaa
