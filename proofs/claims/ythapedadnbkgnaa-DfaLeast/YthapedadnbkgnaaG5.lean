/- Rising rows of numbers: plain facts: a number put in, two rows made one. Rows of numbers in memory; what the document's Put, shift and union answer, walked. What the document's shift, union and Same answer, walked. Fronts in memory; what the document's Join answers, walked. What the document's Same of fronts answers, and the program's Dead, walked. What the program's Dead answers, walked. What the program's Rule (and the library's Min) and nodes answer, walked. Regular expressions: plain facts: the document's tables of ways say what the expression matches. Expressions read byte by byte: plain facts: what is done is what is matched. What the small functions of layer 1 answer, walked. What the functions of layer 1 that go through a text answer, walked. What 'First' answers, walked. -/
import Derived.Test.YthapedadnbkgnaaG2
import Derived.Test.YthapedadnbkgnaaG3
import Derived.Deep.QuietTactic
import Derived.BigQuiet
import Derived.Deep.Upon
import Derived.Deep.AppendSrc
import Derived.Test.YthapedadnbkgnaaG4
import Derived.Test.YthapedadnbkgnaaG1
import Derived.Test.YthapedadnbkgnaaRows
import Derived.WalkKit
import Derived.WalkSpells
import Derived.WalkLawsBesides
import Derived.Lib.Hide
import Derived.IntWalk
namespace Go.Proofs.Ythapedadnbkgnaa
set_option linter.unusedVariables false
set_option linter.unusedSimpArgs false
namespace Nf
def put : List Int → Int → List Int
  | [], n => [n]
  | x :: r, n => if x < n then x :: put r n else if x = n then x :: r else n :: x :: r
def union (a b : List Int) : List Int := b.foldl put (a.foldl put [])
theorem rising_eq : ∀ {a b : List Int}, a.Pairwise (· < ·) → b.Pairwise (· < ·) → (∀ x, x ∈ a ↔ x ∈ b) → a = b
  | [], [], _, _, _ => rfl
  | [], y :: s, _, _, h => by have := (h y).2 (List.mem_cons_self ..); simp at this
  | x :: r, [], _, _, h => by have := (h x).1 (List.mem_cons_self ..); simp at this
  | x :: r, y :: s, ha, hb, h => by
    rw [List.pairwise_cons] at ha hb
    have e : x = y := by
      rcases List.mem_cons.1 ((h x).1 (List.mem_cons_self ..)) with h1 | h1
      · exact h1
      · rcases List.mem_cons.1 ((h y).2 (List.mem_cons_self ..)) with h2 | h2
        · exact h2.symm
        · have := ha.1 y h2
          have := hb.1 x h1
          omega
    subst e
    congr 1
    refine rising_eq ha.2 hb.2 fun z => ?_
    have hz := h z
    simp only [List.mem_cons] at hz
    constructor
    · intro h1
      rcases hz.1 (.inr h1) with h2 | h2
      · have := ha.1 z h1; omega
      · exact h2
    · intro h1
      rcases hz.2 (.inr h1) with h2 | h2
      · have := hb.1 z h1; omega
      · exact h2
end Nf
open Go.RowKit
def Nf.Row (w : World) (B : Nat → Prop) (v : Value) (l : List Int) : Prop := ∃ a cap, v = .slice a l.length cap ∧ l.length ≤ cap ∧ (a = none → cap = 0) ∧ Rx.Sg w a l ∧ ∀ x, a = some x → l ≠ [] → B x.block
theorem Nf.Row.up {w w' : World} {B : Nat → Prop} {v : Value} {l : List Int} (h : Nf.Row w B v l) (hb : Below w.heap.size w w') : Nf.Row w' B v l := by
  obtain ⟨a, cap, e, h1, h2, h3, h4⟩ := h
  exact ⟨a, cap, e, h1, h2, h3.up hb, h4⟩
theorem Nf.Row.mono {w : World} {B B' : Nat → Prop} {v : Value} {l : List Int} (h : Nf.Row w B v l) (hB : ∀ k, B k → B' k) : Nf.Row w B' v l := by
  obtain ⟨a, cap, e, h1, h2, h3, h4⟩ := h
  exact ⟨a, cap, e, h1, h2, h3, fun x ex hl => hB _ (h4 x ex hl)⟩
theorem Nf.Row.grown {w w' : World} {B : Nat → Prop} {v : Value} {l : List Int} {row : Option Nat} (h : Nf.Row w B v l) (hg : w.grownBy w' row) (hB : ∀ k, B k → some k ≠ row) : Nf.Row w' B v l := by
  obtain ⟨a, cap, e, h1, h2, h3, h4⟩ := h
  refine ⟨a, cap, e, h1, h2, fun i hi => ?_, h4⟩
  obtain ⟨x, ex, hx⟩ := h3 i hi
  have hx2 : (x.add i).block = x.block := by simp only [Addr.add]; split <;> rfl
  exact ⟨x, ex, hg.cell hx (by rw [hx2]; exact hB _ (h4 x ex (fun e0 => by rw [e0] at hi; simp at hi)))⟩
theorem Nf.Row.set {w : World} {B : Nat → Prop} {v : Value} {l : List Int} (h : Nf.Row w B v l) {b i : Nat} (hb : ¬ B b) (u : Value) : Nf.Row (w.setCell ⟨b, i, none⟩ u) B v l := by
  obtain ⟨a, cap, e, h1, h2, h3, h4⟩ := h
  refine ⟨a, cap, e, h1, h2, fun j hj => ?_, h4⟩
  obtain ⟨x, ex, hx⟩ := h3 j hj
  have hx2 : (x.add j).block = x.block := by simp only [Addr.add]; split <;> rfl
  refine ⟨x, ex, Bs.cell_set hx (fun e0 => hb ?_)⟩
  have hB := h4 x ex (fun e0 => by rw [e0] at hj; simp at hj)
  rw [← hx2] at hB
  have e1 : b = (x.add j).block := e0
  rw [e1]
  exact hB
theorem Nf.infoInt : (Try.prog.info? 3).map (fun i => (i.zero, i.size, i.bytes)) = some (some (.int .i64 0), 1, 8) := by kernel_rfl
def Nf.Own (base : Nat) (v : Value) (ns : List Int) (w : World) : Prop := w.ownsRow base 3 1 v ns.length (ns.map (Value.int .i64))
theorem Nf.own_nil (base : Nat) (w : World) : Nf.Own base (.slice none 0 0) [] w := World.ownsRow_nil _ _ _ _
theorem Nf.Own.up {base : Nat} {v : Value} {ns : List Int} {w w' : World} (h : Nf.Own base v ns w) (hb : Below w.heap.size w w') : Nf.Own base v ns w' := Bs.row_up h hb
theorem Nf.Own.row {base : Nat} {B : Nat → Prop} {v : Value} {ns : List Int} {w : World} (h : Nf.Own base v ns w) (hB : ∀ k, base ≤ k → B k) : Nf.Row w B v ns := by
  rcases h.2 with ⟨rfl, h0⟩ | ⟨g, cap, cur, rfl, hgb, _, hle, _⟩
  · have e : ns = [] := List.length_eq_zero_iff.1 h0
    subst e
    exact ⟨none, 0, rfl, Nat.le_refl _, fun _ => rfl, fun i hi => by simp at hi, fun x e => by simp at e⟩
  · refine ⟨some ⟨g, 0, none⟩, cap, rfl, by simpa using hle, fun e => by simp at e, fun i hi => ⟨_, rfl, ?_⟩, fun x e _ => by injection e with e; subst e; exact hB g hgb⟩
    exact World.ownsRow.cells (g := g) h rfl i (.int .i64 ns[i]) (by simp [hi])
theorem Nf.Row.form {w : World} {B : Nat → Prop} {v : Value} {l : List Int} (h : Nf.Row w B v l) : ∃ a n c, v = .slice a n c := by
  obtain ⟨a, cap, e, _⟩ := h
  exact ⟨_, _, _, e⟩
set_option maxRecDepth 100000 in
theorem Nf.append {ops : Array Oper} {rest : List Oper} {o : Oper} {a : Act} {Q : Exit → Act → World → Prop} {W : World} (hgd : o.guard = none) (s x : Operand)
    (ho : o.op = .call { callee := .builtin .append, args := #[s, x], argTypes := #[38, 38] })
    (base : Nat) (v : Value) (ns : List Int) (hs : a.eval s = v) (O : Nf.Own base v ns W) (ao : Option Addr) (c nl : Nat) (l : List Int) (hnl : l.length = nl) (hx : a.eval x = .slice ao nl c) (hS : Rx.Sg W ao l) (hl : ns.length + l.length ≤ 10000000) (hbase : base ≤ W.heap.size)
    (h : ∀ v' w', Nf.Own base v' (ns ++ l) w' → W.grownBy w' v.ownBlock → wpList Try.prog ops Q rest (a.put o.dst v') w') : wpList Try.prog ops Q (o :: rest) a W := by
  subst hnl
  obtain ⟨iI, hiI, hz0, hz1, hz2⟩ := info_parts Nf.infoInt
  by_cases h0 : l = []
  · subst h0
    refine wpList_plain hgd fun K hK => ?_
    obtain ⟨av, ns', cs, hv⟩ := (Nf.Own.row O (fun _ h => h)).form
    have hle : ns' ≤ cs := by
      obtain ⟨a1, c1, e1, h1, _⟩ := Nf.Own.row O (fun _ h => h)
      rw [hv] at e1
      injection e1 with e2 e3 e4
      omega
    have hsrc : Src Try.prog iI.size 38 (.slice ao 0 c) 0 [] W := by
      cases ao with
      | none => exact Src.ofNil W Try.underlying38 c
      | some ad => exact Src.ofSlice W Try.underlying38 ad 0 c [] (by simp) (fun j u hj => by simp at hj) (fun u hu => by simp at hu)
    have hrun := run_append_nothing (P := Try.prog) W 38 38 o.type 3 iI Try.underlying38 hiI av ns' cs hle (.slice ao 0 c) hsrc
    have hx' : a.eval x = .slice ao 0 c := hx
    unfold Oper.wp
    rw [hv] at hs
    simp [execOp, ho, resolve, invoke, builtin, hs, hx', hrun, Result.andThen]
    refine hK _ _ ?_
    rw [← hv]
    exact h v W (by rw [List.append_nil]; exact O) (World.grownBy.refl _ _)
  · have hpos : 0 < l.length := List.length_pos_iff.2 h0
    obtain ⟨ad, rfl, _⟩ := hS 0 hpos
    have nw : ∀ j u, (l.map (Value.int .i64))[j]? = some u → W.cell? (ad.add j) = some u := by
      intro j u hu
      rw [List.getElem?_map] at hu
      by_cases hj : j < l.length
      · rw [List.getElem?_eq_getElem hj] at hu
        obtain ⟨ad', e', hc⟩ := hS j hj
        injection e' with e'
        subst e'
        simp at hu
        rw [← hu]
        exact hc
      · rw [List.getElem?_eq_none (by omega)] at hu
        simp at hu
    refine wpList_append_own _ hgd s x 38 ho base 3 iI _ 1 8 Try.underlying38 hiI hz0 hz1 hz2 rfl (by decide) v ns.length (ns.map (Value.int .i64)) hs O ad l.length c (l.map (Value.int .i64)) hx (by simp) nw (by simp [Value.oneCell']) (by unfold maxLen; omega) (by omega) hbase ?_
    intro v7 w4 o7 g7 _
    exact h v7 w4 (by unfold Nf.Own; simpa [List.length_append, List.map_append] using o7) g7
set_option maxRecDepth 100000 in
theorem Nf.sg_new (w : World) (n : Int) (t : TypeId) : Rx.Sg (w.alloc (.cells #[.int .i64 n] t)) (some ⟨w.heap.size, 0, none⟩) [n] := fun i hi => by
  have : i = 0 := by simpa using hi
  subst this
  exact ⟨_, rfl, by simp [go_sem, Addr.add]⟩
theorem Nf.grown {w W w' : World} {v : Value} {ns : List Int} (A : Below w.heap.size w W) (O : Nf.Own w.heap.size v ns W) (g : W.grownBy w' v.ownBlock) : Below w.heap.size w w' := A.grown g A.size (fun k hk => (World.ownsRow.lt O k hk).1)
open Go.RowKit
open Go.RowKit
structure Nf.FB (w : World) (b : Nat) (vo vr : Value) : Prop where
  c0 : w.cell? ⟨b, 0, none⟩ = some vo
  c1 : w.cell? ⟨b, 1, none⟩ = some vr
  z0 : w.frozen? ⟨b, 0, none⟩ = false
  z1 : w.frozen? ⟨b, 1, none⟩ = false
theorem Nf.FB.lt {w : World} {b : Nat} {vo vr : Value} (h : Nf.FB w b vo vr) : b < w.heap.size := World.block_lt_of_cell? w _ h.c0
theorem Nf.FB.up {w w' : World} {b : Nat} {vo vr : Value} (h : Nf.FB w b vo vr) (hb : Below w.heap.size w w') : Nf.FB w' b vo vr :=
  ⟨Bs.cell_up hb h.c0, Bs.cell_up hb h.c1, by rw [hb.frozen h.lt]; exact h.z0, by rw [hb.frozen h.lt]; exact h.z1⟩
theorem Nf.fb_new (w : World) (vo vr : Value) (t : TypeId) : Nf.FB (w.alloc (.cells #[vo, vr] t)) w.heap.size vo vr := by
  constructor <;> simp [go_sem]
theorem Nf.FB.far {w : World} {b : Nat} {vo vr : Value} (h : Nf.FB w b vo vr) {d i : Nat} (hd : d ≠ b) (x : Value) : Nf.FB (w.setCell ⟨d, i, none⟩ x) b vo vr := by
  obtain ⟨c0, c1, z0, z1⟩ := h
  exact ⟨Bs.cell_set c0 hd, Bs.cell_set c1 hd, by simp [go_sem, z0], by simp [go_sem, z1]⟩
theorem Nf.FB.set0 {w : World} {b : Nat} {vo vr : Value} (h : Nf.FB w b vo vr) (x : Value) : Nf.FB (w.setCell ⟨b, 0, none⟩ x) b x vr := by
  obtain ⟨c0, c1, z0, z1⟩ := h
  constructor <;> simp [go_sem, c0, c1, z0, z1]
theorem Nf.FB.set1 {w : World} {b : Nat} {vo vr : Value} (h : Nf.FB w b vo vr) (x : Value) : Nf.FB (w.setCell ⟨b, 1, none⟩ x) b vo x := by
  obtain ⟨c0, c1, z0, z1⟩ := h
  constructor <;> simp [go_sem, c0, c1, z0, z1]
theorem Nf.Row.lt {w : World} {B : Nat → Prop} {v : Value} {l : List Int} (h : Nf.Row w B v l) : Nf.Row w (fun k => B k ∧ k < w.heap.size) v l := by
  obtain ⟨a, cap, e, h1, h2, h3, h4⟩ := h
  refine ⟨a, cap, e, h1, h2, h3, fun x ex hl => ⟨h4 x ex hl, ?_⟩⟩
  obtain ⟨y, ey, hy⟩ := h3 0 (List.length_pos_iff.2 hl)
  rw [ex] at ey
  injection ey with ey
  subst ey
  have := World.block_lt_of_cell? w _ hy
  have hx2 : (x.add 0).block = x.block := by simp only [Addr.add]; split <;> rfl
  rw [hx2] at this
  exact this
def Nf.FPost (w : World) (B : Nat → Prop) (os rs : List Int) (e : Ending) (w' : World) : Prop := ∃ vo vr, e = .returned (.agg #[vo, vr]) ∧ Nf.Row w' B vo os ∧ Nf.Row w' B vr rs ∧ Below w.heap.size w w'
structure Nf.JW (w0 : World) (b1 b2 b4 b5 : Nat) (p1 p2 q1 q2 : Value) (A1 A2 B1 B2 : List Int) (vo vr : Value) (lo lr : List Int) (u : World) : Prop where
  f1 : Nf.FB u b1 p1 p2
  f2 : Nf.FB u b2 q1 q2
  f4 : Nf.FB u b4 (.slice none 0 0) (.slice none 0 0)
  f5 : Nf.FB u b5 vo vr
  r1 : Nf.Row u (fun k => k ≠ b4 ∧ k ≠ b5) p1 A1
  r2 : Nf.Row u (fun k => k ≠ b4 ∧ k ≠ b5) p2 A2
  r3 : Nf.Row u (fun k => k ≠ b4 ∧ k ≠ b5) q1 B1
  r4 : Nf.Row u (fun k => k ≠ b4 ∧ k ≠ b5) q2 B2
  ro : Nf.Row u (fun k => w0.heap.size ≤ k ∧ k ≠ b4 ∧ k ≠ b5) vo lo
  rr : Nf.Row u (fun k => w0.heap.size ≤ k ∧ k ≠ b4 ∧ k ≠ b5) vr lr
  bel : Below w0.heap.size w0 u
  n4 : w0.heap.size ≤ b4
  n5 : w0.heap.size ≤ b5
  d1 : b5 ≠ b1
  d2 : b5 ≠ b2
  d4 : b5 ≠ b4
theorem Nf.JW.up {w0 : World} {b1 b2 b4 b5 : Nat} {p1 p2 q1 q2 : Value} {A1 A2 B1 B2 : List Int} {vo vr : Value} {lo lr : List Int} {u : World} {u' : World} (h : Nf.JW w0 b1 b2 b4 b5 p1 p2 q1 q2 A1 A2 B1 B2 vo vr lo lr u) (hb : Below u.heap.size u u') : Nf.JW w0 b1 b2 b4 b5 p1 p2 q1 q2 A1 A2 B1 B2 vo vr lo lr u' :=
  ⟨h.f1.up hb, h.f2.up hb, h.f4.up hb, h.f5.up hb, h.r1.up hb, h.r2.up hb, h.r3.up hb, h.r4.up hb, h.ro.up hb, h.rr.up hb, Bs.below_up h.bel hb, h.n4, h.n5, h.d1, h.d2, h.d4⟩
end Go.Proofs.Ythapedadnbkgnaa
namespace Go.Proofs.Ythapedadnbkgnaa
set_option linter.unusedVariables false
set_option linter.unusedSimpArgs false
open Go.RowKit
theorem Nf.Row.at {w : World} {B : Nat → Prop} {a : Option Addr} {n c : Nat} {l : List Int} (h : Nf.Row w B (.slice a n c) l) : n = l.length ∧ ∀ i (hi : i < l.length), ∃ x, a = some x ∧ w.cell? (x.add i) = some (.int .i64 l[i]) := by
  obtain ⟨a', c', e, _, _, h, _⟩ := h
  injection e with e1 e2 e3
  subst e1
  exact ⟨e2, h⟩
theorem Nf.below_drewN (w : World) : ∀ n, Below w.heap.size w (w.drewN n)
  | 0 => Below.refl _ _
  | n + 1 => by
    have h := Nf.below_drewN w n
    exact h.drew
open Go.RowKit
open Go.RowKit
theorem Nf.add_zero (a : Addr) : a.add 0 = a := by unfold Addr.add; rw [if_pos rfl]
theorem Nf.add_succ (a : Addr) (k : Nat) : a.add (k + 1) = ⟨a.block, a.off + (k + 1), none⟩ := by unfold Addr.add; rw [if_neg (by omega)]
def Nf.least (x : Int) (l : List Int) : Int := l.foldl min x
theorem Nf.least_mem : ∀ (l : List Int) (x : Int), Nf.least x l = x ∨ Nf.least x l ∈ l
  | [], x => .inl rfl
  | z :: l, x => by
    have e : Nf.least x (z :: l) = Nf.least (min x z) l := rfl
    rw [e]
    rcases Nf.least_mem l (min x z) with h | h
    · rw [h]
      rcases Int.le_total x z with h1 | h1
      · left; omega
      · right; rw [show min x z = z by omega]; exact List.mem_cons_self ..
    · exact .inr (List.mem_cons_of_mem _ h)
theorem Nf.least_take (l : List Int) (x : Int) (k : Nat) (h : k < l.length) : Nf.least x (l.take (k + 1)) = min (Nf.least x (l.take k)) l[k] := by
  rw [List.take_succ_eq_append_getElem h, Nf.least, List.foldl_append]
  rfl
set_option maxRecDepth 100000 in
set_option maxHeartbeats 2000000 in
theorem minS_any (x : Int) (l : List Int) (v : Value) (w : World) (h : Nf.Row w (fun _ => True) v (x :: l)) (hl : l.length ≤ 1000000) : Calls Try.prog 89 #[v] w fun e w' => e = .returned (.int .i64 (Nf.least x l)) ∧ w' = w := by
  obtain ⟨a, n, c, rfl⟩ := h.form
  obtain ⟨e1, r1⟩ := h.at
  have R := Lib.hid r1
  have x0 := r1 0 (by simp)
  clear r1 h
  obtain ⟨ad, rfl, h0⟩ := x0
  simp only [List.getElem_cons_zero] at h0
  rw [Nf.add_zero] at h0
  obtain ⟨m, hm⟩ : ∃ m, l.length = m := ⟨_, rfl⟩
  have HM := Lib.hid hm
  simp only [List.length_cons, hm] at e1
  rw [hm] at hl
  clear hm
  subst e1
  have k1 : decide (((m + 1 : Nat) : Int) < 1) = false := decide_eq_false (by omega)
  have k2 : decide ((m : Int) + 1 < 1) = false := decide_eq_false (by omega)
  have k3 : (0 : Int) < ((m + 1 : Nat) : Int) := by omega
  have k4 : (0 : Int) < (m : Int) + 1 := by omega
  go_enter Try.func89, Try.ntmps89
  go_wp2_with fail
  go_loopw [3, 4] (fun r i wr => ∃ k : Nat, k ≤ m ∧ i = .int .i64 (k + 1 : Nat) ∧ r = .int .i64 (Nf.least x (l.take k)) ∧ wr = w) (fun _ i _ => m + 1 - (intOf i).toNat)
  case atStart => exact ⟨0, by omega, rfl, rfl, by first | rfl | trivial⟩
  case round =>
    obtain ⟨k, hk, rfl, rfl, hwr⟩ := hrel
    subst hwr
    by_cases hlt : k < m
    · have hlt' : k < l.length := by rw [HM.out]; exact hlt
      obtain ⟨ad', e', hx⟩ := R.out (k + 1) (by simp; omega)
      injection e' with e'
      subst e'
      simp only [List.getElem_cons_succ] at hx
      rw [Nf.add_succ] at hx
      have HT := Lib.hid (Nf.least_take l x k hlt')
      have i1 : (0 : Int) ≤ ((k + 1 : Nat) : Int) := by omega
      have i2 : ((k + 1 : Nat) : Int) < ((m + 1 : Nat) : Int) := by omega
      have i3 : (0 : Int) ≤ (k : Int) + 1 := by omega
      have i4 : (k : Int) + 1 < (m : Int) + 1 := by omega
      have e1 : decide (((k + 1 : Nat) : Int) < ((m + 1 : Nat) : Int)) = true := decide_eq_true (by omega)
      have e2 : decide ((k : Int) + 1 < (m : Int) + 1) = true := decide_eq_true (by omega)
      have e3 : decide (k < m) = true := decide_eq_true hlt
      have e4 : decide ((k : Int) < (m : Int)) = true := decide_eq_true (by omega)
      generalize l[k] = y at *
      generalize Nf.least x (l.take k) = z at *
      go_wp2_with fail
      go_roundw
      case rel => exact ⟨k + 1, by omega, by go_num, by rw [HT.out]; congr 1; split <;> omega, by first | rfl | trivial⟩
      case measure => simp [intOf]; omega
    · have e1 : decide (((k + 1 : Nat) : Int) < ((m + 1 : Nat) : Int)) = false := decide_eq_false (by omega)
      have e2 : decide ((k : Int) + 1 < (m : Int) + 1) = false := decide_eq_false (by omega)
      have e3 : decide (k < m) = false := decide_eq_false hlt
      have e4 : decide ((k : Int) < (m : Int)) = false := decide_eq_false (by omega)
      have HT := Lib.hid (show l.take k = l from List.take_of_length_le (by rw [HM.out]; omega))
      rw [HT.out]
      go_wp2_with fail
      go_ret
      exact ⟨rfl, by first | rfl | trivial⟩
def Nf.rule : List Int → Int × Bool
  | [] => (0, false)
  | x :: l => (Nf.least x l, true)
set_option maxRecDepth 100000 in
set_option maxHeartbeats 1000000 in
theorem rule_any (rs : List Int) (p1 p2 : Value) (w : World) (os : List Int) (h1 : Nf.Row w (fun _ => True) p1 os) (h2 : Nf.Row w (fun _ => True) p2 rs) (hl : rs.length ≤ 1000000) :
    Calls Try.prog 74 #[.agg #[p1, p2]] w fun e w' => e = .returned (.tuple #[.int .i64 (Nf.rule rs).1, .bool (Nf.rule rs).2]) ∧ Below w.heap.size w w' := by
  obtain ⟨a1, n1, c1, rfl⟩ := h1.form
  obtain ⟨a2, n2, c2, rfl⟩ := h2.form
  have e2 := h2.at.1
  have A := Bs.below1 w (.cells #[.slice a1 n1 c1, .slice a2 n2 c2] 115)
  have H2 := Lib.hid (h2.up A)
  clear h1 h2
  go_enter Try.func74, Try.ntmps74
  cases rs with
  | nil =>
    simp only [List.length_nil] at e2
    subst e2
    go_wp2_with fail
    go_ret2
    exact ⟨rfl, A⟩
  | cons y t =>
    have k2 : ((n2 : Int) == 0) = false := by simp at e2 ⊢; omega
    have M := Lib.hid (minS_any y t _ _ H2.out (by simp at hl; omega))
    clear e2 H2
    go_wp2_with fail
    generalize w.alloc (.cells #[.slice a1 n1 c1, .slice a2 n2 c2] 115) = W at *
    refine M.out.mono ?_
    rintro e w1 ⟨rfl, rfl⟩
    clear M
    go_wp2_with fail
    go_ret2
    exact ⟨rfl, A⟩
end Go.Proofs.Ythapedadnbkgnaa
namespace Go.Proofs.Ythapedadnbkgnaa
set_option linter.unusedVariables false
set_option linter.unusedSimpArgs false
end Go.Proofs.Ythapedadnbkgnaa
namespace Go.Proofs.Ythapedadnbkgnaa
set_option linter.unusedVariables false
set_option linter.unusedSimpArgs false
mutual
def Rx.emp : Rx → Bool
  | .node k _ l => if k = 0 then true else if k = 4 then true else if k = 3 then Rx.empA l else if k = 2 then Rx.empC l else false
def Rx.empA : List Rx → Bool
  | [] => false
  | x :: r => Rx.emp x || Rx.empA r
def Rx.empC : List Rx → Bool
  | [] => true
  | x :: r => Rx.emp x && Rx.empC r
end
inductive Ps where
  | node (kind : Nat) (set : Nat → Bool) (kids : List Ps) (empty done : Bool) : Ps
def Ps.done : Ps → Bool
  | .node _ _ _ _ d => d
def Ps.empty : Ps → Bool
  | .node _ _ _ e _ => e
mutual
def Ps.size : Ps → Nat
  | .node _ _ l _ _ => 1 + Ps.sizeL l
def Ps.sizeL : List Ps → Nat
  | [] => 0
  | x :: r => Ps.size x + Ps.sizeL r
end
theorem Ps.size_pos : ∀ x : Ps, 1 ≤ x.size
  | .node _ _ _ _ _ => by simp [Ps.size]
mutual
def Ps.of : Rx → Ps
  | .node k f l => .node k f (Ps.ofL l) (Rx.emp (.node k f l)) false
def Ps.ofL : List Rx → List Ps
  | [] => []
  | x :: r => Ps.of x :: Ps.ofL r
end
mutual
def Ps.read (c : Nat) : Ps → Bool → Ps
  | .node k f l e d, b =>
    if k = 1 then .node k f l e (b && f c)
    else if k = 2 then .node k f (Ps.readC c l b) e (Ps.doneC c l b false)
    else if k = 3 then .node k f (Ps.readA c l b) e (Ps.doneA c l b false)
    else if k = 4 then .node k f (Ps.readS c l b) e (Ps.doneS c l b)
    else .node k f l e d
def Ps.readC (c : Nat) : List Ps → Bool → List Ps
  | [], _ => []
  | x :: r, b => Ps.read c x b :: Ps.readC c r (x.done || b && x.empty)
def Ps.doneC (c : Nat) : List Ps → Bool → Bool → Bool
  | [], _, d => d
  | x :: r, b, d => Ps.doneC c r (x.done || b && x.empty) ((Ps.read c x b).done || d && x.empty)
def Ps.readA (c : Nat) : List Ps → Bool → List Ps
  | [], _ => []
  | x :: r, b => Ps.read c x b :: Ps.readA c r b
def Ps.doneA (c : Nat) : List Ps → Bool → Bool → Bool
  | [], _, d => d
  | x :: r, b, d => Ps.doneA c r b (d || (Ps.read c x b).done)
def Ps.readS (c : Nat) : List Ps → Bool → List Ps
  | [], _ => []
  | x :: r, b => Ps.read c x (b || x.done) :: r
def Ps.doneS (c : Nat) : List Ps → Bool → Bool
  | [], _ => false
  | x :: _, b => (Ps.read c x (b || x.done)).done
end
theorem Ps.of_empty (x : Rx) : (Ps.of x).empty = x.emp := by cases x; rfl
theorem Ps.of_done (x : Rx) : (Ps.of x).done = false := by cases x; rfl
theorem Ps.read_empty (c : Nat) (x : Ps) (b : Bool) : (Ps.read c x b).empty = x.empty := by
  cases x
  rw [Ps.read]
  repeat' split
  all_goals rfl
def Ps.run (s : Nat → Nat) (x : Rx) (b : Nat → Bool) : Nat → Ps
  | 0 => Ps.of x
  | q + 1 => Ps.read (s q) (Ps.run s x b q) (b q)
theorem Ps.run_empty (s : Nat → Nat) (x : Rx) (b : Nat → Bool) (q : Nat) : (Ps.run s x b q).empty = x.emp := by
  induction q with
  | zero => exact Ps.of_empty x
  | succ q ih => rw [Ps.run, Ps.read_empty, ih]
def Ps.kidsC (s : Nat → Nat) : List Rx → (Nat → Bool) → Nat → List Ps
  | [], _, _ => []
  | x :: r, b, q => Ps.run s x b q :: Ps.kidsC s r (fun j => (Ps.run s x b j).done || b j && x.emp) q
def Ps.kidsA (s : Nat → Nat) : List Rx → (Nat → Bool) → Nat → List Ps
  | [], _, _ => []
  | x :: r, b, q => Ps.run s x b q :: Ps.kidsA s r b q
theorem Ps.kidsC_zero (s : Nat → Nat) : ∀ (l : List Rx) (b : Nat → Bool), Ps.kidsC s l b 0 = Ps.ofL l
  | [], _ => rfl
  | x :: r, b => by rw [Ps.kidsC, Ps.kidsC_zero s r]; rfl
theorem Ps.kidsA_zero (s : Nat → Nat) : ∀ (l : List Rx) (b : Nat → Bool), Ps.kidsA s l b 0 = Ps.ofL l
  | [], _ => rfl
  | x :: r, b => by rw [Ps.kidsA, Ps.kidsA_zero s r]; rfl
theorem Ps.kidsC_on (s : Nat → Nat) (q : Nat) : ∀ (l : List Rx) (b : Nat → Bool), Ps.readC (s q) (Ps.kidsC s l b q) (b q) = Ps.kidsC s l b (q + 1)
  | [], _ => rfl
  | x :: r, b => by
    rw [Ps.kidsC, Ps.readC, Ps.kidsC, Ps.run_empty]
    have := Ps.kidsC_on s q r (fun j => (Ps.run s x b j).done || b j && x.emp)
    rw [this]; rfl
theorem Ps.kidsA_on (s : Nat → Nat) (q : Nat) : ∀ (l : List Rx) (b : Nat → Bool), Ps.readA (s q) (Ps.kidsA s l b q) (b q) = Ps.kidsA s l b (q + 1)
  | [], _ => rfl
  | x :: r, b => by
    rw [Ps.kidsA, Ps.readA, Ps.kidsA, Ps.kidsA_on s q r]; rfl
mutual
theorem Rx.emp_iff (s : Nat → Nat) (n : Nat) : ∀ (x : Rx), x.wf = true → ∀ j, (x.emp = true ↔ Rx.Go s n x j j)
  | .node 0 f l, _, j => by simp [Rx.emp, Rx.Go]
  | .node 1 f l, _, j => by simp [Rx.emp, Rx.Go]
  | .node 2 f l, hw, j => by
    have hl : Rx.wfL l = true := by simp only [Rx.wf, Bool.and_eq_true] at hw; exact hw.2
    simp only [Rx.emp, Rx.Go]
    exact Rx.empC_iff s n l hl j
  | .node 3 f l, hw, j => by
    have hl : Rx.wfL l = true := by simp only [Rx.wf, Bool.and_eq_true] at hw; exact hw.2
    simp only [Rx.emp, Rx.Go]
    exact Rx.empA_iff s n l hl j
  | .node 4 f l, hw, j => by
    simp only [Rx.emp, Rx.Go]
    exact ⟨fun _ => .refl _, fun _ => by simp⟩
  | .node (q + 5) f l, hw, j => by simp [Rx.wf] at hw
theorem Rx.empC_iff (s : Nat → Nat) (n : Nat) : ∀ (l : List Rx), Rx.wfL l = true → ∀ j, (Rx.empC l = true ↔ Rx.GoC s n l j j)
  | [], _, j => by simp [Rx.empC, Rx.GoC]
  | x :: r, hw, j => by
    simp only [Rx.wfL, Bool.and_eq_true] at hw
    simp only [Rx.empC, Rx.GoC, Bool.and_eq_true, Rx.emp_iff s n x hw.1 j, Rx.empC_iff s n r hw.2 j]
    constructor
    · rintro ⟨h1, h2⟩; exact ⟨j, h1, h2⟩
    · rintro ⟨m, h1, h2⟩
      have := Rx.go_up s n x _ _ h1; have := Rx.goC_up s n r _ _ h2
      have e : m = j := by omega
      subst e; exact ⟨h1, h2⟩
theorem Rx.empA_iff (s : Nat → Nat) (n : Nat) : ∀ (l : List Rx), Rx.wfL l = true → ∀ j, (Rx.empA l = true ↔ Rx.GoA s n l j j)
  | [], _, j => by simp [Rx.empA, Rx.GoA]
  | x :: r, hw, j => by
    simp only [Rx.wfL, Bool.and_eq_true] at hw
    simp only [Rx.empA, Rx.GoA, Bool.or_eq_true, Rx.emp_iff s n x hw.1 j, Rx.empA_iff s n r hw.2 j]
end
def Ps.Ok (s : Nat → Nat) (n : Nat) (x : Rx) : Prop := ∀ (b : Nat → Bool) (q : Nat), q ≤ n → ((Ps.run s x b q).done = true ↔ ∃ j, j < q ∧ b j = true ∧ Rx.Go s n x j q)
theorem Ps.doneC_iff (s : Nat → Nat) (n q : Nat) (hq : q + 1 ≤ n) : ∀ (l : List Rx), Rx.wfL l = true → (∀ x ∈ l, Ps.Ok s n x) → ∀ (b : Nat → Bool) (d : Bool), (Ps.doneC (s q) (Ps.kidsC s l b q) (b q) d = true ↔ (d = true ∧ Rx.GoC s n l (q + 1) (q + 1)) ∨ ∃ j, j ≤ q ∧ b j = true ∧ Rx.GoC s n l j (q + 1))
  | [], _, _, b, d => by
    simp only [Ps.kidsC, Ps.doneC, Rx.GoC, and_true]
    constructor
    · exact .inl
    · rintro (h | ⟨j, h1, _, h3⟩)
      · exact h
      · omega
  | x :: r, hw, hok, b, d => by
    simp only [Rx.wfL, Bool.and_eq_true] at hw
    have hx := hok x (by simp)
    have hr := fun y hy => hok y (List.mem_cons_of_mem x hy)
    have he := Rx.emp_iff s n x hw.1
    rw [Ps.kidsC, Ps.doneC, Ps.run_empty]
    have ih := Ps.doneC_iff s n q hq r hw.2 hr (fun j => (Ps.run s x b j).done || b j && x.emp) ((Ps.read (s q) (Ps.run s x b q) (b q)).done || d && x.emp)
    rw [ih]
    have h1 := hx b (q + 1) hq
    rw [Ps.run] at h1
    simp only [Bool.or_eq_true, Bool.and_eq_true, h1, Rx.GoC]
    constructor
    · rintro (⟨(⟨j, hj, hb, hg⟩ | ⟨hd, hem⟩), hg2⟩ | ⟨j, hj, (hdn | ⟨hb, hem⟩), hg⟩)
      · exact .inr ⟨j, by omega, hb, _, hg, hg2⟩
      · exact .inl ⟨hd, _, (he _).1 hem, hg2⟩
      · obtain ⟨i, hi, hb, hg1⟩ := (hx b j (by omega)).1 hdn
        exact .inr ⟨i, by omega, hb, _, hg1, hg⟩
      · exact .inr ⟨j, hj, hb, _, (he _).1 hem, hg⟩
    · rintro (⟨hd, m, hg1, hg2⟩ | ⟨i, hi, hb, m, hg1, hg2⟩)
      · have := Rx.go_up s n x _ _ hg1; have := Rx.goC_up s n r _ _ hg2
        have e : m = q + 1 := by omega
        subst e
        exact .inl ⟨.inr ⟨hd, (he _).2 hg1⟩, hg2⟩
      · have h3 := Rx.go_up s n x _ _ hg1; have h4 := Rx.goC_up s n r _ _ hg2
        by_cases hm : m = q + 1
        · subst hm
          exact .inl ⟨.inl ⟨i, by omega, hb, hg1⟩, hg2⟩
        · refine .inr ⟨m, by omega, ?_, hg2⟩
          by_cases hi : i = m
          · subst hi; exact .inr ⟨hb, (he _).2 hg1⟩
          · exact .inl ((hx b m (by omega)).2 ⟨i, by omega, hb, hg1⟩)
theorem Ps.doneA_iff (s : Nat → Nat) (n q : Nat) (hq : q + 1 ≤ n) : ∀ (l : List Rx), (∀ x ∈ l, Ps.Ok s n x) → ∀ (b : Nat → Bool) (d : Bool), (Ps.doneA (s q) (Ps.kidsA s l b q) (b q) d = true ↔ d = true ∨ ∃ j, j ≤ q ∧ b j = true ∧ Rx.GoA s n l j (q + 1))
  | [], _, b, d => by simp [Ps.kidsA, Ps.doneA, Rx.GoA]
  | x :: r, hok, b, d => by
    have hx := hok x (by simp)
    have hr := fun y hy => hok y (List.mem_cons_of_mem x hy)
    rw [Ps.kidsA, Ps.doneA, Ps.doneA_iff s n q hq r hr]
    have h1 := hx b (q + 1) hq
    rw [Ps.run] at h1
    simp only [Bool.or_eq_true, h1, Rx.GoA]
    constructor
    · rintro ((hd | ⟨j, hj, hb, hg⟩) | ⟨j, hj, hb, hg⟩)
      · exact .inl hd
      · exact .inr ⟨j, by omega, hb, .inl hg⟩
      · exact .inr ⟨j, hj, hb, .inr hg⟩
    · rintro (hd | ⟨j, hj, hb, hg | hg⟩)
      · exact .inl (.inl hd)
      · exact .inl (.inr ⟨j, by omega, hb, hg⟩)
      · exact .inr ⟨j, hj, hb, hg⟩
theorem Rx.Clo.last {R : Nat → Nat → Prop} (h : ∀ i k, R i k → i ≤ k) {i k : Nat} (hc : Rx.Clo R i k) : i < k → ∃ m, m < k ∧ i ≤ m ∧ Rx.Clo R i m ∧ R m k := by
  induction hc with
  | refl => intro h; omega
  | @step i j k r hc ih =>
    intro hik
    have h1 := h _ _ r
    by_cases hj : j < k
    · obtain ⟨m, h2, h3, h4, h5⟩ := ih hj
      exact ⟨m, h2, by omega, .step r h4, h5⟩
    · have hle : j ≤ k := by
        clear ih hik r h1 hj
        induction hc with
        | refl => exact Nat.le_refl _
        | step r _ ih => exact Nat.le_trans (h _ _ r) ih
      have e : j = k := by omega
      subst e
      exact ⟨i, hik, Nat.le_refl _, .refl _, r⟩
theorem Ps.runC (s : Nat → Nat) (f : Nat → Bool) (l : List Rx) (b : Nat → Bool) : ∀ q, ∃ d, Ps.run s (.node 2 f l) b q = .node 2 f (Ps.kidsC s l b q) (Rx.emp (.node 2 f l)) d
  | 0 => ⟨false, by rw [Ps.run, Ps.of, Ps.kidsC_zero]⟩
  | q + 1 => by
    obtain ⟨d, h⟩ := Ps.runC s f l b q
    exact ⟨_, by rw [Ps.run, h, Ps.read, if_neg (by decide), if_pos rfl, Ps.kidsC_on]⟩
theorem Ps.runA (s : Nat → Nat) (f : Nat → Bool) (l : List Rx) (b : Nat → Bool) : ∀ q, ∃ d, Ps.run s (.node 3 f l) b q = .node 3 f (Ps.kidsA s l b q) (Rx.emp (.node 3 f l)) d
  | 0 => ⟨false, by rw [Ps.run, Ps.of, Ps.kidsA_zero]⟩
  | q + 1 => by
    obtain ⟨d, h⟩ := Ps.runA s f l b q
    exact ⟨_, by rw [Ps.run, h, Ps.read, if_neg (by decide), if_neg (by decide), if_pos rfl, Ps.kidsA_on]⟩
theorem Ps.runS (s : Nat → Nat) (f : Nat → Bool) (y : Rx) (b : Nat → Bool) : ∃ b' : Nat → Bool, (∀ q, b' q = (b q || (Ps.run s y b' q).done)) ∧ ∀ q, Ps.run s (.node 4 f [y]) b q = .node 4 f [Ps.run s y b' q] true (Ps.run s y b' q).done := by
  have hk : ∀ q, ∃ K : Ps, Ps.run s (.node 4 f [y]) b q = .node 4 f [K] true K.done := by
    intro q
    induction q with
    | zero => exact ⟨Ps.of y, by rw [Ps.run, Ps.of, Ps.of_done]; simp [Ps.ofL, Rx.emp]⟩
    | succ q ih =>
      obtain ⟨K, h⟩ := ih
      exact ⟨Ps.read (s q) K (b q || K.done), by rw [Ps.run, h, Ps.read, if_neg (by decide), if_neg (by decide), if_neg (by decide), if_pos rfl]; rfl⟩
  obtain ⟨K, hK⟩ : ∃ K : Nat → Ps, ∀ q, Ps.run s (.node 4 f [y]) b q = .node 4 f [K q] true (K q).done := ⟨fun q => (hk q).choose, fun q => (hk q).choose_spec⟩
  have h0 : K 0 = Ps.of y := by
    have := hK 0
    rw [Ps.run, Ps.of] at this
    injection this with _ _ h _ _
    simp only [Ps.ofL] at h
    injection h with h _
    exact h.symm
  have h1 : ∀ q, K (q + 1) = Ps.read (s q) (K q) (b q || (K q).done) := by
    intro q
    have := hK (q + 1)
    rw [Ps.run, hK q, Ps.read, if_neg (by decide), if_neg (by decide), if_neg (by decide), if_pos rfl] at this
    injection this with _ _ h _ _
    simp only [Ps.readS] at h
    injection h with h _
    exact h.symm
  have h2 : ∀ q, K q = Ps.run s y (fun j => b j || (K j).done) q := by
    intro q
    induction q with
    | zero => exact h0
    | succ q ih => rw [h1, Ps.run, ← ih]
  refine ⟨fun j => b j || (K j).done, fun q => by rw [← h2 q], fun q => ?_⟩
  rw [hK q, ← h2 q]
mutual
theorem Ps.ok (s : Nat → Nat) (n : Nat) : ∀ (x : Rx), x.wf = true → Ps.Ok s n x
  | .node 0 f l, _, b, q, hq => by
    have h : ∀ q, (Ps.run s (.node 0 f l) b q).done = false := by
      intro q
      have : ∃ e l', Ps.run s (.node 0 f l) b q = .node 0 f l' e false := by
        induction q with
        | zero => exact ⟨_, _, rfl⟩
        | succ q ih => obtain ⟨e, l', h⟩ := ih; exact ⟨e, l', by rw [Ps.run, h, Ps.read]; simp⟩
      obtain ⟨e, l', h⟩ := this
      rw [h]; rfl
    rw [h]
    simp only [Rx.Go]
    constructor
    · simp
    · rintro ⟨j, h1, _, h2⟩; omega
  | .node 1 f l, _, b, q, hq => by
    have hk : ∀ q, ∃ e l' d, Ps.run s (.node 1 f l) b q = .node 1 f l' e d := by
      intro q
      induction q with
      | zero => exact ⟨_, _, _, rfl⟩
      | succ q ih => obtain ⟨e, l', d, h⟩ := ih; exact ⟨e, l', _, by rw [Ps.run, h, Ps.read, if_pos rfl]⟩
    simp only [Rx.Go]
    cases q with
    | zero => rw [Ps.run, Ps.of_done]; simp
    | succ q =>
      obtain ⟨e, l', d, h⟩ := hk q
      rw [Ps.run, h, Ps.read, if_pos rfl]
      simp only [Ps.done, Bool.and_eq_true]
      constructor
      · rintro ⟨h1, h2⟩; exact ⟨q, by omega, h1, by omega, rfl, h2⟩
      · rintro ⟨j, h1, h2, h3, h4, h5⟩
        have e : j = q := by omega
        subst e; exact ⟨h2, h5⟩
  | .node 2 f l, hw, b, q, hq => by
    have hl : Rx.wfL l = true := by simp only [Rx.wf, Bool.and_eq_true] at hw; exact hw.2
    have hok := Ps.okL s n l hl
    simp only [Rx.Go]
    cases q with
    | zero => rw [Ps.run, Ps.of_done]; simp
    | succ q =>
      obtain ⟨d, h⟩ := Ps.runC s f l b q
      rw [Ps.run, h, Ps.read, if_neg (by decide), if_pos rfl]
      simp only [Ps.done]
      rw [Ps.doneC_iff s n q hq l hl hok b false]
      constructor
      · rintro (⟨h1, _⟩ | ⟨j, h1, h2, h3⟩)
        · simp at h1
        · exact ⟨j, by omega, h2, h3⟩
      · rintro ⟨j, h1, h2, h3⟩; exact .inr ⟨j, by omega, h2, h3⟩
  | .node 3 f l, hw, b, q, hq => by
    have hl : Rx.wfL l = true := by simp only [Rx.wf, Bool.and_eq_true] at hw; exact hw.2
    have hok := Ps.okL s n l hl
    simp only [Rx.Go]
    cases q with
    | zero => rw [Ps.run, Ps.of_done]; simp
    | succ q =>
      obtain ⟨d, h⟩ := Ps.runA s f l b q
      rw [Ps.run, h, Ps.read, if_neg (by decide), if_neg (by decide), if_pos rfl]
      simp only [Ps.done]
      rw [Ps.doneA_iff s n q hq l hok b false]
      constructor
      · rintro (h1 | ⟨j, h1, h2, h3⟩)
        · simp at h1
        · exact ⟨j, by omega, h2, h3⟩
      · rintro ⟨j, h1, h2, h3⟩; exact .inr ⟨j, by omega, h2, h3⟩
  | .node 4 f [], hw, b, q, hq => by simp [Rx.wf] at hw
  | .node 4 f [y], hw, b, q, hq => by
    have hy : y.wf = true := by simp only [Rx.wf, Rx.wfL, Bool.and_eq_true] at hw; exact hw.2.1
    have hok := Ps.ok s n y hy
    obtain ⟨b', hb', hr⟩ := Ps.runS s f y b
    simp only [Rx.Go]
    rw [hr q]
    simp only [Ps.done]
    have key : ∀ q, q ≤ n → ((Ps.run s y b' q).done = true ↔ ∃ j, j < q ∧ b j = true ∧ Rx.Clo (Rx.GoA s n [y]) j q) := by
      intro q
      induction q using Nat.strongRecOn with
      | _ q ih =>
        intro hq
        rw [hok b' q hq]
        constructor
        · rintro ⟨j, hj, hbj, hg⟩
          rw [hb' j] at hbj
          simp only [Bool.or_eq_true] at hbj
          have hg' : Rx.GoA s n [y] j q := by simp only [Rx.GoA]; exact .inl hg
          rcases hbj with hbj | hbj
          · exact ⟨j, hj, hbj, .one hg'⟩
          · obtain ⟨i, hi, hbi, hc⟩ := (ih j hj (by omega)).1 hbj
            exact ⟨i, by omega, hbi, hc.trans (.one hg')⟩
        · rintro ⟨j, hj, hbj, hc⟩
          obtain ⟨m, hm, hjm, hc1, hg⟩ := Rx.Clo.last (fun i k h => (Rx.goA_up s n [y] i k h).1) hc hj
          have hg' : Rx.Go s n y m q := by simp only [Rx.GoA, or_false] at hg; exact hg
          refine ⟨m, hm, ?_, hg'⟩
          rw [hb' m]
          simp only [Bool.or_eq_true]
          by_cases e : j = m
          · subst e; exact .inl hbj
          · exact .inr ((ih m hm (by omega)).2 ⟨j, by omega, hbj, hc1⟩)
    exact key q hq
  | .node 4 f (_ :: _ :: _), hw, b, q, hq => by simp [Rx.wf] at hw
  | .node (q + 5) f l, hw, _, _, _ => by simp [Rx.wf] at hw
theorem Ps.okL (s : Nat → Nat) (n : Nat) : ∀ (l : List Rx), Rx.wfL l = true → ∀ x ∈ l, Ps.Ok s n x
  | [], _, x, hx => by simp at hx
  | y :: r, hw, x, hx => by
    simp only [Rx.wfL, Bool.and_eq_true] at hw
    rcases List.mem_cons.1 hx with e | hx
    · rw [e]; exact Ps.ok s n y hw.1
    · exact Ps.okL s n r hw.2 x hx
end
def Px.by (s : ByteArray) (i : Nat) : Nat := (s.data.toList.getD i 0).toNat
end Go.Proofs.Ythapedadnbkgnaa
namespace Go.Proofs.Ythapedadnbkgnaa
set_option linter.unusedVariables false
set_option linter.unusedSimpArgs false
open Go.RowKit
theorem ret_bool {a b : Bool} (h : a = b) : Ending.returned (.bool a) = .returned (.bool b) := by rw [h]
theorem ret_int {k : IntKind} {a b : Int} (h : a = b) : Ending.returned (.int k a) = .returned (.int k b) := by rw [h]
set_option maxHeartbeats 400000 in
theorem follower_any (n : Int) (w : World) : Calls Try.prog 80 #[.int .u8 n] w fun e w' => e = .returned (.bool (Rn.folI n)) ∧ w = w' := by
  go_enter Try.func80, Try.ntmps80
  go_wp2
  all_goals (go_ret; refine ⟨ret_bool ?_, rfl⟩; first | (simp [Rn.folI, *]; done) | (simp [Rn.folI, *]; omega))
set_option maxHeartbeats 400000 in
theorem size_any (n : Int) (w : World) : Calls Try.prog 81 #[.int .i64 n] w fun e w' => e = .returned (.int .i64 (Rn.sizeI n)) ∧ w = w' := by
  go_enter Try.func81, Try.ntmps81
  go_wp2
  all_goals (go_ret; refine ⟨ret_int ?_, rfl⟩; unfold Rn.sizeI; (repeat' split) <;> first | rfl | omega)
set_option maxHeartbeats 400000 in
theorem lead_any (n : Int) (w : World) : Calls Try.prog 79 #[.int .i64 n] w fun e w' => e = .returned (.int .i64 (Rn.leadI n)) ∧ w = w' := by
  go_enter Try.func79, Try.ntmps79
  go_wp2
  all_goals (go_ret; refine ⟨ret_int ?_, rfl⟩; simp_all [Rn.leadI])
set_option maxHeartbeats 400000 in
theorem promised_any (n : Int) (w : World) : Calls Try.prog 78 #[.int .u8 n] w fun e w' => e = .returned (.int .i64 (Rn.promI n)) ∧ w = w' := by
  go_enter Try.func78, Try.ntmps78
  go_wp2
  all_goals (go_ret; refine ⟨ret_int ?_, rfl⟩; unfold Rn.promI; (repeat' split) <;> first | rfl | omega)
end Go.Proofs.Ythapedadnbkgnaa
namespace Go.Proofs.Ythapedadnbkgnaa
set_option linter.unusedVariables false
set_option linter.unusedSimpArgs false
open Go.RowKit
end Go.Proofs.Ythapedadnbkgnaa
namespace Go.Proofs.Ythapedadnbkgnaa
set_option linter.unusedVariables false
set_option linter.unusedSimpArgs false
open Go.RowKit
theorem quietly {P : Program} {f : FuncId} {args : Array Value} {w : World} {n : Nat} {v : Value} (h : Calls P f args (w.drewN n) fun e w' => e = .returned v ∧ w.drewN n = w') : Calls P f args (w.drewN n) fun e w' => e = .returned v ∧ ∃ m, w' = w.drewN m :=
  h.mono fun _ _ hh => ⟨hh.1, n, hh.2.symm⟩
theorem ret_two {a b c d : Int} (h : a = c) (h' : b = d) : Ending.returned (.tuple #[.int .i64 a, .int .i64 b]) = .returned (.tuple #[.int .i64 c, .int .i64 d]) := by rw [h, h']
set_option maxRecDepth 100000 in
set_option maxHeartbeats 400000 in
theorem first_any (s : ByteArray) (w : World) (hs : s.size ≤ maxLen) : Calls Try.prog 61 #[.string s] w fun e w' => e = .returned (.tuple #[.int .i64 (Rn.firstL s.data.toList).1, .int .i64 (Rn.firstL s.data.toList).2]) ∧ ∃ n, w' = w.drewN n := by
  unfold maxLen at hs
  by_cases h0 : s.size = 0
  · have e := Rn.firstL_nil s h0
    rw [e]; clear e
    have h1 : s.toList.isEmpty = true := by rw [ByteArray.toList_eq, List.isEmpty_iff_length_eq_zero]; simpa using h0
    clear h0
    go_enter Try.func61, Try.ntmps61
    go_wp2
    go_ret2
    exact ⟨rfl, 0, rfl⟩
  have h00 : 0 < s.size := by omega
  have h1 : s.toList.isEmpty = false := by rw [ByteArray.toList_eq, ← Bool.not_eq_true, List.isEmpty_iff_length_eq_zero]; simpa using h0
  clear h0
  by_cases hp : Rn.promI s[0].toNat = 0 ∨ (s.size : Int) < Rn.promI s[0].toNat
  · have e := Rn.firstL_no s h00 hp
    rw [e]; clear e
    have hk := Rn.prom_bd s[0].toNat
    by_cases hp0 : Rn.promI s[0].toNat = 0
    · go_enter Try.func61, Try.ntmps61
      go_wp2_with (go_at_call 78; refine (promised_any _ _).mono ?_; rintro e w' ⟨rfl, rfl⟩)
      go_ret2
      exact ⟨rfl, 0, rfl⟩
    · have hp1 : (Rn.promI s[0].toNat == 0) = false := beq_eq_false_iff_ne.2 hp0
      have hp2 : (s.size : Int) < Rn.promI s[0].toNat := by omega
      clear hp hp0
      go_enter Try.func61, Try.ntmps61
      go_wp2_with (go_at_call 78; refine (promised_any _ _).mono ?_; rintro e w' ⟨rfl, rfl⟩)
      go_ret2
      exact ⟨rfl, 0, rfl⟩
  have hk := Rn.prom_bd s[0].toNat
  have e := Rn.firstL_yes s h00 hp
  rw [e]; clear e
  have hp1 : (Rn.promI s[0].toNat == 0) = false := beq_eq_false_iff_ne.2 (by omega)
  have hp2 : ¬ (s.size : Int) < Rn.promI s[0].toNat := by omega
  have hp3 : 1 ≤ Rn.promI s[0].toNat := by omega
  clear hp
  have hc : s[0].toNat < 256 := s[0].toNat_lt
  have hl := Rn.lead_bd (Rn.promI s[0].toNat)
  go_enter Try.func61, Try.ntmps61
  go_wp2_with (go_at_call 78; refine (promised_any _ _).mono ?_; rintro e w' ⟨rfl, rfl⟩)
  have hw1 : IntKind.i64.wrap (s[0].toNat : Int) = s[0].toNat := IntWalk.i64_in _ (by omega)
  have hw2 : IntKind.i64.wrap ((s[0].toNat : Int) - Rn.leadI (Rn.promI s[0].toNat)) = s[0].toNat - Rn.leadI (Rn.promI s[0].toNat) := IntWalk.i64_in _ (by omega)
  go_quiet ((go_at_call 79; exact quietly (lead_any _ _)))
  clear hw1 hw2
  go_wp2
  generalize hn0 : (s[0].toNat : Int) - Rn.leadI (Rn.promI s[0].toNat) = n0
  have hb0 : -256 ≤ n0 ∧ n0 ≤ 256 := by omega
  have HN0 := Lib.hid hn0; clear hn0
  go_loop [5, 29] (fun n i => ∃ (j : Nat) (m : Int), (j : Int) + 1 ≤ Rn.promI s[0].toNat ∧ -(Rn.bd j) ≤ m ∧ m ≤ Rn.bd j ∧ i = .int .i64 j ∧ n = .int .i64 m ∧ Hid (Rn.dec n0 ((s.data.toList.take (Rn.promI s[0].toNat).toNat).drop 1) = Rn.dec m ((s.data.toList.take (Rn.promI s[0].toNat).toNat).drop (1 + j)))) (fun _ i => 4 - (intOf i).toNat)
  case atStart => exact ⟨0, n0, by omega, by simp [Rn.bd]; omega, by simp [Rn.bd]; omega, rfl, rfl, rfl⟩
  case round =>
    obtain ⟨j, m, hj, hm1, hm2, rfl, rfl, HR⟩ := hrel
    have hbd := Rn.bd_le j (by omega)
    by_cases hlt : (j : Int) < Rn.promI s[0].toNat - 1
    · have hj2 : 1 + j < s.size := by omega
      have hdr := Rn.take_drop_at s (Rn.promI s[0].toNat).toNat (1 + j) (by omega) (by omega)
      have HD := Lib.hid hdr; clear hdr
      have hc2 : s[1 + j].toNat < 256 := s[1 + j].toNat_lt
      rcases Bool.eq_false_or_eq_true (Rn.folI ↑s[1 + j].toNat) with hf | hf
      · have hf2 : 128 ≤ (s[1 + j].toNat : Int) ∧ (s[1 + j].toNat : Int) ≤ 191 := by simpa [Rn.folI] using hf
        have hb2 : Rn.bd (j + 1) = 64 * Rn.bd j + 64 := rfl
        have HB := Lib.hid hb2; clear hb2
        go_wp2_with (go_at_call 80; refine (follower_any _ _).mono ?_; rintro e w' ⟨rfl, rfl⟩)
        go_round
        case rel =>
          refine ⟨j + 1, m * 64 + s[1 + j].toNat - 128, by omega, by rw [HB.out]; omega, by rw [HB.out]; omega, by go_num, by go_num, ?_⟩
          have := HR.out; rw [HD.out] at this; simp only [Rn.dec, hf] at this; exact this
        case measure => simp [intOf]; omega
      · go_wp2_with (go_at_call 80; refine (follower_any _ _).mono ?_; rintro e w' ⟨rfl, rfl⟩)
        go_ret2
        have hh := HR.out; rw [HD.out] at hh; simp only [Rn.dec, hf] at hh
        exact ⟨ret_two (by rw [HN0.out, hh]; rfl) (by rw [HN0.out, hh]; rfl), _, rfl⟩
    · have he : 1 + j = (Rn.promI s[0].toNat).toNat := by omega
      have hz := HR.out
      rw [he, Rn.take_drop_end] at hz
      have HZ := Lib.hid hz; clear hz he HR
      by_cases hs2 : Rn.sizeI m = Rn.promI s[0].toNat
      · have hs3 : (Rn.sizeI m != Rn.promI s[0].toNat) = false := by simp [hs2]
        have HS := Lib.hid hs2; clear hs2
        go_wp2_with (go_at_call 81; refine (size_any _ _).mono ?_; rintro e w' ⟨rfl, rfl⟩)
        go_ret2
        exact ⟨ret_two (by rw [HN0.out, HZ.out]; simp [Rn.dec, Rn.fin, HS.out]) (by rw [HN0.out, HZ.out]; simp [Rn.dec, Rn.fin, HS.out]), _, rfl⟩
      · have hs3 : (Rn.sizeI m != Rn.promI s[0].toNat) = true := by simp [hs2]
        have HS := Lib.hid hs2; clear hs2
        go_wp2_with (go_at_call 81; refine (size_any _ _).mono ?_; rintro e w' ⟨rfl, rfl⟩)
        go_ret2
        exact ⟨ret_two (by rw [HN0.out, HZ.out]; simp [Rn.dec, Rn.fin, HS.out]) (by rw [HN0.out, HZ.out]; simp [Rn.dec, Rn.fin, HS.out]), _, rfl⟩
end Go.Proofs.Ythapedadnbkgnaa
