/- Regular expressions in memory; what the document's Count answers, walked. Sets as keys; sets held against each other. What the document's Same answers of the same expression, walked. The document's reader of signs: what see, take and special answer, walked. Rows that grow by append: what is kept. -/
import Derived.Test.YthapedadnbkgnaaG2
import Derived.Deep.DeepCutAuto
import Derived.Test.YthapedadnbkgnaaG1
import Derived.Maps.OwnSet
import Derived.DeepKeys4
import Derived.WideKeyPair
import Derived.Deep.RegionHeld3
import Derived.Deep.QuietTactic
import Derived.BigQuiet
import Derived.IntWalk
import Derived.Test.YthapedadnbkgnaaRows
import Derived.Below
import Derived.WalkKit
import Derived.Laws.AppendOwn
import Derived.OwnWalk
namespace Go.Proofs.Ythapedadnbkgnaa
set_option linter.unusedVariables false
set_option linter.unusedSimpArgs false
open Go.RowKit
structure Rx.Cell (w : World) (x : Addr) (k : Nat) (f : Nat → Bool) (a : Option Addr) (n cap : Nat) : Prop where
  c0 : w.cell? x = some (.int .u8 k)
  c1 : w.cell? ⟨x.block, x.off + 1, none⟩ = some (.int .u64 (Bs.word f 0))
  c2 : w.cell? ⟨x.block, x.off + 2, none⟩ = some (.int .u64 (Bs.word f 1))
  c3 : w.cell? ⟨x.block, x.off + 3, none⟩ = some (.int .u64 (Bs.word f 2))
  c4 : w.cell? ⟨x.block, x.off + 4, none⟩ = some (.int .u64 (Bs.word f 3))
  c5 : w.cell? ⟨x.block, x.off + 5, none⟩ = some (.slice a n cap)
theorem Rx.Cell.up {w w' : World} {x : Addr} {k : Nat} {f : Nat → Bool} {a : Option Addr} {n cap : Nat} (h : Rx.Cell w x k f a n cap) (hb : Below w.heap.size w w') : Rx.Cell w' x k f a n cap :=
  ⟨Bs.cell_up hb h.c0, Bs.cell_up hb h.c1, Bs.cell_up hb h.c2, Bs.cell_up hb h.c3, Bs.cell_up hb h.c4, Bs.cell_up hb h.c5⟩
mutual
def Rx.In (w : World) : Rx → Addr → Prop
  | .node k f l, x => k < 256 ∧ ∃ a cap, Rx.Cell w x k f a l.length cap ∧ Rx.InL w l a 0
def Rx.InL (w : World) : List Rx → Option Addr → Nat → Prop
  | [], _, _ => True
  | y :: r, a, i => (∃ p, a = some p ∧ Rx.In w y (p.add (i * 6))) ∧ Rx.InL w r a (i + 1)
end
def Rx.hdr (k : Nat) (f : Nat → Bool) (a : Option Addr) (n cap : Nat) : Value := .agg #[.int .u8 k, .int .u64 (Bs.word f 0), .int .u64 (Bs.word f 1), .int .u64 (Bs.word f 2), .int .u64 (Bs.word f 3), .slice a n cap]
def Rx.Is (w : World) : Rx → Value → Prop
  | .node k f l, v => k < 256 ∧ ∃ a cap, v = Rx.hdr k f a l.length cap ∧ Rx.InL w l a 0
mutual
theorem Rx.In.up {w w' : World} (hb : Below w.heap.size w w') : ∀ {x : Rx} {p : Addr}, Rx.In w x p → Rx.In w' x p
  | .node k f l, p, h => by
    simp only [Rx.In] at h ⊢
    obtain ⟨hk, a, cap, hc, hl⟩ := h
    exact ⟨hk, a, cap, hc.up hb, Rx.InL.up hb hl⟩
theorem Rx.InL.up {w w' : World} (hb : Below w.heap.size w w') : ∀ {l : List Rx} {a : Option Addr} {i : Nat}, Rx.InL w l a i → Rx.InL w' l a i
  | [], _, _, _ => by simp [Rx.InL]
  | y :: r, a, i, h => by
    simp only [Rx.InL] at h ⊢
    obtain ⟨⟨p, e, hp⟩, hr⟩ := h
    exact ⟨⟨p, e, Rx.In.up hb hp⟩, Rx.InL.up hb hr⟩
end
theorem Rx.Is.up {w w' : World} (hb : Below w.heap.size w w') {x : Rx} {v : Value} (h : Rx.Is w x v) : Rx.Is w' x v := by
  cases x
  obtain ⟨hk, a, cap, e, hl⟩ := h
  exact ⟨hk, a, cap, e, hl.up hb⟩
theorem Rx.InL.get {w : World} : ∀ {l : List Rx} {a : Option Addr} {i : Nat}, Rx.InL w l a i → ∀ j (h : j < l.length), ∃ p, a = some p ∧ Rx.In w l[j] (p.add ((i + j) * 6))
  | [], _, _, _, j, h => by simp at h
  | y :: r, a, i, hl, j, h => by
    simp only [Rx.InL] at hl
    cases j with
    | zero => simpa using hl.1
    | succ j =>
      obtain ⟨p, e, hp⟩ := Rx.InL.get hl.2 j (by simpa using h)
      refine ⟨p, e, ?_⟩
      rw [show i + 1 + j = i + (j + 1) by omega] at hp
      simpa using hp
theorem Rx.InL.of {w : World} : ∀ {l : List Rx} {a : Option Addr} {i : Nat}, (∀ j (h : j < l.length), ∃ p, a = some p ∧ Rx.In w l[j] (p.add ((i + j) * 6))) → Rx.InL w l a i
  | [], _, _, _ => by simp [Rx.InL]
  | y :: r, a, i, hl => by
    simp only [Rx.InL]
    refine ⟨by have h0 := hl 0 (by simp); rw [Nat.add_zero, List.getElem_cons_zero] at h0; exact h0, Rx.InL.of fun j h => ?_⟩
    obtain ⟨p, e, hp⟩ := hl (j + 1) (by simpa using h)
    refine ⟨p, e, ?_⟩
    rw [show i + 1 + j = i + (j + 1) by omega]
    simpa using hp
theorem Rx.cell_new (w : World) (k : Nat) (f : Nat → Bool) (a : Option Addr) (n cap : Nat) (t : TypeId) : Rx.Cell (w.alloc (.cells #[.int .u8 k, .int .u64 (Bs.word f 0), .int .u64 (Bs.word f 1), .int .u64 (Bs.word f 2), .int .u64 (Bs.word f 3), .slice a n cap] t)) ⟨w.heap.size, 0, none⟩ k f a n cap := by
  constructor <;> simp [go_sem]
end Go.Proofs.Ythapedadnbkgnaa
namespace Go.Proofs.Ythapedadnbkgnaa
set_option linter.unusedVariables false
set_option linter.unusedSimpArgs false
open Go.RowKit
open Go.Maps (Keyed)
set_option maxRecDepth 100000 in
theorem Bs.laidOut : laidOutB Try.prog = true := by kernel_rfl
set_option maxRecDepth 100000 in
theorem Bs.rowSet : (25 : TypeId) < Try.prog.types.size := of_decide_eq_true (by kernel_rfl)
set_option maxRecDepth 100000 in
theorem Bs.wideSet : (match Try.prog.underlying 25 with | some (.array _ _) | some (.struct _) => true | _ => false) = true := by rw [Try.underlying25]
set_option maxRecDepth 100000 in
theorem Bs.keyed : Keyed Try.prog 25 := Keyed.of_law (deep_law_laid Bs.laidOut (m := 2) (by omega) Bs.rowSet (by kernel_rfl) Bs.wideSet)
set_option maxRecDepth 100000 in
theorem Bs.arrKey : WideMaps.ArrKey Try.prog 25 23 4 := ⟨Try.underlying25, by kernel_rfl, by kernel_rfl, by kernel_rfl⟩
def Bs.key (f : Nat → Bool) : Lit := .string (keyBytes [.int .u64 (Bs.word f 0), .int .u64 (Bs.word f 1), .int .u64 (Bs.word f 2), .int .u64 (Bs.word f 3)])
set_option maxRecDepth 100000 in
theorem Bs.wf_word (f : Nat → Bool) (i : Nat) : (Lit.int .u64 (Bs.word f i)).wf = true := by
  have := Bs.word_lt f i
  simp [Lit.wf, IntKind.min, IntKind.max, IntKind.signed, IntKind.bits]
  omega
set_option maxRecDepth 100000 in
theorem Bs.keyOf_val (f : Nat → Bool) : keyOf Try.prog 25 (.agg #[.int .u64 (Bs.word f 0), .int .u64 (Bs.word f 1), .int .u64 (Bs.word f 2), .int .u64 (Bs.word f 3)]) = some (Bs.key f) := by
  have A := Bs.arrKey
  have hsz : ∃ m, Try.prog.types.size = m + 1 := ⟨Try.prog.types.size - 1, (Nat.succ_pred_eq_of_pos (Nat.lt_of_le_of_lt (Nat.zero_le _) Bs.rowSet)).symm⟩
  have hkt := A.keyType hsz
  have he := Try.underlying23
  have w0 := Bs.wf_word f 0; have w1 := Bs.wf_word f 1; have w2 := Bs.wf_word f 2; have w3 := Bs.wf_word f 3
  obtain ⟨m, hm⟩ := hsz
  unfold keyOf
  simp only [A.hu]
  rw [if_pos (by simp [hkt, Value.formed, A.hu, A.size]), hm]
  unfold Program.keyLits
  simp only [A.hu, Value.cells]
  rw [if_pos (by rw [A.size]; rfl), show List.range 4 = [0, 1, 2, 3] from rfl, List.mapM_cons, List.mapM_cons, List.mapM_cons, List.mapM_cons, List.mapM_nil]
  simp [A.one, Program.keyLits, he, w0, w1, w2, w3, Bs.key]
set_option maxRecDepth 100000 in
theorem Bs.key_is (f : Nat → Bool) : WideAt.IsKeyLit (Bs.key f) := Bs.keyed.key (Bs.keyOf_val f)
set_option maxRecDepth 100000 in
theorem Bs.key_inj {f g : Nat → Bool} (h : Bs.key f = Bs.key g) : Bs.val f = Bs.val g := Bs.keyed.inj (Bs.keyOf_val f) (by rw [h]; exact Bs.keyOf_val g)
set_option maxRecDepth 100000 in
theorem Bs.key_congr {f g : Nat → Bool} (h : Bs.val f = Bs.val g) : Bs.key f = Bs.key g := by
  have a := Bs.keyOf_val f
  have b := Bs.keyOf_val g
  unfold Bs.val at h
  rw [h, b] at a
  exact (Option.some.inj a).symm
def Bs.same (f g : Nat → Bool) : Bool := (List.range 256).all fun c => f c == g c
end Go.Proofs.Ythapedadnbkgnaa
namespace Go.Proofs.Ythapedadnbkgnaa
set_option linter.unusedVariables false
set_option linter.unusedSimpArgs false
open Go.RowKit
theorem Rx.Is.dr {w : World} {x : Rx} {v : Value} (h : Rx.Is w x v) : Rx.Is w.drew x v := h.up (Below.refl _ _).drew
theorem Rx.In.open {w : World} {x : Rx} {p : Addr} (h : Rx.In w x p) : ∃ k f a n cap, Rx.Cell w p k f a n cap ∧ Rx.Is w x (Rx.hdr k f a n cap) := by
  obtain ⟨k', f', l'⟩ := x
  simp only [Rx.In] at h
  obtain ⟨h1, a', cap', h2, h3⟩ := h
  exact ⟨k', f', a', _, cap', h2, h1, a', cap', rfl, h3⟩
open Go.RowKit
def Rx.Sg (w : World) (a : Option Addr) (L : List Int) : Prop := ∀ i (h : i < L.length), ∃ x, a = some x ∧ w.cell? (x.add i) = some (.int .i64 L[i])
theorem Rx.Sg.up {w w' : World} {a : Option Addr} {L : List Int} (h : Rx.Sg w a L) (hb : Below w.heap.size w w') : Rx.Sg w' a L := fun i hi => by
  obtain ⟨x, e, h⟩ := h i hi
  exact ⟨x, e, Bs.cell_up hb h⟩
structure Rx.Rd (w : World) (r : Nat) (a : Option Addr) (L : List Int) (cap : Nat) (i : Int) (bad big : Bool) : Prop where
  c0 : w.cell? ⟨r, 0, none⟩ = some (.slice a L.length cap)
  c1 : w.cell? ⟨r, 1, none⟩ = some (.int .i64 i)
  c2 : w.cell? ⟨r, 2, none⟩ = some (.bool bad)
  c3 : w.cell? ⟨r, 3, none⟩ = some (.bool big)
  z1 : w.frozen? ⟨r, 1, none⟩ = false
  z2 : w.frozen? ⟨r, 2, none⟩ = false
  z3 : w.frozen? ⟨r, 3, none⟩ = false
  sg : Rx.Sg w a L
  ne : ∀ x, a = some x → x.block ≠ r
  nn : ∀ c ∈ L, 0 ≤ c
  ln : L.length ≤ 1000
  only : ∀ j v, w.cell? ⟨r, j, none⟩ = some v → j < 4
theorem Rx.Rd.lt {w : World} {r : Nat} {a : Option Addr} {L : List Int} {cap : Nat} {i : Int} {bad big : Bool} (h : Rx.Rd w r a L cap i bad big) : r < w.heap.size := World.block_lt_of_cell? w _ h.c0
theorem Rx.Rd.up {w w' : World} {r : Nat} {a : Option Addr} {L : List Int} {cap : Nat} {i : Int} {bad big : Bool} (h : Rx.Rd w r a L cap i bad big) (hb : Below w.heap.size w w') : Rx.Rd w' r a L cap i bad big := by
  have hl := h.lt
  exact ⟨Bs.cell_up hb h.c0, Bs.cell_up hb h.c1, Bs.cell_up hb h.c2, Bs.cell_up hb h.c3, by rw [hb.frozen hl]; exact h.z1, by rw [hb.frozen hl]; exact h.z2, by rw [hb.frozen hl]; exact h.z3, h.sg.up hb, h.ne, h.nn, h.ln, fun j v hv => h.only j v (by rw [← hb.cell (p := ⟨r, j, none⟩) hl]; exact hv)⟩
theorem Rx.Sg.set {w : World} {a : Option Addr} {L : List Int} {r j : Nat} {v : Value} (h : Rx.Sg w a L) (hn : ∀ x, a = some x → x.block ≠ r) : Rx.Sg (w.setCell ⟨r, j, none⟩ v) a L := fun i hi => by
  obtain ⟨x, e, h⟩ := h i hi
  have e2 : (x.add i).block = x.block := by
    simp only [Addr.add]
    split <;> rfl
  exact ⟨x, e, Bs.cell_set h (fun e' => hn x e (e2.symm.trans e'.symm))⟩
def Rx.St (w : World) (r : Nat) (a : Option Addr) (L : List Int) (cap : Nat) (t : Option (List Int)) (big : Bool) : Prop :=
  match t with
  | none => ∃ i, Rx.Rd w r a L cap i true big
  | some t => ∃ k : Nat, k ≤ L.length ∧ t = L.drop k ∧ Rx.Rd w r a L cap k false big
theorem Rx.St.up {w w' : World} {r : Nat} {a : Option Addr} {L : List Int} {cap : Nat} {t : Option (List Int)} {big : Bool} (h : Rx.St w r a L cap t big) (hb : Below w.heap.size w w') : Rx.St w' r a L cap t big := by
  cases t with
  | none => obtain ⟨i, h⟩ := h; exact ⟨i, h.up hb⟩
  | some t => obtain ⟨k, h1, h2, h⟩ := h; exact ⟨k, h1, h2, h.up hb⟩
theorem Rx.below_drewN (w : World) : ∀ n, Below w.heap.size w (w.drewN n) := fun n => by
  induction n with
  | zero => exact Below.refl _ _
  | succ n ih => exact ih.drew
theorem Rx.see_below {w w' : World} {n : Nat} (h : w' = w.drewN n) : Below w.heap.size w w' := by
  rw [h]
  exact Rx.below_drewN w n
theorem Rx.grown_of {w w' : World} (c : Nat) (h : Below w.heap.size w w') : w.grownBy w' (some c) := ⟨h.os, h.tape, h.output, h.size, fun k hk _ => h.block k hk⟩
theorem Rx.grown_set {w v : World} {c : Nat} (h : w.grownBy v (some c)) (j : Nat) (u : Value) : w.grownBy (v.setCell ⟨c, j, none⟩ u) (some c) :=
  ⟨h.os, h.tape, h.output, by rw [show (v.setCell ⟨c, j, none⟩ u).heap.size = v.heap.size by simp [go_sem]]; exact h.size, fun k hk hn => by rw [Below.heap_setCell _ _ _ _ (fun e => hn (by rw [e]))]; exact h.block k hk hn⟩
end Go.Proofs.Ythapedadnbkgnaa
namespace Go.Proofs.Ythapedadnbkgnaa
set_option linter.unusedVariables false
set_option linter.unusedSimpArgs false
open Go.RowKit
theorem Bs.grown_of_below {w w' : World} (h : Below w.heap.size w w') : w.grownBy w' none := ⟨h.os, h.tape, h.output, h.size, fun k hk _ => h.block k hk⟩
theorem Bs.row_up {w w' : World} {base : Nat} {e : TypeId} {size : Nat} {v : Value} {n : Nat} {xs : List Value} (h : w.ownsRow base e size v n xs) (hb : Below w.heap.size w w') : w'.ownsRow base e size v n xs := by
  refine h.kept (Bs.grown_of_below hb) ?_
  cases v.ownBlock
  · exact .inl rfl
  · exact .inr (by simp)
end Go.Proofs.Ythapedadnbkgnaa
