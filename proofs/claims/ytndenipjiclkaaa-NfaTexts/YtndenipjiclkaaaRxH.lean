/- The document's reader of signs: what special, escape and bound answer, walked. The document's reader of signs: what escape and bound answer, walked. The document's reader of signs: expressions stay while it reads. What the document's one and several answer, walked. What the document's capped answers, walked. -/
import Derived.Test.YtndenipjiclkaaaRxC
namespace Go.Proofs.Ytndenipjiclkaaa
set_option linter.unusedVariables false
set_option linter.unusedSimpArgs false
open Go.RowKit
open Go.RowKit
/-- behind a reading that gives a number, or is bad -/
def Rx.OPost (w : World) (r : Nat) (a : Option Addr) (L : List Int) (cap : Nat) (o : Option (Int × List Int)) (big : Bool) (e : Ending) (w' : World) : Prop :=
  match o with
  | some (c, t) => Rx.TPost w r a L cap c (some t) big e w'
  | none => ∃ c, Rx.TPost w r a L cap c none big e w'
theorem Rx.St.bad {w : World} {r : Nat} {a : Option Addr} {L : List Int} {cap : Nat} {t : Option (List Int)} {big : Bool} (h : Rx.St w r a L cap t big) : ∃ i b, Rx.Rd w r a L cap i b big := by
  cases t with
  | none => obtain ⟨i, h⟩ := h; exact ⟨i, _, h⟩
  | some t => obtain ⟨k, _, _, h⟩ := h; exact ⟨k, _, h⟩
theorem Rx.opost_grown {w w1 w' : World} {r : Nat} {a : Option Addr} {L : List Int} {cap : Nat} {o : Option (Int × List Int)} {big : Bool} {e : Ending} (G : w.grownBy w1 (some r)) (h : Rx.OPost w1 r a L cap o big e w') : Rx.OPost w r a L cap o big e w' := by
  cases o with
  | none => obtain ⟨c, h1, h2, h3⟩ := h; exact ⟨c, h1, h2, G.trans h3⟩
  | some p => obtain ⟨h1, h2, h3⟩ := h; exact ⟨h1, h2, G.trans h3⟩
theorem Rx.opost_int {w w' : World} {r : Nat} {a : Option Addr} {L : List Int} {cap : Nat} {o : Option (Int × List Int)} {big : Bool} {e : Ending} (h : Rx.OPost w r a L cap o big e w') : ∃ c, e = .returned (.int .i64 c) := by
  cases o with
  | none => obtain ⟨c, h1, h2, h3⟩ := h; exact ⟨c, h1⟩
  | some p => obtain ⟨h1, h2, h3⟩ := h; exact ⟨_, h1⟩
open Go.RowKit
theorem Rx.Cell.grown {w w' : World} {r : Nat} (hg : w.grownBy w' (some r)) {x : Addr} {k : Nat} {f : Nat → Bool} {a : Option Addr} {n cap : Nat} (h : Rx.Cell w x k f a n cap) (hn : x.block ≠ r) : Rx.Cell w' x k f a n cap := by
  have hx : ∀ (y : Addr) (v : Value), y.block = x.block → w.cell? y = some v → w'.cell? y = some v := fun y v e hv => hg.cell hv (by rw [e]; simpa using hn)
  exact ⟨hx _ _ rfl h.c0, hx _ _ rfl h.c1, hx _ _ rfl h.c2, hx _ _ rfl h.c3, hx _ _ rfl h.c4, hx _ _ rfl h.c5⟩
theorem Rx.Cell.far {w : World} {r : Nat} {b : Option Addr} {L : List Int} {c : Nat} {i : Int} {bad big : Bool} (R : Rx.Rd w r b L c i bad big) {x : Addr} {k : Nat} {f : Nat → Bool} {a : Option Addr} {n cap : Nat} (h : Rx.Cell w x k f a n cap) : x.block ≠ r := fun e => by
  have h5 := h.c5
  rw [e] at h5
  have := R.only _ _ h5
  omega
mutual
theorem Rx.In.grown {w w' : World} {r : Nat} {b : Option Addr} {L : List Int} {c : Nat} {i : Int} {bad big : Bool} (R : Rx.Rd w r b L c i bad big) (hg : w.grownBy w' (some r)) : ∀ {x : Rx} {p : Addr}, Rx.In w x p → Rx.In w' x p
  | .node k f l, p, h => by
    simp only [Rx.In] at h ⊢
    obtain ⟨hk, a, cap, hc, hl⟩ := h
    exact ⟨hk, a, cap, hc.grown hg (Rx.Cell.far R hc), Rx.InL.grown R hg hl⟩
theorem Rx.InL.grown {w w' : World} {r : Nat} {b : Option Addr} {L : List Int} {c : Nat} {i : Int} {bad big : Bool} (R : Rx.Rd w r b L c i bad big) (hg : w.grownBy w' (some r)) : ∀ {l : List Rx} {a : Option Addr} {i : Nat}, Rx.InL w l a i → Rx.InL w' l a i
  | [], _, _, _ => by simp [Rx.InL]
  | y :: t, a, i, h => by
    simp only [Rx.InL] at h ⊢
    obtain ⟨⟨p, e, hp⟩, hr⟩ := h
    exact ⟨⟨p, e, Rx.In.grown R hg hp⟩, Rx.InL.grown R hg hr⟩
end
/-- an expression stays while the reader alone is written -/
theorem Rx.Is.grown {w w' : World} {r : Nat} {b : Option Addr} {L : List Int} {c : Nat} {i : Int} {bad big : Bool} (R : Rx.Rd w r b L c i bad big) (hg : w.grownBy w' (some r)) {x : Rx} {v : Value} (h : Rx.Is w x v) : Rx.Is w' x v := by
  cases x
  obtain ⟨hk, a, cap, e, hl⟩ := h
  exact ⟨hk, a, cap, e, hl.grown R hg⟩
open Go.RowKit
/-- behind a call that hands back an expression -/
def Rx.VPost (w : World) (x : Rx) (e : Ending) (w' : World) : Prop := ∃ v, e = .returned v ∧ Rx.Is w' x v ∧ Below w.heap.size w w'
theorem Rx.is_one (w : World) (f : Nat → Bool) : Rx.Is w (Rx.one f) (Rx.hdr 1 f none 0 0) := ⟨by omega, none, 0, rfl, trivial⟩
theorem Rx.is_nil (w : World) : Rx.Is w Rx.nil (Rx.hdr 0 (fun _ => false) none 0 0) := ⟨by omega, none, 0, rfl, trivial⟩
theorem Rx.hdr_none (k : Nat) (a : Option Addr) (n cap : Nat) : Rx.hdr k (fun _ => false) a n cap = .agg #[.int .u8 k, .int .u64 0, .int .u64 0, .int .u64 0, .int .u64 0, .slice a n cap] := by
  simp [Rx.hdr, Bs.word_none]
open Go.RowKit
/-- behind capped -/
def Rx.KPost (w : World) (r : Nat) (a : Option Addr) (L : List Int) (cap : Nat) (t : Option (List Int)) (big : Bool) (x : Rx) (e : Ending) (w' : World) : Prop :=
  ∃ v, e = .returned v ∧ Rx.Is w' (if x.may 1 = true then x else Rx.nil) v ∧ Rx.St w' r a L cap t (big || !x.may 1) ∧ w.grownBy w' (some r)
theorem Rx.St.setBig {w : World} {r : Nat} {a : Option Addr} {L : List Int} {cap : Nat} {t : Option (List Int)} {big : Bool} (h : Rx.St w r a L cap t big) (k : Bool) : Rx.St (w.setCell ⟨r, 3, none⟩ (.bool k)) r a L cap t k := by
  cases t with
  | none => obtain ⟨i, h⟩ := h; exact ⟨i, h.setBig k⟩
  | some t => obtain ⟨j, h1, h2, h⟩ := h; exact ⟨j, h1, h2, h.setBig k⟩
theorem Rx.add_block (x : Addr) (i : Nat) : (x.add i).block = x.block := by
  simp only [Addr.add]
  split <;> rfl
theorem Rx.Rd.far {w : World} {r : Nat} {a : Option Addr} {L : List Int} {cap : Nat} {i : Int} {bad big : Bool} (h : Rx.Rd w r a L cap i bad big) {d : Nat} (hd : d ≠ r) (hn : ∀ x, a = some x → L ≠ [] → x.block ≠ d) (j : Nat) (v : Value) : Rx.Rd (w.setCell ⟨d, j, none⟩ v) r a L cap i bad big := by
  refine ⟨Bs.cell_set h.c0 hd, Bs.cell_set h.c1 hd, Bs.cell_set h.c2 hd, Bs.cell_set h.c3 hd, by simpa using h.z1, by simpa using h.z2, by simpa using h.z3, ?_, h.ne, h.nn, h.ln, ?_⟩
  · intro q hq
    obtain ⟨x, e, hx⟩ := h.sg q hq
    exact ⟨x, e, Bs.cell_set hx (fun e' => hn x e (fun e0 => by rw [e0] at hq; simp at hq) ((Rx.add_block x q).symm.trans e'.symm))⟩
  · intro q u hq
    rw [World.cell?_setCell_other _ _ _ _ (by simp [hd])] at hq
    exact h.only q u hq
theorem Rx.St.far {w : World} {r : Nat} {a : Option Addr} {L : List Int} {cap : Nat} {t : Option (List Int)} {big : Bool} (h : Rx.St w r a L cap t big) {d : Nat} (hd : d ≠ r) (hn : ∀ x, a = some x → L ≠ [] → x.block ≠ d) (j : Nat) (v : Value) : Rx.St (w.setCell ⟨d, j, none⟩ v) r a L cap t big := by
  cases t with
  | none => obtain ⟨i, h⟩ := h; exact ⟨i, h.far hd hn j v⟩
  | some t => obtain ⟨q, h1, h2, h⟩ := h; exact ⟨q, h1, h2, h.far hd hn j v⟩
theorem Rx.St.home {w : World} {r : Nat} {a : Option Addr} {L : List Int} {cap : Nat} {t : Option (List Int)} {big : Bool} (h : Rx.St w r a L cap t big) (x : Addr) (e : a = some x) (hL : L ≠ []) : x.block < w.heap.size := by
  obtain ⟨_, _, R⟩ := h.bad
  obtain ⟨y, e', hy⟩ := R.sg 0 (by cases L with | nil => simp at hL | cons _ _ => simp)
  rw [e] at e'
  injection e' with e'
  subst e'
  have := World.block_lt_of_cell? w _ hy
  rwa [Rx.add_block] at this
/-- a write far from what stood is no write of it -/
theorem Rx.grown_far {w v : World} {c : Nat} {row : Option Nat} (h : w.grownBy v row) (hc : w.heap.size ≤ c) (j : Nat) (u : Value) : w.grownBy (v.setCell ⟨c, j, none⟩ u) row :=
  ⟨h.os, h.tape, h.output, by rw [show (v.setCell ⟨c, j, none⟩ u).heap.size = v.heap.size by simp [go_sem]]; exact h.size, fun k hk hn => by rw [Below.heap_setCell _ _ _ _ (by simp; omega)]; exact h.block k hk hn⟩
end Go.Proofs.Ytndenipjiclkaaa
