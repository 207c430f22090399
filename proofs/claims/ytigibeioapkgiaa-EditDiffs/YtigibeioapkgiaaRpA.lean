/- Parts in memory; what the small functions of layer 2 answer, walked. -/
import Derived.Test.YtigibeioapkgiaaRnB
import Derived.Test.YtigibeioapkgiaaRpM
import Derived.Deep.QuietTactic
import Derived.BigQuiet
import Derived.IntWalk
import Derived.Deep.RegionHeld3
import Derived.Below
namespace Go.Proofs.Ytigibeioapkgiaa
set_option linter.unusedVariables false
set_option linter.unusedSimpArgs false
open Go.RowKit
open Rp (Tr)
theorem Rp.below_drewN {B : Nat} {a w : World} (h : Below B a w) (n : Nat) : Below B a (w.drewN n) := h.trans ⟨rfl, rfl, rfl, Nat.le_refl _, fun _ _ => rfl⟩
theorem Rp.cell_on {w w1 : World} {B : Nat} (hb : Below B w w1) {a : Addr} {v : Value} (h : w.cell? a = some v) (hB : a.block < B) : w1.cell? a = some v := by rw [hb.cell hB]; exact h
theorem Rp.cell_up {w w1 : World} (hb : Below w.heap.size w w1) {a : Addr} {v : Value} (h : w.cell? a = some v) : w1.cell? a = some v := cell_on hb h (World.block_lt_of_cell? w _ h)
/-- how many line feeds -/
def Rp.lns (l : List UInt8) : Nat := l.count 10
theorem Rp.lns_le (l : List UInt8) : lns l ≤ l.length := List.count_le_length
theorem Rp.lns_append (a b : List UInt8) : lns (a ++ b) = lns a + lns b := List.count_append
theorem Rp.cnt_append (a b : List UInt8) : Rn.cnt (a ++ b) = Rn.cnt a + Rn.cnt b := by unfold Rn.cnt; rw [List.countP_append]; simp
/-- the seven cells of a part -/
structure Rp.Cells (w : World) (b : Nat) (t : Tr) (p q : Option Addr) : Prop where
  c0 : w.cell? ⟨b, 0, none⟩ = some (.int .i64 t.len)
  c1 : w.cell? ⟨b, 1, none⟩ = some (.int .i64 (Rp.lns t.toL))
  c2 : w.cell? ⟨b, 2, none⟩ = some (.int .i64 (Rn.cnt t.toL))
  c3 : w.cell? ⟨b, 3, none⟩ = some (.int .i64 t.ht)
  c4 : w.cell? ⟨b, 4, none⟩ = some (.string t.txt)
  c5 : w.cell? ⟨b, 5, none⟩ = some (.pointer p)
  c6 : w.cell? ⟨b, 6, none⟩ = some (.pointer q)
/-- the part in block b is t -/
def Rp.IsPart (w : World) : Nat → Tr → Prop
  | b, .leaf s => Rp.Cells w b (.leaf s) none none
  | b, .node l r => ∃ x y, Rp.Cells w b (.node l r) (some ⟨x, 0, none⟩) (some ⟨y, 0, none⟩) ∧ Rp.IsPart w x l ∧ Rp.IsPart w y r
theorem Rp.Cells.up {w w1 : World} {b : Nat} {t : Tr} {p q : Option Addr} (h : Rp.Cells w b t p q) (hb : Below w.heap.size w w1) : Rp.Cells w1 b t p q :=
  ⟨cell_up hb h.c0, cell_up hb h.c1, cell_up hb h.c2, cell_up hb h.c3, cell_up hb h.c4, cell_up hb h.c5, cell_up hb h.c6⟩
theorem Rp.IsPart.up {w w1 : World} (hb : Below w.heap.size w w1) {b : Nat} {t : Tr} (h : Rp.IsPart w b t) : Rp.IsPart w1 b t := by
  induction t generalizing b with
  | leaf s => exact Rp.Cells.up h hb
  | node l r il ir => obtain ⟨x, y, hc, hl, hr⟩ := h; exact ⟨x, y, hc.up hb, il hl, ir hr⟩
theorem Rp.IsPart.cells {w : World} {b : Nat} {t : Tr} (h : Rp.IsPart w b t) : ∃ p q, Rp.Cells w b t p q := by
  cases t with
  | leaf s => exact ⟨_, _, h⟩
  | node l r => obtain ⟨x, y, hc, _, _⟩ := h; exact ⟨_, _, hc⟩
theorem Rp.IsPart.lt {w : World} {b : Nat} {t : Tr} (h : Rp.IsPart w b t) : b < w.heap.size := by
  obtain ⟨p, q, hc⟩ := h.cells; exact World.block_lt_of_cell? w _ hc.c0
set_option maxHeartbeats 400000 in
theorem plus_any (a b c d e f : Int) (w : World) (ha : 0 ≤ a ∧ a ≤ 1099511627776) (hb : 0 ≤ b ∧ b ≤ 1099511627776) (hc : 0 ≤ c ∧ c ≤ 1099511627776) (hd : 0 ≤ d ∧ d ≤ 1099511627776) (he : 0 ≤ e ∧ e ≤ 1099511627776) (hf : 0 ≤ f ∧ f ≤ 1099511627776) :
    Calls Try.prog 58 #[.agg #[.int .i64 a, .int .i64 b, .int .i64 c], .agg #[.int .i64 d, .int .i64 e, .int .i64 f]] w fun e' w' => e' = .returned (.agg #[.int .i64 (a + d), .int .i64 (b + e), .int .i64 (c + f)]) ∧ Below w.heap.size w w' := by
  obtain ⟨ha1, ha2⟩ := ha; obtain ⟨hb1, hb2⟩ := hb; obtain ⟨hc1, hc2⟩ := hc; obtain ⟨hd1, hd2⟩ := hd; obtain ⟨he1, he2⟩ := he; obtain ⟨hf1, hf2⟩ := hf
  go_enter Try.func58, Try.ntmps58
  go_wp2
  exact bodyPost_ret (v := .agg #[.int .i64 (a + d), .int .i64 (b + e), .int .i64 (c + f)]) (by simp [results, Try.results58, go_sem]) rfl ⟨rfl, (((Below.refl _ _).alloc (Nat.le_refl _) _).alloc (by simp) _).alloc (by simp; omega) _⟩
/-- is the one of height x to be gone into for the one of height y? -/
def Rp.overB (x y : Nat) : Bool := decide (y + 1 < x) || (decide (x = 2) && decide (y = 1))
set_option maxHeartbeats 400000 in
theorem over_any (a b : Nat) (x y : Nat) (w : World) (ha : w.cell? ⟨a, 3, none⟩ = some (.int .i64 x)) (hb : w.cell? ⟨b, 3, none⟩ = some (.int .i64 y)) (hx : x ≤ 1099511627776) (hy : y ≤ 1099511627776) :
    Calls Try.prog 62 #[.pointer (some ⟨a, 0, none⟩), .pointer (some ⟨b, 0, none⟩)] w fun e w' => e = .returned (.bool (Rp.overB x y)) ∧ ∃ n, w' = w.drewN n := by
  have hw1 : IntKind.i64.wrap ((y : Int) + 1) = y + 1 := IntWalk.i64_in _ (by omega)
  by_cases h1 : y + 1 < x
  · have e : Rp.overB x y = true := by simp [Rp.overB, h1]
    rw [e]; clear e
    have h2 : decide ((y : Int) + 1 < (x : Int)) = true := by simp; omega
    go_enter Try.func62, Try.ntmps62
    go_wp2
    go_quiet (fail)
    go_wp2
    go_ret
    exact ⟨rfl, _, rfl⟩
  · have h2 : decide ((y : Int) + 1 < (x : Int)) = false := by simp; omega
    by_cases h3 : x = 2
    · have h3b : ((x : Int) == 2) = true := by simp; omega
      by_cases h4 : y = 1
      · have e : Rp.overB x y = true := by simp [Rp.overB, h3, h4]
        rw [e]; clear e
        have h4b : ((y : Int) == 1) = true := by simp; omega
        clear h1 h3 h4
        go_enter Try.func62, Try.ntmps62
        go_wp2
        go_quiet (fail)
        go_wp2
        go_ret
        exact ⟨rfl, _, rfl⟩
      · have e : Rp.overB x y = false := by simp [Rp.overB, h1, h4]
        rw [e]; clear e
        have h5 : ((y : Int) == 1) = false := beq_eq_false_iff_ne.2 (by omega)
        clear h1 h3 h4
        go_enter Try.func62, Try.ntmps62
        go_wp2
        go_quiet (fail)
        go_wp2
        go_ret
        exact ⟨rfl, _, rfl⟩
    · have e : Rp.overB x y = false := by simp [Rp.overB, h1, h3]
      rw [e]; clear e
      have h5 : ((x : Int) == 2) = false := beq_eq_false_iff_ne.2 (by omega)
      clear h1 h3
      go_enter Try.func62, Try.ntmps62
      go_wp2
      go_quiet (fail)
      go_wp2
      go_ret
      exact ⟨rfl, _, rfl⟩
set_option maxHeartbeats 400000 in
theorem single_any (a : Nat) (p : Option Addr) (w : World) (ha : w.cell? ⟨a, 5, none⟩ = some (.pointer p)) :
    Calls Try.prog 61 #[.pointer (some ⟨a, 0, none⟩)] w fun e w' => e = .returned (.bool p.isNone) ∧ w = w' := by
  cases p with
  | none =>
    go_enter Try.func61, Try.ntmps61
    go_wp2
    go_ret
    exact ⟨rfl, rfl⟩
  | some p =>
    go_enter Try.func61, Try.ntmps61
    go_wp2
    go_ret
    exact ⟨rfl, rfl⟩
end Go.Proofs.Ytigibeioapkgiaa
