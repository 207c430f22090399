/- Edits in memory; the course's small functions, walked. -/
import Derived.Test.YtigibeioapkgiaaRpA
import Derived.Test.YtigibeioapkgiaaRnE
import Derived.StillTailTactics
namespace Go.Proofs.Ytigibeioapkgiaa
set_option linter.unusedVariables false
set_option linter.unusedSimpArgs false
open Go.RowKit
/-- an edit -/
structure Ed.E where
  pos : Int
  del : Int
  ins : ByteArray
/-- the edit lies at an address -/
structure Ed.At (w : World) (x : Addr) (e : Ed.E) : Prop where
  c0 : w.cell? x = some (.int .i64 e.pos)
  c1 : w.cell? ⟨x.block, x.off + 1, none⟩ = some (.int .i64 e.del)
  c2 : w.cell? ⟨x.block, x.off + 2, none⟩ = some (.string e.ins)
set_option maxHeartbeats 400000 in
theorem more_walk (c k n cap : Nat) (a : Option Addr) (w : World) (c0 : w.cell? ⟨c, 0, none⟩ = some (.int .i64 k)) (c4 : w.cell? ⟨c, 4, none⟩ = some (.slice a n cap)) :
    Calls Try.prog 27 #[.pointer (some ⟨c, 0, none⟩)] w fun e w' => e = .returned (.bool (decide (k < n))) ∧ ∃ m, w' = w.drewN m := by
  go_enter Try.func27, Try.ntmps27
  go_wp2
  go_quiet (fail)
  go_wp2
  go_ret
  exact ⟨ret_bool (by simp), _, rfl⟩
/-- a new edit lies in its block -/
theorem Ed.at_new (w : World) (e : Ed.E) : Ed.At (w.alloc (.cells #[.int .i64 e.pos, .int .i64 e.del, .string e.ins] 46)) ⟨w.heap.size, 0, none⟩ e := by
  constructor <;> simp [go_sem]
theorem Ed.At.up {w w' : World} {x : Addr} {e : Ed.E} (h : Ed.At w x e) (hb : Below w.heap.size w w') : Ed.At w' x e := ⟨Rp.cell_up hb h.c0, Rp.cell_up hb h.c1, Rp.cell_up hb h.c2⟩
set_option maxRecDepth 100000 in
set_option maxHeartbeats 400000 in
theorem edit_walk (c k n cap : Nat) (x : Addr) (e : Ed.E) (w : World) (c0 : w.cell? ⟨c, 0, none⟩ = some (.int .i64 k)) (c4 : w.cell? ⟨c, 4, none⟩ = some (.slice (some x) n cap)) (hk : k < n) (he : Ed.At w (x.add (k * 3)) e) :
    Calls Try.prog 31 #[.pointer (some ⟨c, 0, none⟩)] w fun r w' => r = .returned (.agg #[.int .i64 e.pos, .int .i64 e.del, .string e.ins]) ∧ Below w.heap.size w w' := by
  obtain ⟨e0, e1, e2⟩ := he
  have k1 : (0 : Int) ≤ (k : Int) := by omega
  have k2 : (k : Int) < (n : Int) := by omega
  have hb := below_new w (.cells #[.int .i64 0, .int .i64 0, .string ⟨#[]⟩] 46)
  have r0 := Rp.cell_up hb c0
  have r4 := Rp.cell_up hb c4
  have f0 := Rp.cell_up hb e0
  have f1 := Rp.cell_up hb e1
  have f2 := Rp.cell_up hb e2
  have n0 : (w.alloc (.cells #[.int .i64 0, .int .i64 0, .string ⟨#[]⟩] 46)).cell? ⟨w.heap.size, 0, none⟩ = some (.int .i64 0) := by simp [go_sem]
  have n1 : (w.alloc (.cells #[.int .i64 0, .int .i64 0, .string ⟨#[]⟩] 46)).cell? ⟨w.heap.size, 1, none⟩ = some (.int .i64 0) := by simp [go_sem]
  have n2 : (w.alloc (.cells #[.int .i64 0, .int .i64 0, .string ⟨#[]⟩] 46)).cell? ⟨w.heap.size, 2, none⟩ = some (.string ⟨#[]⟩) := by simp [go_sem]
  have z0 : (w.alloc (.cells #[.int .i64 0, .int .i64 0, .string ⟨#[]⟩] 46)).frozen? ⟨w.heap.size, 0, none⟩ = false := by simp [go_sem]
  have z1 : (w.alloc (.cells #[.int .i64 0, .int .i64 0, .string ⟨#[]⟩] 46)).frozen? ⟨w.heap.size, 1, none⟩ = false := by simp [go_sem]
  have z2 : (w.alloc (.cells #[.int .i64 0, .int .i64 0, .string ⟨#[]⟩] 46)).frozen? ⟨w.heap.size, 2, none⟩ = false := by simp [go_sem]
  go_enter Try.func31, Try.ntmps31
  go_wp2
  clear c0 c4 e0 e1 e2
  generalize w.alloc (.cells #[.int .i64 0, .int .i64 0, .string ⟨#[]⟩] 46) = W at *
  go_still_tail 11, (by kernel_rfl)
  change wpList _ _ _ _ _ W.drew
  change W.drew.cell? _ = _ at n0
  change W.drew.cell? _ = _ at n1
  change W.drew.cell? _ = _ at n2
  change W.drew.frozen? _ = _ at z0
  change W.drew.frozen? _ = _ at z1
  change W.drew.frozen? _ = _ at z2
  replace hb := hb.drew
  clear r0 r4 f0 f1 f2
  generalize W.drew = w2 at *
  go_wp2
  exact bodyPost_ret (v := .agg #[.int .i64 e.pos, .int .i64 e.del, .string e.ins]) (by simp [results, Try.results31, go_sem, n0, n1, n2]) rfl ⟨rfl, ((hb.setCell (Nat.le_refl _) _).setCell (Nat.le_refl _) _).setCell (Nat.le_refl _) _⟩
set_option maxHeartbeats 400000 in
theorem grown_walk (a b c d : Int) (w : World) (h1 : -9223372036854775808 ≤ c - b) (h2 : c - b ≤ 9223372036854775807) :
    Calls Try.prog 30 #[.agg #[.int .i64 a, .int .i64 b, .int .i64 c, .int .i64 d]] w fun r w' => r = .returned (.int .i64 (c - b)) ∧ Below w.heap.size w w' := by
  go_enter Try.func30, Try.ntmps30
  go_wp2
  go_ret
  exact ⟨rfl, below_new _ _⟩
/-- the course in block c: k edits passed, o bytes taken out by them, i put in, the last one's end t; its list -/
structure Ed.Crs (w : World) (c k : Nat) (o i t : Int) (a : Option Addr) (n cap : Nat) : Prop where
  c0 : w.cell? ⟨c, 0, none⟩ = some (.int .i64 k)
  c1 : w.cell? ⟨c, 1, none⟩ = some (.int .i64 o)
  c2 : w.cell? ⟨c, 2, none⟩ = some (.int .i64 i)
  c3 : w.cell? ⟨c, 3, none⟩ = some (.int .i64 t)
  c4 : w.cell? ⟨c, 4, none⟩ = some (.slice a n cap)
  z0 : w.frozen? ⟨c, 0, none⟩ = false
  z1 : w.frozen? ⟨c, 1, none⟩ = false
  z2 : w.frozen? ⟨c, 2, none⟩ = false
  z3 : w.frozen? ⟨c, 3, none⟩ = false
theorem Ed.Crs.lt {w : World} {c k : Nat} {o i t : Int} {a : Option Addr} {n cap : Nat} (h : Ed.Crs w c k o i t a n cap) : c < w.heap.size := World.block_lt_of_cell? w _ h.c0
theorem Ed.Crs.up {w w' : World} {c k : Nat} {o i t : Int} {a : Option Addr} {n cap : Nat} (h : Ed.Crs w c k o i t a n cap) (hb : Below w.heap.size w w') : Ed.Crs w' c k o i t a n cap := by
  have hl := h.lt
  exact ⟨Rp.cell_up hb h.c0, Rp.cell_up hb h.c1, Rp.cell_up hb h.c2, Rp.cell_up hb h.c3, Rp.cell_up hb h.c4, by rw [hb.frozen hl]; exact h.z0, by rw [hb.frozen hl]; exact h.z1, by rw [hb.frozen hl]; exact h.z2, by rw [hb.frozen hl]; exact h.z3⟩
theorem Ed.crs_new (w : World) (a : Option Addr) (n cap : Nat) : Ed.Crs (w.alloc (.cells #[.int .i64 0, .int .i64 0, .int .i64 0, .int .i64 0, .slice a n cap] 57)) w.heap.size 0 0 0 0 a n cap := by
  constructor <;> simp [go_sem]
theorem Ed.grown_of {w w' : World} (c : Nat) (h : Below w.heap.size w w') : w.grownBy w' (some c) := ⟨h.os, h.tape, h.output, h.size, fun k hk _ => h.block k hk⟩
theorem Ed.grown_set {w v : World} {c : Nat} (h : w.grownBy v (some c)) (j : Nat) (u : Value) : w.grownBy (v.setCell ⟨c, j, none⟩ u) (some c) :=
  ⟨h.os, h.tape, h.output, by rw [show (v.setCell ⟨c, j, none⟩ u).heap.size = v.heap.size by simp [go_sem]]; exact h.size, fun k hk hn => by rw [Below.heap_setCell _ _ _ _ (fun e => hn (by rw [e]))]; exact h.block k hk hn⟩
/-- behind pass -/
def Ed.PassPost (w : World) (c k : Nat) (o i t : Int) (a : Option Addr) (n cap : Nat) (r : Ending) (w' : World) : Prop := r = .returned (.tuple #[]) ∧ Ed.Crs w' c k o i t a n cap ∧ w.grownBy w' (some c)
theorem Ed.crs_set {w : World} {c k : Nat} {o i t : Int} {a : Option Addr} {n cap : Nat} (h : Ed.Crs w c k o i t a n cap) (k' : Nat) (o' i' t' : Int) :
    Ed.Crs ((((w.setCell ⟨c, 0, none⟩ (.int .i64 k')).setCell ⟨c, 1, none⟩ (.int .i64 o')).setCell ⟨c, 2, none⟩ (.int .i64 i')).setCell ⟨c, 3, none⟩ (.int .i64 t')) c k' o' i' t' a n cap := by
  obtain ⟨c0, c1, c2, c3, c4, z0, z1, z2, z3⟩ := h
  constructor <;> simp [go_sem, c0, c1, c2, c3, c4, z0, z1, z2, z3]
set_option maxRecDepth 100000 in
set_option maxHeartbeats 400000 in
theorem pass_walk (c k n cap : Nat) (o i t : Int) (x : Addr) (e : Ed.E) (w : World) (hc : Ed.Crs w c k o i t (some x) n cap) (hk : k < n) (he : Ed.At w (x.add (k * 3)) e)
    (b0 : (k : Int) + 1 ≤ 9223372036854775807) (b1 : -9223372036854775808 ≤ o + e.del) (b2 : o + e.del ≤ 9223372036854775807) (b3 : -9223372036854775808 ≤ i + e.ins.size) (b4 : i + e.ins.size ≤ 9223372036854775807) (b5 : -9223372036854775808 ≤ e.pos + e.del) (b6 : e.pos + e.del ≤ 9223372036854775807) :
    Calls Try.prog 29 #[.pointer (some ⟨c, 0, none⟩)] w (Ed.PassPost w c (k + 1) (o + e.del) (i + e.ins.size) (e.pos + e.del) (some x) n cap) := by
  have w0 : IntKind.i64.wrap ((k : Int) + 1) = (k + 1 : Nat) := by rw [IntWalk.i64_in _ (by omega)]; rfl
  have w1 : IntKind.i64.wrap (o + e.del) = o + e.del := IntWalk.i64_in _ (by omega)
  have w2 : IntKind.i64.wrap (i + (e.ins.size : Int)) = i + e.ins.size := IntWalk.i64_in _ (by omega)
  have w3 : IntKind.i64.wrap (e.pos + e.del) = e.pos + e.del := IntWalk.i64_in _ (by omega)
  go_enter Try.func29, Try.ntmps29
  go_wp2_with fail
  refine (edit_walk c k n cap x e _ hc.c0 hc.c4 hk he).mono ?_
  rintro r w1 ⟨rfl, hb⟩
  go_wp2_with fail
  obtain ⟨e0, e1, e2⟩ := Ed.at_new w1 e
  have hb2 := hb.alloc hb.size (.cells #[.int .i64 e.pos, .int .i64 e.del, .string e.ins] 46)
  have hc2 := hc.up hb2
  clear hc he
  generalize w1.alloc (.cells #[.int .i64 e.pos, .int .i64 e.del, .string e.ins] 46) = W at *
  have HC := Lib.hid hc2
  obtain ⟨c0, c1, c2, c3, c4, z0, z1, z2, z3⟩ := hc2
  go_still_tail 32, (by kernel_rfl)
  change wpList _ _ _ _ _ W.drew
  clear e0 e1 e2
  have HD : Ed.Crs W.drew c k o i t (some x) n cap := HC.out.up (Below.refl _ _).drew
  clear HC c0 c1 c2 c3 c4 z0 z1 z2 z3
  replace hb2 := hb2.drew
  generalize W.drew = V at *
  have HV := Lib.hid HD
  obtain ⟨c0, c1, c2, c3, c4, z0, z1, z2, z3⟩ := HD
  go_wp2_with fail
  go_end0
  exact ⟨rfl, Ed.crs_set HV.out _ _ _ _, Ed.grown_set (Ed.grown_set (Ed.grown_set (Ed.grown_set (Ed.grown_of c hb2) _ _) _ _) _ _) _ _⟩
end Go.Proofs.Ytigibeioapkgiaa
