/- What a rope's methods answer, walked: counts, height, slices, the text. -/
import Derived.Test.YtigibeioapkgiaaRpJ
namespace Go.Proofs.Ytigibeioapkgiaa
set_option linter.unusedVariables false
set_option linter.unusedSimpArgs false
open Go.RowKit
open Rp (Tr)
theorem Rp.field_0 (a b c : Int) (w : World) : (Instr.field 67 (.agg #[.int .i64 a, .int .i64 b, .int .i64 c]) 0).run Try.prog w = .ok (.int .i64 a) w := by kernel_rfl
theorem Rp.field_1 (a b c : Int) (w : World) : (Instr.field 67 (.agg #[.int .i64 a, .int .i64 b, .int .i64 c]) 1).run Try.prog w = .ok (.int .i64 b) w := by kernel_rfl
theorem Rp.field_2 (a b c : Int) (w : World) : (Instr.field 67 (.agg #[.int .i64 a, .int .i64 b, .int .i64 c]) 2).run Try.prog w = .ok (.int .i64 c) w := by kernel_rfl
/-- the counts of the text l are answered -/
def Rp.CPost (w : World) (l : List UInt8) (e : Ending) (w' : World) : Prop := e = .returned (.agg #[.int .i64 l.length, .int .i64 (Rp.lns l), .int .i64 (Rn.cnt l)]) ∧ Below w.heap.size w w'
set_option maxHeartbeats 400000 in
theorem all_any (p : Option Addr) (l : List UInt8) (w : World) (hp : Rp.Rep w p l) : Calls Try.prog 36 #[.agg #[.pointer p]] w (Rp.CPost w l) := by
  rcases hp with ⟨rfl, rfl⟩ | ⟨a, t, rfl, ha, g, rfl⟩
  · go_enter Try.func36, Try.ntmps36
    go_wp2_with fail
    exact bodyPost_ret (v := .agg #[.int .i64 0, .int .i64 0, .int .i64 0]) (by simp [results, Try.results36, go_sem]) rfl ⟨rfl, ((Below.refl _ _).alloc (Nat.le_refl _) _).alloc (by simp) _⟩
  · obtain ⟨_, _, ⟨c0, c1, c2, _, _, _, _⟩⟩ := ha.cells
    have lt := ha.lt
    go_enter Try.func36, Try.ntmps36
    go_wp2_with fail
    exact bodyPost_ret (v := .agg #[.int .i64 t.len, .int .i64 (Rp.lns t.toL), .int .i64 (Rn.cnt t.toL)]) (by simp [results, Try.results36, go_sem]) rfl ⟨rfl, ((Below.refl _ _).alloc (Nat.le_refl _) _).alloc (by simp) _⟩
def Rp.IPost (w : World) (n : Int) (e : Ending) (w' : World) : Prop := e = .returned (.int .i64 n) ∧ Below w.heap.size w w'
set_option maxHeartbeats 400000 in
theorem len_any (p : Option Addr) (l : List UInt8) (w : World) (hp : Rp.Rep w p l) : Calls Try.prog 14 #[.agg #[.pointer p]] w (Rp.IPost w l.length) := by
  have hf := Rp.field_0
  go_enter Try.func14, Try.ntmps14
  go_wp2_with (go_at_call 36; refine (all_any p l _ (hp.up ((Below.refl _ _).alloc (Nat.le_refl _) _))).mono ?_; rintro e w1 ⟨rfl, hb1⟩)
  go_ret
  exact ⟨rfl, ((Below.refl _ _).alloc (Nat.le_refl _) _).trans (hb1.mono (by simp [go_sem]))⟩
/-- a text's height is n -/
def Rp.HtOf (w : World) (p : Option Addr) (n : Nat) : Prop := (p = none ∧ n = 0) ∨ ∃ b t, p = some ⟨b, 0, none⟩ ∧ Rp.IsPart w b t ∧ n = t.ht
theorem Rp.Rep.bound {w : World} {p : Option Addr} {l : List UInt8} (h : Rp.Rep w p l) : ∃ n : Nat, n ≤ 4 + 2 * Rp.bits l.length ∧ Rp.HtOf w p n := by
  rcases h with ⟨rfl, rfl⟩ | ⟨a, t, rfl, ha, g, rfl⟩
  · exact ⟨0, Nat.zero_le _, .inl ⟨rfl, rfl⟩⟩
  · exact ⟨t.ht, Rp.good_bound g, .inr ⟨a, t, rfl, ha, rfl⟩⟩
theorem Rp.HtOf.up {w w1 : World} (hb : Below w.heap.size w w1) {p : Option Addr} {n : Nat} (h : Rp.HtOf w p n) : Rp.HtOf w1 p n := by
  rcases h with h | ⟨b, t, e, hp, hn⟩
  · exact .inl h
  · exact .inr ⟨b, t, e, hp.up hb, hn⟩
/-- is from f to g a span of n bytes? -/
def Rp.spanB (n : Nat) (f g : Int) : Bool := decide (0 ≤ f) && decide (f ≤ g) && decide (g ≤ n)
theorem Rp.spanB_true {n : Nat} {f g : Int} (h : Rp.spanB n f g = true) : 0 ≤ f ∧ f ≤ g ∧ g ≤ n := by simp [Rp.spanB] at h; omega
def Rp.BPost (w : World) (n : Bool) (e : Ending) (w' : World) : Prop := e = .returned (.bool n) ∧ Below w.heap.size w w'
set_option maxHeartbeats 400000 in
theorem holds_any (p : Option Addr) (l : List UInt8) (f g : Int) (w : World) (hp : Rp.Rep w p l) : Calls Try.prog 49 #[.agg #[.pointer p], .int .i64 f, .int .i64 g] w (Rp.BPost w (Rp.spanB l.length f g)) := by
  by_cases h1 : 0 ≤ f
  · have d1 : decide (0 ≤ f) = true := by simp; omega
    by_cases h2 : f ≤ g
    · have d2 : decide (f ≤ g) = true := by simp; omega
      have e : Rp.spanB l.length f g = decide (g ≤ l.length) := by simp [Rp.spanB, h1, h2]
      have E := Lib.hid e; clear e h1 h2
      go_enter Try.func49, Try.ntmps49
      go_wp2_with (go_at_call 14; refine (len_any p l _ (hp.up ((Below.refl _ _).alloc (Nat.le_refl _) _))).mono ?_; rintro e w1 ⟨rfl, hb1⟩)
      all_goals
        go_ret
        refine ⟨?_, ((Below.refl _ _).alloc (Nat.le_refl _) _).trans (hb1.mono (by simp [go_sem]))⟩
        rw [E.out]; first | rfl | simp [*]
    · have d2 : decide (f ≤ g) = false := by simp; omega
      have e : Rp.spanB l.length f g = false := by simp [Rp.spanB, h2]
      have E := Lib.hid e; clear e h1 h2
      go_enter Try.func49, Try.ntmps49
      go_wp2_with fail
      go_ret
      exact ⟨by rw [E.out]; rfl, (Below.refl _ _).alloc (Nat.le_refl _) _⟩
  · have d1 : decide (0 ≤ f) = false := by simp; omega
    have e : Rp.spanB l.length f g = false := by simp [Rp.spanB, h1]
    have E := Lib.hid e; clear e h1
    go_enter Try.func49, Try.ntmps49
    go_wp2_with fail
    go_ret
    exact ⟨by rw [E.out]; rfl, (Below.refl _ _).alloc (Nat.le_refl _) _⟩
set_option maxHeartbeats 400000 in
theorem write_any (p : Option Addr) (l : List UInt8) (bb : Nat) (f g : Int) (bs : List UInt8) (W w : World) (hp : Rp.Rep W p l) (hW : Below W.heap.size W w) (hb : Lib.IsBuilder 86 5 W.heap.size bb (Lib.byteCells bs) w) (hl : bs.length + l.length ≤ 1000000) (f1 : -1000000 ≤ f) (f2 : f ≤ 1000000) (g1 : -1000000 ≤ g) (g2 : g ≤ 1000000) :
    Calls Try.prog 53 #[.pointer (some ⟨bb, 0, none⟩), .pointer p, .int .i64 f, .int .i64 g] w (Rp.WPost W bb (bs ++ Rp.sl l f g)) := by
  rcases hp with ⟨rfl, rfl⟩ | ⟨a, t, rfl, ha, G, rfl⟩
  · have e : Rp.sl [] f g = [] := by simp [Rp.sl]
    have E := Lib.hid e; clear e
    go_enter Try.func53, Try.ntmps53
    go_wp2_with fail
    go_end0
    exact ⟨rfl, by rw [E.out, List.append_nil]; exact hb, hW⟩
  · have e : t.toL.length = t.len := rfl
    rw [e] at hl
    exact write_t t a bb f g bs W w ha G hW hb hl (by omega) (by omega) (by omega) (by omega)
/-- the string of a list of bytes -/
def Rp.ofL (l : List UInt8) : ByteArray := ⟨l.toArray⟩
theorem Rp.ofL_data (l : List UInt8) : (Rp.ofL l).data.toList = l := by simp [Rp.ofL]
theorem Rp.ofL_size (l : List UInt8) : (Rp.ofL l).size = l.length := by simp [Rp.ofL, ByteArray.size]
theorem Rp.ofL_self (s : ByteArray) : Rp.ofL s.data.toList = s := by cases s; simp [Rp.ofL]
def Rp.SPost (w : World) (s : ByteArray) (n : Int) (e : Ending) (w' : World) : Prop := e = .returned (.tuple #[.string s, .int .i64 n]) ∧ Below w.heap.size w w'
set_option maxHeartbeats 400000 in
theorem slice_no (p : Option Addr) (l : List UInt8) (f g : Int) (w : World) (hp : Rp.Rep w p l) (h : Rp.spanB l.length f g = false) : Calls Try.prog 35 #[.agg #[.pointer p], .int .i64 f, .int .i64 g] w (Rp.SPost w (Rp.ofL []) 3) := by
  go_enter Try.func35, Try.ntmps35
  go_wp2_with (go_at_call 49; refine (holds_any p l f g _ (hp.up ((Below.refl _ _).alloc (Nat.le_refl _) _))).mono ?_; rintro e w1 ⟨rfl, hb1⟩)
  go_ret2
  exact ⟨rfl, ((Below.refl _ _).alloc (Nat.le_refl _) _).trans (hb1.mono (by simp [go_sem]))⟩
set_option maxHeartbeats 1000000 in
theorem slice_yes (p : Option Addr) (l : List UInt8) (f g : Int) (w : World) (hp : Rp.Rep w p l) (hl : l.length ≤ 1000000) (h : Rp.spanB l.length f g = true) : Calls Try.prog 35 #[.agg #[.pointer p], .int .i64 f, .int .i64 g] w (Rp.SPost w (Rp.ofL (Rp.sl l f g)) 0) := by
  obtain ⟨h1, h2, h3⟩ := Rp.spanB_true h
  obtain ⟨n, hn⟩ : ∃ n : Nat, g - f = n := ⟨(g - f).toNat, by omega⟩
  have hnb : n ≤ 281474976710656 := by omega
  go_enter Try.func35, Try.ntmps35
  go_wp2_with (go_at_call 49; refine (holds_any p l f g _ (hp.up ((Below.refl _ _).alloc (Nat.le_refl _) _))).mono ?_; rintro e w1 ⟨rfl, hb1⟩)
  have hpW : Rp.Rep w1 p l := hp.up (((Below.refl _ _).alloc (Nat.le_refl _) _).trans (hb1.mono (by simp [go_sem])))
  have hcell : w1.cell? ⟨w.heap.size, 0, none⟩ = some (.pointer p) := by rw [hb1.cell (by simp [go_sem])]; simp [go_sem]
  refine (Try.Builder_Grow_fresh w1.heap.size w1.heap.size n _ (Nat.le_refl _) (heap_alloc_new w1 _) (by simp [go_sem]) hnb).mono ?_
  rintro e w2 ⟨rfl, hbd, hb2⟩
  have hW2 : Below w1.heap.size w1 w2 := ((Below.refl _ _).alloc (Nat.le_refl _) _).trans hb2
  have hcell2 := Rp.cell_up hW2 hcell
  clear hn
  go_wp2_with fail
  refine (write_any p l w1.heap.size f g [] w1 w2 hpW hW2 (.inr hbd) (by simp; omega) (by omega) (by omega) (by omega) (by omega)).mono ?_
  rintro e w3 ⟨rfl, hbd3, hW3⟩
  clear hcell hcell2
  go_wp2_with fail
  refine (Try.Builder_String_any w1.heap.size w1.heap.size _ _ hbd3 hW3.size).mono ?_
  rintro e w4 ⟨rfl, hb4⟩
  go_wp2_with fail
  go_ret2
  refine ⟨rfl, ?_⟩
  exact (((Below.refl _ _).alloc (Nat.le_refl _) _).trans (hb1.mono (by simp [go_sem]))).trans ((hW3.trans hb4).mono (by have := hb1.size; simp [go_sem] at this; omega))
theorem Rp.sl_all (l : List UInt8) : Rp.sl l 0 l.length = l := by unfold Rp.sl; simp
theorem Rp.spanB_all (n : Nat) : Rp.spanB n 0 n = true := by simp [Rp.spanB]
def Rp.TPost (w : World) (s : ByteArray) (e : Ending) (w' : World) : Prop := e = .returned (.string s) ∧ Below w.heap.size w w'
set_option maxHeartbeats 1000000 in
theorem text_any (p : Option Addr) (l : List UInt8) (w : World) (hp : Rp.Rep w p l) (hl : l.length ≤ 1000000) : Calls Try.prog 13 #[.agg #[.pointer p]] w (Rp.TPost w (Rp.ofL l)) := by
  have HS := Lib.hid (Rp.sl_all l)
  go_enter Try.func13, Try.ntmps13
  go_wp2_with fail
  have hpW : Rp.Rep (w.alloc (.cells #[.pointer p] 27)) p l := hp.up ((Below.refl _ _).alloc (Nat.le_refl _) _)
  have hc0 : (w.alloc (.cells #[.pointer p] 27)).cell? ⟨w.heap.size, 0, none⟩ = some (.pointer p) := by simp [go_sem]
  have hbw : Below w.heap.size w (w.alloc (.cells #[.pointer p] 27)) := (Below.refl _ _).alloc (Nat.le_refl _) _
  generalize w.alloc (.cells #[.pointer p] 27) = W at *
  go_region_held3 (fun v => v.cell? ⟨w.heap.size, 0, none⟩ = some (.pointer p) ∧ Rp.Rep v p l ∧ Below w.heap.size w v)
    (first
      | (refine ⟨?_, ?_, ?_⟩ <;> with_reducible (first | (refine Rp.cell_dr ?_; assumption) | (refine Rp.Rep.dr ?_; assumption) | (refine Rp.below_dr ?_; assumption)))
      | (go_split_ands; refine ⟨?_, ?_, ?_⟩ <;> with_reducible (first | (refine Rp.cell_up hb2 ?_; assumption) | (refine Rp.Rep.up hb2 ?_; assumption) | (refine Rp.below_up ?_ hb2; assumption)))
      | (go_split_ands; refine ⟨?_, ?_, ?_⟩ <;> with_reducible (first | (refine Rp.cell_up hb1 ?_; assumption) | (refine Rp.Rep.up hb1 ?_; assumption) | (refine Rp.below_up ?_ hb1; assumption))))
    (first
      | (go_at_call 14; go_split_ands; refine (len_any p l _ (by assumption)).mono ?_; rintro e w1 ⟨rfl, hb1⟩)
      | (go_at_call 35; go_split_ands; refine (slice_yes p l 0 l.length _ (by assumption) hl (Rp.spanB_all _)).mono ?_; rintro e w2 ⟨rfl, hb2⟩))
  all_goals
    go_wp2_with fail
    go_ret
    go_split_ands
    refine ⟨?_, by assumption⟩
    rw [HS.out]; rfl
end Go.Proofs.Ytigibeioapkgiaa
