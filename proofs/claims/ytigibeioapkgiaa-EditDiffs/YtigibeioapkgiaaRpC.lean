/- What 'piece' and 'pair' answer, walked. -/
import Derived.Test.YtigibeioapkgiaaRpB
import Derived.Deep.DeepCutAuto
namespace Go.Proofs.Ytigibeioapkgiaa
set_option linter.unusedVariables false
set_option linter.unusedSimpArgs false
open Go.RowKit
open Rp (Tr)
/-- a new part is answered, which is t; nothing that was there has changed -/
def Rp.Made (w : World) (t : Tr) (e : Ending) (w' : World) : Prop := ∃ c, e = .returned (.pointer (some ⟨c, 0, none⟩)) ∧ Rp.IsPart w' c t ∧ Below w.heap.size w w'
theorem Rp.cells_new (w : World) (t : Tr) (p q : Option Addr) : Rp.Cells (w.alloc (.cells #[.int .i64 t.len, .int .i64 (Rp.lns t.toL), .int .i64 (Rn.cnt t.toL), .int .i64 t.ht, .string t.txt, .pointer p, .pointer q] 90)) w.heap.size t p q := by
  constructor <;> simp [go_sem]
theorem Rp.ne_empty {s : ByteArray} (h : 1 ≤ s.size) : s.toList.isEmpty = false := by
  rw [ByteArray.toList_eq, ← Bool.not_eq_true, List.isEmpty_iff_length_eq_zero, Rn.len_data0]; omega
theorem Rp.is_empty {s : ByteArray} (h : s.size = 0) : s.toList.isEmpty = true := by
  rw [ByteArray.toList_eq, List.isEmpty_iff_length_eq_zero, Rn.len_data0]; exact h
theorem Rp.bcell {W w1 : World} (hb : Below W.heap.size W w1) : (∀ b o, b < W.heap.size → w1.cell? ⟨b, o, none⟩ = W.cell? ⟨b, o, none⟩) ∧ (∀ b o, b < W.heap.size → w1.frozen? ⟨b, o, none⟩ = W.frozen? ⟨b, o, none⟩) :=
  ⟨fun b o h => hb.cell (p := ⟨b, o, none⟩) h, fun b o h => hb.frozen (p := ⟨b, o, none⟩) h⟩
theorem Rp.cell_dr {w : World} {a : Addr} {v : Value} (h : w.cell? a = some v) : w.drew.cell? a = some v := h
theorem Rp.Cells.dr {w : World} {b : Nat} {t : Tr} {p q : Option Addr} (h : Rp.Cells w b t p q) : Rp.Cells w.drew b t p q := ⟨h.c0, h.c1, h.c2, h.c3, h.c4, h.c5, h.c6⟩
theorem Rp.IsPart.al {w : World} {b : Nat} {t : Tr} (h : Rp.IsPart w b t) (o : Obj) : Rp.IsPart (w.alloc o) b t := h.up ((Below.refl _ _).alloc (Nat.le_refl _) _)
theorem Rp.IsPart.dr {w : World} {b : Nat} {t : Tr} (h : Rp.IsPart w b t) : Rp.IsPart w.drew b t := h.up (Below.refl _ _).drew
theorem Rp.cell_set {w : World} {a p : Addr} {v u : Value} (h : w.cell? a = some v) (hn : p.block ≠ a.block) : (w.setCell p u).cell? a = some v := by rw [World.cell?_setCell_far w p a u hn]; exact h
theorem Rp.new_kept {o w1 : World} {x y z : Value} {t : TypeId} (hb : Below (o.alloc (.cells #[x, y, z] t)).drew.heap.size (o.alloc (.cells #[x, y, z] t)).drew w1) :
    w1.cell? ⟨o.heap.size, 0, none⟩ = some x ∧ w1.cell? ⟨o.heap.size, 1, none⟩ = some y ∧ w1.cell? ⟨o.heap.size, 2, none⟩ = some z ∧ w1.frozen? ⟨o.heap.size, 0, none⟩ = false ∧ w1.frozen? ⟨o.heap.size, 1, none⟩ = false ∧ w1.frozen? ⟨o.heap.size, 2, none⟩ = false := by
  have hl : o.heap.size < (o.alloc (.cells #[x, y, z] t)).drew.heap.size := by simp [go_sem]
  have hc : ∀ k, w1.cell? ⟨o.heap.size, k, none⟩ = (o.alloc (.cells #[x, y, z] t)).cell? ⟨o.heap.size, k, none⟩ := fun k => hb.cell (p := ⟨o.heap.size, k, none⟩) hl
  have hf : ∀ k, w1.frozen? ⟨o.heap.size, k, none⟩ = (o.alloc (.cells #[x, y, z] t)).frozen? ⟨o.heap.size, k, none⟩ := fun k => hb.frozen (p := ⟨o.heap.size, k, none⟩) hl
  refine ⟨?_, ?_, ?_, ?_, ?_, ?_⟩
  all_goals (first | rw [hc] | rw [hf])
  all_goals simp [go_sem]
/-- behind the sum: a new block holds what the two have together -/
def Rp.Sum3 (w : World) (ta tb : Tr) (s : Value) (wx : World) : Prop := ∃ g : Nat, s = .pointer (some ⟨g, 0, none⟩) ∧ wx.cell? ⟨g, 0, none⟩ = some (.int .i64 ((ta.len : Int) + tb.len)) ∧ wx.cell? ⟨g, 1, none⟩ = some (.int .i64 ((Rp.lns ta.toL : Int) + Rp.lns tb.toL)) ∧ wx.cell? ⟨g, 2, none⟩ = some (.int .i64 (Rn.cnt ta.toL + Rn.cnt tb.toL)) ∧ Below w.heap.size w wx
theorem Rp.cell_al {w : World} {a : Addr} {v : Value} {o : Obj} (h : w.cell? a = some v) : (w.alloc o).cell? a = some v := by rw [World.cell?_alloc_some w a o (by rw [h]; rfl)]; exact h
set_option maxHeartbeats 400000 in
theorem piece_none (s : ByteArray) (w : World) (h : s.size = 0) : Calls Try.prog 45 #[.string s] w fun e w' => e = .returned (.pointer none) ∧ w = w' := by
  have h1 := Rp.is_empty h
  clear h
  go_enter Try.func45, Try.ntmps45
  go_wp2
  go_ret
  exact ⟨rfl, rfl⟩
set_option maxHeartbeats 400000 in
theorem piece_some (s : ByteArray) (w : World) (hs : s.size ≤ 281474976710656) (h0 : 1 ≤ s.size) : Calls Try.prog 45 #[.string s] w (Rp.Made w (.leaf s)) := by
  have h1 := Rp.ne_empty h0
  go_enter Try.func45, Try.ntmps45
  go_wp2_with (first | (go_at_call 57; refine (countOf_any _ _ (by unfold maxLen; omega)).mono ?_; rintro e w1 ⟨rfl, hb1⟩) | (go_at_call 43; refine (clone_any _ _ hs).mono ?_; rintro e w2 ⟨rfl, hb2⟩))
  go_ret
  have hb3 := hb1.trans (hb2.mono hb1.size)
  refine ⟨w2.heap.size, rfl, ?_, hb3.alloc hb3.size _⟩
  have := Rp.cells_new w2 (.leaf s) none none
  simpa [Rp.len_leaf, Tr.toL, Tr.ht, Tr.txt, Rp.IsPart] using this
set_option maxRecDepth 100000 in
set_option maxHeartbeats 1000000 in
theorem pair_any (a b : Nat) (ta tb : Tr) (w : World) (ha : Rp.IsPart w a ta) (hb : Rp.IsPart w b tb) (ga : ta.Good) (gb : tb.Good) (hl : ta.len + tb.len ≤ 1000000) :
    Calls Try.prog 46 #[.pointer (some ⟨a, 0, none⟩), .pointer (some ⟨b, 0, none⟩)] w (Rp.Made w (Rp.pairT ta tb)) := by
  obtain ⟨p, q, hca⟩ := ha.cells
  obtain ⟨p', q', hcb⟩ := hb.cells
  obtain ⟨a0, a1, a2, a3, a4, a5, a6⟩ := hca
  obtain ⟨b0, b1, b2, b3, b4, b5, b6⟩ := hcb
  have la := Rp.lns_le ta.toL; have lb := Rp.lns_le tb.toL
  have ka := Rn.cnt_bd ta.toL; have kb := Rn.cnt_bd tb.toL
  have ea : ta.toL.length = ta.len := rfl
  have eb : tb.toL.length = tb.len := rfl
  rw [ea] at la ka; rw [eb] at lb kb
  clear ea eb
  have hha := Rp.ht_le_len ga; have hhb := Rp.ht_le_len gb
  have na := World.new_ne w _ a0
  have nb := World.new_ne w _ b0
  go_enter Try.func46, Try.ntmps46
  go_upto_region 1 with fail
  go_cut [5] (fun s5 wx => Rp.Sum3 w ta tb s5 wx)
  case first =>
    go_region_held3 (fun v => v.cell? ⟨a, 0, none⟩ = some (.int .i64 ta.len) ∧ v.cell? ⟨a, 1, none⟩ = some (.int .i64 (Rp.lns ta.toL)) ∧ v.cell? ⟨a, 2, none⟩ = some (.int .i64 (Rn.cnt ta.toL)) ∧ v.cell? ⟨b, 0, none⟩ = some (.int .i64 tb.len) ∧ v.cell? ⟨b, 1, none⟩ = some (.int .i64 (Rp.lns tb.toL)) ∧ v.cell? ⟨b, 2, none⟩ = some (.int .i64 (Rn.cnt tb.toL)))
      (first
        | (refine ⟨?_, ?_, ?_, ?_, ?_, ?_⟩ <;> with_reducible (refine Rp.cell_dr ?_; assumption))
        | (refine ⟨?_, ?_, ?_, ?_, ?_, ?_⟩ <;> with_reducible (refine Rp.cell_dr ?_; refine Rp.cell_al ?_; assumption))
        | (refine ⟨?_, ?_, ?_, ?_, ?_, ?_⟩ <;> with_reducible (refine Rp.cell_up hb1 ?_; refine Rp.cell_dr ?_; assumption))
        | (refine ⟨?_, ?_, ?_, ?_, ?_, ?_⟩ <;> with_reducible (refine Rp.cell_up hb1 ?_; refine Rp.cell_dr ?_; refine Rp.cell_al ?_; assumption))
        | (refine ⟨?_, ?_, ?_, ?_, ?_, ?_⟩ <;> with_reducible (refine Rp.cell_al ?_; refine Rp.cell_up hb1 ?_; refine Rp.cell_dr ?_; assumption))
        | (refine ⟨?_, ?_, ?_, ?_, ?_, ?_⟩ <;> with_reducible (refine Rp.cell_set (Rp.cell_set (Rp.cell_set ?_ ?_) ?_) ?_ <;> first | (refine Rp.cell_up hb1 ?_; refine Rp.cell_dr ?_; refine Rp.cell_al ?_; assumption) | assumption)))
      (first
        | (go_at_call 58; refine (plus_any _ _ _ _ _ _ _ (by omega) (by omega) (by omega) (by omega) (by omega) (by omega)).mono ?_; rintro e w1 ⟨rfl, hb1⟩; (with_reducible have NK := Rp.new_kept hb1); obtain ⟨n0, n1, n2, f0, f1, f2⟩ := NK)
        | (go_at_call 58; refine (plus_any _ _ _ _ _ _ _ (by omega) (by omega) (by omega) (by omega) (by omega) (by omega)).mono ?_; rintro e w1 ⟨rfl, hb1⟩))
    · go_wp2_with fail
      go_meet
      exact ⟨w1.heap.size, rfl, by simp [World.cell?_alloc_new], by simp [World.cell?_alloc_new], by simp [World.cell?_alloc_new], ((Below.refl _ _).drew.trans hb1).alloc hb1.size _⟩
    · go_wp2_with fail
      go_meet
      have hb2 : Below w.heap.size w w1 := (((Below.refl w.heap.size w).alloc (Nat.le_refl _) _).drew.trans (hb1.mono (by simp [go_sem])))
      refine ⟨w.heap.size, rfl, ?_, ?_, ?_, ((hb2.setCell (Nat.le_refl _) _).setCell (Nat.le_refl _) _).setCell (Nat.le_refl _) _⟩
      · simp [go_sem, n0, n1, n2]
      · simp [go_sem, n0, n1, n2]
      · simp [go_sem, n0, n1, n2]
  case rest =>
    obtain ⟨g, rfl, g0, g1, g2, hbx⟩ := hcut
    have a3' := Rp.cell_up hbx a3
    have a4' := Rp.cell_up hbx a4
    have b3' := Rp.cell_up hbx b3
    have b4' := Rp.cell_up hbx b4
    by_cases h64 : ta.len + tb.len ≤ 64
    · have h65 : decide ((ta.len : Int) + (tb.len : Int) ≤ 64) = true := by simp; omega
      have e : Rp.pairT ta tb = .leaf (ta.txt ++ tb.txt) := by unfold Rp.pairT; rw [if_pos h64]
      have hz : 1 ≤ (ta.txt ++ tb.txt).size ∧ (ta.txt ++ tb.txt).size ≤ 281474976710656 := by
        obtain ⟨s, u, rfl, rfl, hs, hu, _⟩ := Rp.pair_small ga gb h64
        rw [Rp.len_leaf, Rp.len_leaf] at h64
        simp [Tr.txt]; omega
      have hcc : ¬ 9223372036854775807 < ta.txt.size + tb.txt.size := by have := hz.2; simp at this; omega
      have E := Lib.hid e
      clear e h64 a0 a1 a2 a3 a4 a5 a6 b0 b1 b2 b3 b4 b5 b6
      go_wp2_with fail
      go_region_held3 (fun v => v.cell? ⟨a, 4, none⟩ = some (.string ta.txt) ∧ v.cell? ⟨b, 4, none⟩ = some (.string tb.txt))
        (first
          | (refine ⟨?_, ?_⟩ <;> with_reducible (refine Rp.cell_dr ?_; assumption))
          | (refine ⟨?_, ?_⟩ <;> with_reducible (refine Rp.cell_up hb1 ?_; refine Rp.cell_dr ?_; assumption)))
        (first
          | (go_at_call 45; refine (piece_some _ _ hz.2 hz.1).mono ?_; rintro e w1 ⟨c, rfl, hc, hb1⟩))
      go_wp2_with fail
      clear hcc
      go_ret
      exact ⟨c, rfl, by rw [E.out]; exact hc, hbx.trans ((Below.refl _ _).drew.trans (hb1.mono hbx.size))⟩
    · have h65 : decide ((ta.len : Int) + (tb.len : Int) ≤ 64) = false := by simp; omega
      have E := Lib.hid (Rp.pair_big h64)
      clear h64 a0 a1 a2 a3 a4 a5 a6 b0 b1 b2 b3 b4 b5 b6
      go_wp2_with fail
      go_region_held3 (fun v => v.cell? ⟨a, 3, none⟩ = some (.int .i64 ta.ht) ∧ v.cell? ⟨b, 3, none⟩ = some (.int .i64 tb.ht) ∧ v.cell? ⟨g, 0, none⟩ = some (.int .i64 ((ta.len : Int) + tb.len)) ∧ v.cell? ⟨g, 1, none⟩ = some (.int .i64 ((Rp.lns ta.toL : Int) + Rp.lns tb.toL)) ∧ v.cell? ⟨g, 2, none⟩ = some (.int .i64 (Rn.cnt ta.toL + Rn.cnt tb.toL)))
        (first
          | (refine ⟨?_, ?_, ?_, ?_, ?_⟩ <;> with_reducible (refine Rp.cell_dr ?_; assumption))
          | (refine ⟨?_, ?_, ?_, ?_, ?_⟩ <;> with_reducible (refine Rp.cell_dr ?_; refine Rp.cell_al ?_; assumption)))
        (fail)
      go_wp2_with fail
      go_ret
      have hm : IntKind.i64.wrap (1 + max (ta.ht : Int) (tb.ht : Int)) = ((Tr.node ta tb).ht : Int) := by
        rw [IntWalk.i64_in _ (by omega)]; simp only [Tr.ht]; omega
      refine ⟨wc.heap.size, rfl, ?_, (hbx.alloc hbx.size _).drew⟩
      rw [E.out, hm]
      refine ⟨a, b, ?_, ((ha.up hbx).al _).dr, ((hb.up hbx).al _).dr⟩
      have := Rp.cells_new wc (.node ta tb) (some ⟨a, 0, none⟩) (some ⟨b, 0, none⟩)
      rw [Rp.len_node] at this
      have e2 : (Tr.node ta tb).toL = ta.toL ++ tb.toL := rfl
      rw [e2, Rp.lns_append, Rp.cnt_append] at this
      have e3 : (Tr.node ta tb).txt = ⟨#[]⟩ := rfl
      rw [e3] at this
      simpa using this.dr
end Go.Proofs.Ytigibeioapkgiaa
