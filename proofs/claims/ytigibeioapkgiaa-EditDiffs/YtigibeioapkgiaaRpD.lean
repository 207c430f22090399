/- What 'balance' answers, walked: the five ways. -/
import Derived.Test.YtigibeioapkgiaaRpC
namespace Go.Proofs.Ytigibeioapkgiaa
set_option linter.unusedVariables false
set_option linter.unusedSimpArgs false
open Go.RowKit
open Rp (Tr)
theorem Rp.below_up {w v v' : World} (h : Below w.heap.size w v) (h' : Below v.heap.size v v') : Below w.heap.size w v' := h.trans (h'.mono h.size)
theorem Rp.below_dr {B : Nat} {w v : World} (h : Below B w v) : Below B w v.drew := h.drew
set_option maxRecDepth 100000 in
set_option maxHeartbeats 2000000 in
theorem bal_1 (a b : Nat) (ta x y r : Tr) (w : World) (ha : Rp.IsPart w a ta) (hb : Rp.IsPart w b (.node (.node x y) r)) (ga : ta.Good) (gb : (Tr.node (.node x y) r).Good)
    (h1 : ta.ht + 1 < (Tr.node (.node x y) r).ht) (h2 : (Tr.node (.node x y) r).ht ≤ ta.ht + 2) (h3 : r.ht < (Tr.node x y).ht) (hl : ta.len + (Tr.node (.node x y) r).len ≤ 1000000) :
    Calls Try.prog 63 #[.pointer (some ⟨a, 0, none⟩), .pointer (some ⟨b, 0, none⟩)] w (Rp.Made w (Rp.pairT (Rp.pairT ta x) (Rp.pairT y r))) := by
  obtain ⟨_, _, ⟨_, _, _, a3, _, _, _⟩⟩ := ha.cells
  obtain ⟨bl, br, ⟨_, _, _, b3, _, b5, b6⟩, hbl, hbr⟩ := hb
  obtain ⟨_, _, ⟨_, _, _, r3, _, _, _⟩⟩ := hbr.cells
  obtain ⟨bx, bz, ⟨_, _, _, l3, _, l5, l6⟩, hx, hz⟩ := hbl
  have hha := Rp.ht_le_len ga; have hhb := Rp.ht_le_len gb
  obtain ⟨⟨gx, gy, gxl, gx1, gx2⟩, gr, gl, g1, g2⟩ := gb
  have eb : (Tr.node (.node x y) r).ht = 1 + max (Tr.node x y).ht r.ht := rfl
  have el : (Tr.node x y).ht = 1 + max x.ht y.ht := rfl
  rw [Rp.len_node, Rp.len_node] at hl hhb
  have G1 := Rp.pair_good ga gx (by omega) (by omega)
  have G2 := Rp.pair_good gy gr (by omega) (by omega)
  have L1 := Lib.hid (Rp.pair_len ga gx)
  have L2 := Lib.hid (Rp.pair_len gy gr)
  have hw1 : IntKind.i64.wrap ((ta.ht : Int) + 1) = ta.ht + 1 := IntWalk.i64_in _ (by omega)
  have d1 : decide ((ta.ht : Int) + 1 < ((Tr.node (.node x y) r).ht : Int)) = true := by simp; omega
  have d2 : decide (r.ht < (Tr.node x y).ht) = true := by simp; omega
  clear eb el h1 h2 h3 hhb
  go_enter Try.func63, Try.ntmps63
  go_upto_region 1 with fail
  go_cut [5] (fun s5 wx => s5 = .bool true ∧ Below w.heap.size w wx)
  case first =>
    go_quiet (fail)
    go_wp2_with fail
    go_meet
    exact ⟨rfl, Rp.below_drewN (Below.refl _ _) _⟩
  case rest =>
    obtain ⟨rfl, hbx⟩ := hcut
    have hA := ha.up hbx
    have hX := hx.up hbx
    have hZ := hz.up hbx
    have hR := hbr.up hbx
    have b5' := Rp.cell_up hbx b5
    have b6' := Rp.cell_up hbx b6
    have l5' := Rp.cell_up hbx l5
    have l6' := Rp.cell_up hbx l6
    clear a3 b3 b5 b6 r3 l3 l5 l6 hw1 d1 d2 ha hx hz hbr
    go_wp2_with fail
    go_region_held3 (fun v => v.cell? ⟨b, 5, none⟩ = some (.pointer (some ⟨bl, 0, none⟩)) ∧ v.cell? ⟨b, 6, none⟩ = some (.pointer (some ⟨br, 0, none⟩)) ∧ v.cell? ⟨bl, 5, none⟩ = some (.pointer (some ⟨bx, 0, none⟩)) ∧ v.cell? ⟨bl, 6, none⟩ = some (.pointer (some ⟨bz, 0, none⟩)) ∧ Rp.IsPart v a ta ∧ Rp.IsPart v bx x ∧ Rp.IsPart v bz y ∧ Rp.IsPart v br r ∧ Below w.heap.size w v)
      (first
        | (refine ⟨?_, ?_, ?_, ?_, ?_, ?_, ?_, ?_, ?_⟩ <;> with_reducible (first | (refine Rp.cell_dr ?_; assumption) | (refine Rp.IsPart.dr ?_; assumption) | (refine Rp.below_dr ?_; assumption)))
        | (go_split_ands; refine ⟨?_, ?_, ?_, ?_, ?_, ?_, ?_, ?_, ?_⟩ <;> with_reducible (first | (refine Rp.cell_up hb3 ?_; assumption) | (refine Rp.IsPart.up hb3 ?_; assumption) | (refine Rp.below_up ?_ hb3; assumption)))
        | (go_split_ands; refine ⟨?_, ?_, ?_, ?_, ?_, ?_, ?_, ?_, ?_⟩ <;> with_reducible (first | (refine Rp.cell_up hb2 ?_; assumption) | (refine Rp.IsPart.up hb2 ?_; assumption) | (refine Rp.below_up ?_ hb2; assumption)))
        | (go_split_ands; refine ⟨?_, ?_, ?_, ?_, ?_, ?_, ?_, ?_, ?_⟩ <;> with_reducible (first | (refine Rp.cell_up hb1 ?_; assumption) | (refine Rp.IsPart.up hb1 ?_; assumption) | (refine Rp.below_up ?_ hb1; assumption))))
      (first
        | (go_at_call_of 46 (Value.pointer (some ⟨a, 0, none⟩)); go_split_ands; refine (pair_any a bx ta x _ (by assumption) (by assumption) ga gx (by omega)).mono ?_; rintro e w1 ⟨c1, rfl, hc1, hb1⟩)
        | (go_at_call_of 46 (Value.pointer (some ⟨bz, 0, none⟩)); go_split_ands; refine (pair_any bz br y r _ (by assumption) (by assumption) gy gr (by omega)).mono ?_; rintro e w2 ⟨c2, rfl, hc2, hb2⟩; have hc1' := hc1.up hb2)
        | (go_at_call 46; refine (pair_any c1 c2 _ _ _ hc1' hc2 G1 G2 (by rw [L1.out, L2.out]; omega)).mono ?_; rintro e w3 ⟨c3, rfl, hc3, hb3⟩))
    go_wp2_with fail
    go_ret
    go_split_ands
    exact ⟨c3, rfl, hc3, by assumption⟩
end Go.Proofs.Ytigibeioapkgiaa
