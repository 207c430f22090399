/- What 'balance' answers, walked: the other four ways, and all. -/
import Derived.Test.YtigibeioapkgiaaRpD
namespace Go.Proofs.Ytigibeioapkgiaa
set_option linter.unusedVariables false
set_option linter.unusedSimpArgs false
open Go.RowKit
open Rp (Tr)
set_option maxRecDepth 100000 in
set_option maxHeartbeats 2000000 in
theorem bal_2 (a b : Nat) (ta l r : Tr) (w : World) (ha : Rp.IsPart w a ta) (hb : Rp.IsPart w b (.node l r)) (ga : ta.Good) (gb : (Tr.node l r).Good)
    (h1 : ta.ht + 1 < (Tr.node l r).ht) (h2 : (Tr.node l r).ht ≤ ta.ht + 2) (h3 : ¬ r.ht < l.ht) (hl : ta.len + (Tr.node l r).len ≤ 1000000) :
    Calls Try.prog 63 #[.pointer (some ⟨a, 0, none⟩), .pointer (some ⟨b, 0, none⟩)] w (Rp.Made w (Rp.pairT (Rp.pairT ta l) r)) := by
  obtain ⟨_, _, ⟨_, _, _, a3, _, _, _⟩⟩ := ha.cells
  obtain ⟨bl, br, ⟨_, _, _, b3, _, b5, b6⟩, hbl, hbr⟩ := hb
  obtain ⟨_, _, ⟨_, _, _, r3, _, _, _⟩⟩ := hbr.cells
  obtain ⟨_, _, ⟨_, _, _, l3, _, _, _⟩⟩ := hbl.cells
  have hha := Rp.ht_le_len ga; have hhb := Rp.ht_le_len gb
  obtain ⟨gx, gr, gl, g1, g2⟩ := gb
  have eb : (Tr.node l r).ht = 1 + max l.ht r.ht := rfl
  rw [Rp.len_node] at hl hhb
  have G1 := Rp.pair_good ga gx (by omega) (by omega)
  have L1 := Lib.hid (Rp.pair_len ga gx)
  have hw1 : IntKind.i64.wrap ((ta.ht : Int) + 1) = ta.ht + 1 := IntWalk.i64_in _ (by omega)
  have d1 : decide ((ta.ht : Int) + 1 < ((Tr.node l r).ht : Int)) = true := by simp; omega
  have d2 : decide (r.ht < l.ht) = false := by simp; omega
  clear eb h1 h2 h3 hhb
  go_enter Try.func63, Try.ntmps63
  go_upto_region 1 with fail
  go_cut [5] (fun s5 wx => s5 = .bool false ∧ Below w.heap.size w wx)
  case first =>
    go_quiet (fail)
    go_wp2_with fail
    go_meet
    exact ⟨rfl, Rp.below_drewN (Below.refl _ _) _⟩
  case rest =>
    obtain ⟨rfl, hbx⟩ := hcut
    replace ha := ha.up hbx
    replace hbl := hbl.up hbx
    replace hbr := hbr.up hbx
    replace a3 := Rp.cell_up hbx a3
    replace b3 := Rp.cell_up hbx b3
    replace b5 := Rp.cell_up hbx b5
    replace b6 := Rp.cell_up hbx b6
    clear r3 l3 d2
    go_upto_region 3 with fail
    go_cut [55] (fun s5 wx => s5 = .bool true ∧ Below wc.heap.size wc wx)
    case first =>
      go_quiet (fail)
      go_wp2_with fail
      go_meet
      exact ⟨rfl, Rp.below_drewN (Below.refl _ _) _⟩
    case rest =>
      obtain ⟨rfl, hby⟩ := hcut
      have hbz := Rp.below_up hbx hby
      replace ha := ha.up hby
      replace hbl := hbl.up hby
      replace hbr := hbr.up hby
      replace b5 := Rp.cell_up hby b5
      replace b6 := Rp.cell_up hby b6
      clear a3 b3 hw1 d1
      go_wp2_with fail
      go_region_held3 (fun v => v.cell? ⟨b, 5, none⟩ = some (.pointer (some ⟨bl, 0, none⟩)) ∧ v.cell? ⟨b, 6, none⟩ = some (.pointer (some ⟨br, 0, none⟩)) ∧ Rp.IsPart v a ta ∧ Rp.IsPart v bl l ∧ Rp.IsPart v br r ∧ Below w.heap.size w v)
        (first
          | (refine ⟨?_, ?_, ?_, ?_, ?_, ?_⟩ <;> with_reducible (first | (refine Rp.cell_dr ?_; assumption) | (refine Rp.IsPart.dr ?_; assumption) | (refine Rp.below_dr ?_; assumption)))
          | (go_split_ands; refine ⟨?_, ?_, ?_, ?_, ?_, ?_⟩ <;> with_reducible (first | (refine Rp.cell_up hb2 ?_; assumption) | (refine Rp.IsPart.up hb2 ?_; assumption) | (refine Rp.below_up ?_ hb2; assumption)))
          | (go_split_ands; refine ⟨?_, ?_, ?_, ?_, ?_, ?_⟩ <;> with_reducible (first | (refine Rp.cell_up hb1 ?_; assumption) | (refine Rp.IsPart.up hb1 ?_; assumption) | (refine Rp.below_up ?_ hb1; assumption))))
        (first
          | (go_at_call_of 46 (Value.pointer (some ⟨a, 0, none⟩)); go_split_ands; refine (pair_any a bl ta l _ (by assumption) (by assumption) ga gx (by omega)).mono ?_; rintro e w1 ⟨c1, rfl, hc1, hb1⟩)
          | (go_at_call 46; go_split_ands; refine (pair_any c1 br _ r _ hc1 (by assumption) G1 gr (by rw [L1.out]; omega)).mono ?_; rintro e w2 ⟨c2, rfl, hc2, hb2⟩))
      go_wp2_with fail
      go_ret
      go_split_ands
      exact ⟨c2, rfl, hc2, by assumption⟩
set_option maxRecDepth 100000 in
set_option maxHeartbeats 2000000 in
theorem bal_3 (a b : Nat) (l y z tb : Tr) (w : World) (ha : Rp.IsPart w a (.node l (.node y z))) (hb : Rp.IsPart w b tb) (ga : (Tr.node l (.node y z)).Good) (gb : tb.Good)
    (h1 : tb.ht + 1 < (Tr.node l (.node y z)).ht) (h2 : (Tr.node l (.node y z)).ht ≤ tb.ht + 2) (h3 : l.ht < (Tr.node y z).ht) (hl : (Tr.node l (.node y z)).len + tb.len ≤ 1000000) :
    Calls Try.prog 63 #[.pointer (some ⟨a, 0, none⟩), .pointer (some ⟨b, 0, none⟩)] w (Rp.Made w (Rp.pairT (Rp.pairT l y) (Rp.pairT z tb))) := by
  obtain ⟨_, _, ⟨_, _, _, b3, _, _, _⟩⟩ := hb.cells
  obtain ⟨al, ar, ⟨_, _, _, a3, _, a5, a6⟩, hal, har⟩ := ha
  obtain ⟨_, _, ⟨_, _, _, l3, _, _, _⟩⟩ := hal.cells
  obtain ⟨ay, az, ⟨_, _, _, r3, _, r5, r6⟩, hy, hz⟩ := har
  have hha := Rp.ht_le_len ga; have hhb := Rp.ht_le_len gb
  obtain ⟨gl, ⟨gy, gz, _, gy1, gy2⟩, _, g1, g2⟩ := ga
  have eb : (Tr.node l (.node y z)).ht = 1 + max l.ht (Tr.node y z).ht := rfl
  have el : (Tr.node y z).ht = 1 + max y.ht z.ht := rfl
  rw [Rp.len_node, Rp.len_node] at hl hha
  have G1 := Rp.pair_good gl gy (by omega) (by omega)
  have G2 := Rp.pair_good gz gb (by omega) (by omega)
  have L1 := Lib.hid (Rp.pair_len gl gy)
  have L2 := Lib.hid (Rp.pair_len gz gb)
  have hw1 : IntKind.i64.wrap ((tb.ht : Int) + 1) = tb.ht + 1 := IntWalk.i64_in _ (by omega)
  have hw0 : IntKind.i64.wrap (((Tr.node l (.node y z)).ht : Int) + 1) = (Tr.node l (.node y z)).ht + 1 := IntWalk.i64_in _ (by omega)
  have d0 : decide (((Tr.node l (.node y z)).ht : Int) + 1 < (tb.ht : Int)) = false := by simp; omega
  have d1 : decide ((tb.ht : Int) + 1 < ((Tr.node l (.node y z)).ht : Int)) = true := by simp; omega
  have d2 : decide (l.ht < (Tr.node y z).ht) = true := by simp; omega
  clear eb el h1 h2 h3
  go_enter Try.func63, Try.ntmps63
  go_upto_region 1 with fail
  go_cut [5] (fun s5 wx => s5 = .bool false ∧ Below w.heap.size w wx)
  case first =>
    go_quiet (fail)
    go_wp2_with fail
    go_meet
    exact ⟨rfl, Rp.below_drewN (Below.refl _ _) _⟩
  case rest =>
    obtain ⟨rfl, hbx⟩ := hcut
    replace hal := hal.up hbx
    replace hy := hy.up hbx
    replace hz := hz.up hbx
    replace hb := hb.up hbx
    replace a3 := Rp.cell_up hbx a3
    replace b3 := Rp.cell_up hbx b3
    replace a5 := Rp.cell_up hbx a5
    replace a6 := Rp.cell_up hbx a6
    replace l3 := Rp.cell_up hbx l3
    replace r3 := Rp.cell_up hbx r3
    replace r5 := Rp.cell_up hbx r5
    replace r6 := Rp.cell_up hbx r6
    go_upto_region 3 with fail
    go_cut [55] (fun s5 wx => s5 = .bool false ∧ Below wc.heap.size wc wx)
    case first =>
      go_quiet (fail)
      go_wp2_with fail
      go_meet
      exact ⟨rfl, Rp.below_drewN (Below.refl _ _) _⟩
    case rest =>
      obtain ⟨rfl, hby⟩ := hcut
      replace hbx := Rp.below_up hbx hby
      replace hal := hal.up hby
      replace hy := hy.up hby
      replace hz := hz.up hby
      replace hb := hb.up hby
      replace a3 := Rp.cell_up hby a3
      replace b3 := Rp.cell_up hby b3
      replace a5 := Rp.cell_up hby a5
      replace a6 := Rp.cell_up hby a6
      replace l3 := Rp.cell_up hby l3
      replace r3 := Rp.cell_up hby r3
      replace r5 := Rp.cell_up hby r5
      replace r6 := Rp.cell_up hby r6
      clear hw0 d0
      go_upto_region 5 with fail
      go_cut [77] (fun s5 wx => s5 = .bool true ∧ Below wc.heap.size wc wx)
      case first =>
        go_quiet (fail)
        go_wp2_with fail
        go_meet
        exact ⟨rfl, Rp.below_drewN (Below.refl _ _) _⟩
      case rest =>
        obtain ⟨rfl, hbz⟩ := hcut
        replace hbx := Rp.below_up hbx hbz
        replace hal := hal.up hbz
        replace hy := hy.up hbz
        replace hz := hz.up hbz
        replace hb := hb.up hbz
        replace a5 := Rp.cell_up hbz a5
        replace a6 := Rp.cell_up hbz a6
        replace r5 := Rp.cell_up hbz r5
        replace r6 := Rp.cell_up hbz r6
        clear hw1 d1 d2 a3 b3 l3 r3
        go_wp2_with fail
        go_region_held3 (fun v => v.cell? ⟨a, 5, none⟩ = some (.pointer (some ⟨al, 0, none⟩)) ∧ v.cell? ⟨a, 6, none⟩ = some (.pointer (some ⟨ar, 0, none⟩)) ∧ v.cell? ⟨ar, 5, none⟩ = some (.pointer (some ⟨ay, 0, none⟩)) ∧ v.cell? ⟨ar, 6, none⟩ = some (.pointer (some ⟨az, 0, none⟩)) ∧ Rp.IsPart v al l ∧ Rp.IsPart v ay y ∧ Rp.IsPart v az z ∧ Rp.IsPart v b tb ∧ Below w.heap.size w v)
          (first
            | (refine ⟨?_, ?_, ?_, ?_, ?_, ?_, ?_, ?_, ?_⟩ <;> with_reducible (first | (refine Rp.cell_dr ?_; assumption) | (refine Rp.IsPart.dr ?_; assumption) | (refine Rp.below_dr ?_; assumption)))
            | (go_split_ands; refine ⟨?_, ?_, ?_, ?_, ?_, ?_, ?_, ?_, ?_⟩ <;> with_reducible (first | (refine Rp.cell_up hb3 ?_; assumption) | (refine Rp.IsPart.up hb3 ?_; assumption) | (refine Rp.below_up ?_ hb3; assumption)))
            | (go_split_ands; refine ⟨?_, ?_, ?_, ?_, ?_, ?_, ?_, ?_, ?_⟩ <;> with_reducible (first | (refine Rp.cell_up hb2 ?_; assumption) | (refine Rp.IsPart.up hb2 ?_; assumption) | (refine Rp.below_up ?_ hb2; assumption)))
            | (go_split_ands; refine ⟨?_, ?_, ?_, ?_, ?_, ?_, ?_, ?_, ?_⟩ <;> with_reducible (first | (refine Rp.cell_up hb1 ?_; assumption) | (refine Rp.IsPart.up hb1 ?_; assumption) | (refine Rp.below_up ?_ hb1; assumption))))
          (first
            | (go_at_call_of 46 (Value.pointer (some ⟨al, 0, none⟩)); go_split_ands; refine (pair_any al ay l y _ (by assumption) (by assumption) gl gy (by omega)).mono ?_; rintro e w1 ⟨c1, rfl, hc1, hb1⟩)
            | (go_at_call_of 46 (Value.pointer (some ⟨az, 0, none⟩)); go_split_ands; refine (pair_any az b z tb _ (by assumption) (by assumption) gz gb (by omega)).mono ?_; rintro e w2 ⟨c2, rfl, hc2, hb2⟩; have hc1' := hc1.up hb2)
            | (go_at_call 46; refine (pair_any c1 c2 _ _ _ hc1' hc2 G1 G2 (by rw [L1.out, L2.out]; omega)).mono ?_; rintro e w3 ⟨c3, rfl, hc3, hb3⟩))
        go_wp2_with fail
        go_ret
        go_split_ands
        exact ⟨c3, rfl, hc3, by assumption⟩
set_option maxRecDepth 100000 in
set_option maxHeartbeats 2000000 in
theorem bal_4 (a b : Nat) (l r tb : Tr) (w : World) (ha : Rp.IsPart w a (.node l r)) (hb : Rp.IsPart w b tb) (ga : (Tr.node l r).Good) (gb : tb.Good)
    (h1 : tb.ht + 1 < (Tr.node l r).ht) (h2 : (Tr.node l r).ht ≤ tb.ht + 2) (h3 : ¬ l.ht < r.ht) (hl : (Tr.node l r).len + tb.len ≤ 1000000) :
    Calls Try.prog 63 #[.pointer (some ⟨a, 0, none⟩), .pointer (some ⟨b, 0, none⟩)] w (Rp.Made w (Rp.pairT l (Rp.pairT r tb))) := by
  obtain ⟨_, _, ⟨_, _, _, b3, _, _, _⟩⟩ := hb.cells
  obtain ⟨al, ar, ⟨_, _, _, a3, _, a5, a6⟩, hal, har⟩ := ha
  obtain ⟨_, _, ⟨_, _, _, l3, _, _, _⟩⟩ := hal.cells
  obtain ⟨_, _, ⟨_, _, _, r3, _, _, _⟩⟩ := har.cells
  have hha := Rp.ht_le_len ga; have hhb := Rp.ht_le_len gb
  obtain ⟨gl, gr, _, g1, g2⟩ := ga
  have eb : (Tr.node l r).ht = 1 + max l.ht r.ht := rfl
  rw [Rp.len_node] at hl hha
  have G1 := Rp.pair_good gr gb (by omega) (by omega)
  have L1 := Lib.hid (Rp.pair_len gr gb)
  have hw1 : IntKind.i64.wrap ((tb.ht : Int) + 1) = tb.ht + 1 := IntWalk.i64_in _ (by omega)
  have hw0 : IntKind.i64.wrap (((Tr.node l r).ht : Int) + 1) = (Tr.node l r).ht + 1 := IntWalk.i64_in _ (by omega)
  have d0 : decide (((Tr.node l r).ht : Int) + 1 < (tb.ht : Int)) = false := by simp; omega
  have d1 : decide ((tb.ht : Int) + 1 < ((Tr.node l r).ht : Int)) = true := by simp; omega
  have d2 : decide (l.ht < r.ht) = false := by simp; omega
  clear eb h1 h2 h3
  go_enter Try.func63, Try.ntmps63
  go_upto_region 1 with fail
  go_cut [5] (fun s5 wx => s5 = .bool false ∧ Below w.heap.size w wx)
  case first =>
    go_quiet (fail)
    go_wp2_with fail
    go_meet
    exact ⟨rfl, Rp.below_drewN (Below.refl _ _) _⟩
  case rest =>
    obtain ⟨rfl, hbx⟩ := hcut
    replace hal := hal.up hbx
    replace har := har.up hbx
    replace hb := hb.up hbx
    replace a3 := Rp.cell_up hbx a3
    replace b3 := Rp.cell_up hbx b3
    replace a5 := Rp.cell_up hbx a5
    replace a6 := Rp.cell_up hbx a6
    replace l3 := Rp.cell_up hbx l3
    replace r3 := Rp.cell_up hbx r3
    go_upto_region 3 with fail
    go_cut [55] (fun s5 wx => s5 = .bool false ∧ Below wc.heap.size wc wx)
    case first =>
      go_quiet (fail)
      go_wp2_with fail
      go_meet
      exact ⟨rfl, Rp.below_drewN (Below.refl _ _) _⟩
    case rest =>
      obtain ⟨rfl, hby⟩ := hcut
      replace hbx := Rp.below_up hbx hby
      replace hal := hal.up hby
      replace har := har.up hby
      replace hb := hb.up hby
      replace a3 := Rp.cell_up hby a3
      replace b3 := Rp.cell_up hby b3
      replace a5 := Rp.cell_up hby a5
      replace a6 := Rp.cell_up hby a6
      replace l3 := Rp.cell_up hby l3
      replace r3 := Rp.cell_up hby r3
      clear hw0 d0
      go_upto_region 5 with fail
      go_cut [77] (fun s5 wx => s5 = .bool false ∧ Below wc.heap.size wc wx)
      case first =>
        go_quiet (fail)
        go_wp2_with fail
        go_meet
        exact ⟨rfl, Rp.below_drewN (Below.refl _ _) _⟩
      case rest =>
        obtain ⟨rfl, hbz⟩ := hcut
        replace hbx := Rp.below_up hbx hbz
        replace hal := hal.up hbz
        replace har := har.up hbz
        replace hb := hb.up hbz
        replace a3 := Rp.cell_up hbz a3
        replace b3 := Rp.cell_up hbz b3
        replace a5 := Rp.cell_up hbz a5
        replace a6 := Rp.cell_up hbz a6
        clear d2 l3 r3
        go_upto_region 7 with fail
        go_cut [127] (fun s5 wx => s5 = .bool true ∧ Below wc.heap.size wc wx)
        case first =>
          go_quiet (fail)
          go_wp2_with fail
          go_meet
          exact ⟨rfl, Rp.below_drewN (Below.refl _ _) _⟩
        case rest =>
          obtain ⟨rfl, hbz⟩ := hcut
          replace hbx := Rp.below_up hbx hbz
          replace hal := hal.up hbz
          replace har := har.up hbz
          replace hb := hb.up hbz
          replace a5 := Rp.cell_up hbz a5
          replace a6 := Rp.cell_up hbz a6
          clear hw1 d1 a3 b3
          go_wp2_with fail
          go_region_held3 (fun v => v.cell? ⟨a, 5, none⟩ = some (.pointer (some ⟨al, 0, none⟩)) ∧ v.cell? ⟨a, 6, none⟩ = some (.pointer (some ⟨ar, 0, none⟩)) ∧ Rp.IsPart v al l ∧ Rp.IsPart v ar r ∧ Rp.IsPart v b tb ∧ Below w.heap.size w v)
            (first
              | (refine ⟨?_, ?_, ?_, ?_, ?_, ?_⟩ <;> with_reducible (first | (refine Rp.cell_dr ?_; assumption) | (refine Rp.IsPart.dr ?_; assumption) | (refine Rp.below_dr ?_; assumption)))
              | (go_split_ands; refine ⟨?_, ?_, ?_, ?_, ?_, ?_⟩ <;> with_reducible (first | (refine Rp.cell_up hb2 ?_; assumption) | (refine Rp.IsPart.up hb2 ?_; assumption) | (refine Rp.below_up ?_ hb2; assumption)))
              | (go_split_ands; refine ⟨?_, ?_, ?_, ?_, ?_, ?_⟩ <;> with_reducible (first | (refine Rp.cell_up hb1 ?_; assumption) | (refine Rp.IsPart.up hb1 ?_; assumption) | (refine Rp.below_up ?_ hb1; assumption))))
            (first
              | (go_at_call_of 46 (Value.pointer (some ⟨ar, 0, none⟩)); go_split_ands; refine (pair_any ar b r tb _ (by assumption) (by assumption) gr gb (by omega)).mono ?_; rintro e w1 ⟨c1, rfl, hc1, hb1⟩)
              | (go_at_call 46; go_split_ands; refine (pair_any al c1 l _ _ (by assumption) hc1 gl G1 (by rw [L1.out]; omega)).mono ?_; rintro e w2 ⟨c2, rfl, hc2, hb2⟩))
          go_wp2_with fail
          go_ret
          go_split_ands
          exact ⟨c2, rfl, hc2, by assumption⟩
set_option maxRecDepth 100000 in
set_option maxHeartbeats 2000000 in
theorem bal_5 (a b : Nat) (ta tb : Tr) (w : World) (ha : Rp.IsPart w a ta) (hb : Rp.IsPart w b tb) (ga : ta.Good) (gb : tb.Good)
    (h1 : ta.ht ≤ tb.ht + 1) (h2 : tb.ht ≤ ta.ht + 1) (hl : ta.len + tb.len ≤ 1000000) :
    Calls Try.prog 63 #[.pointer (some ⟨a, 0, none⟩), .pointer (some ⟨b, 0, none⟩)] w (Rp.Made w (Rp.pairT ta tb)) := by
  obtain ⟨_, _, ⟨_, _, _, b3, _, _, _⟩⟩ := hb.cells
  obtain ⟨_, _, ⟨_, _, _, a3, _, _, _⟩⟩ := ha.cells
  have hha := Rp.ht_le_len ga; have hhb := Rp.ht_le_len gb
  have hw1 : IntKind.i64.wrap ((tb.ht : Int) + 1) = tb.ht + 1 := IntWalk.i64_in _ (by omega)
  have hw0 : IntKind.i64.wrap ((ta.ht : Int) + 1) = ta.ht + 1 := IntWalk.i64_in _ (by omega)
  have d0 : decide ((ta.ht : Int) + 1 < (tb.ht : Int)) = false := by simp; omega
  have d1 : decide ((tb.ht : Int) + 1 < (ta.ht : Int)) = false := by simp; omega
  clear h1 h2
  go_enter Try.func63, Try.ntmps63
  go_upto_region 1 with fail
  go_cut [5] (fun s5 wx => s5 = .bool false ∧ Below w.heap.size w wx)
  case first =>
    go_quiet (fail)
    go_wp2_with fail
    go_meet
    exact ⟨rfl, Rp.below_drewN (Below.refl _ _) _⟩
  case rest =>
    obtain ⟨rfl, hbx⟩ := hcut
    replace ha := ha.up hbx
    replace hb := hb.up hbx
    replace a3 := Rp.cell_up hbx a3
    replace b3 := Rp.cell_up hbx b3
    go_upto_region 3 with fail
    go_cut [55] (fun s5 wx => s5 = .bool false ∧ Below wc.heap.size wc wx)
    case first =>
      go_quiet (fail)
      go_wp2_with fail
      go_meet
      exact ⟨rfl, Rp.below_drewN (Below.refl _ _) _⟩
    case rest =>
      obtain ⟨rfl, hby⟩ := hcut
      replace hbx := Rp.below_up hbx hby
      replace ha := ha.up hby
      replace hb := hb.up hby
      replace a3 := Rp.cell_up hby a3
      replace b3 := Rp.cell_up hby b3
      go_upto_region 5 with fail
      go_cut [77] (fun s5 wx => s5 = .bool false ∧ Below wc.heap.size wc wx)
      case first =>
        go_quiet (fail)
        go_wp2_with fail
        go_meet
        exact ⟨rfl, Rp.below_drewN (Below.refl _ _) _⟩
      case rest =>
        obtain ⟨rfl, hby⟩ := hcut
        replace hbx := Rp.below_up hbx hby
        replace ha := ha.up hby
        replace hb := hb.up hby
        replace a3 := Rp.cell_up hby a3
        replace b3 := Rp.cell_up hby b3
        go_upto_region 7 with fail
        go_cut [127] (fun s5 wx => s5 = .bool false ∧ Below wc.heap.size wc wx)
        case first =>
          go_quiet (fail)
          go_wp2_with fail
          go_meet
          exact ⟨rfl, Rp.below_drewN (Below.refl _ _) _⟩
        case rest =>
          obtain ⟨rfl, hby⟩ := hcut
          replace hbx := Rp.below_up hbx hby
          replace ha := ha.up hby
          replace hb := hb.up hby
          replace a3 := Rp.cell_up hby a3
          replace b3 := Rp.cell_up hby b3
          clear hw1 hw0 d0 d1 a3 b3
          go_wp2_with (go_at_call 46; refine (pair_any _ _ ta tb _ ha hb ga gb hl).mono ?_; rintro e w1 ⟨c1, rfl, hc1, hb1⟩)
          go_ret
          exact ⟨c1, rfl, hc1, Rp.below_up hbx hb1⟩
theorem bal_any (a b : Nat) (ta tb : Tr) (w : World) (ha : Rp.IsPart w a ta) (hb : Rp.IsPart w b tb) (ga : ta.Good) (gb : tb.Good)
    (h1 : ta.ht ≤ tb.ht + 2) (h2 : tb.ht ≤ ta.ht + 2) (hl : ta.len + tb.len ≤ 1000000) :
    Calls Try.prog 63 #[.pointer (some ⟨a, 0, none⟩), .pointer (some ⟨b, 0, none⟩)] w (Rp.Made w (Rp.balT ta tb)) := by
  have pa := Rp.ht_pos ta; have pb := Rp.ht_pos tb
  by_cases c1 : ta.ht + 1 < tb.ht
  · obtain ⟨l, r, rfl⟩ : ∃ l r, tb = .node l r := ⟨_, _, Rp.ht_two (by omega)⟩
    by_cases c2 : r.ht < l.ht
    · obtain ⟨x, y, rfl⟩ : ∃ x y, l = .node x y := ⟨_, _, Rp.ht_two (by have := Rp.ht_pos r; omega)⟩
      rw [Rp.bal_l1 c1 c2]; exact bal_1 a b ta x y r w ha hb ga gb c1 h2 c2 hl
    · rw [Rp.bal_l2 c1 c2]; exact bal_2 a b ta l r w ha hb ga gb c1 h2 c2 hl
  by_cases c3 : tb.ht + 1 < ta.ht
  · obtain ⟨l, r, rfl⟩ : ∃ l r, ta = .node l r := ⟨_, _, Rp.ht_two (by omega)⟩
    by_cases c2 : l.ht < r.ht
    · obtain ⟨x, y, rfl⟩ : ∃ x y, r = .node x y := ⟨_, _, Rp.ht_two (by have := Rp.ht_pos l; omega)⟩
      rw [Rp.bal_r1 c3 c2]; exact bal_3 a b l x y tb w ha hb ga gb c3 h1 c2 hl
    · rw [Rp.bal_r2 c3 c2]; exact bal_4 a b l r tb w ha hb ga gb c3 h1 c2 hl
  rw [Rp.bal_no (by omega) (by omega)]
  exact bal_5 a b ta tb w ha hb ga gb (by omega) (by omega) hl
end Go.Proofs.Ytigibeioapkgiaa
