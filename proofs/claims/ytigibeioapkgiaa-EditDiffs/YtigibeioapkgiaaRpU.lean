/- What 'Join' answers, walked. -/
import Derived.Test.YtigibeioapkgiaaRpT
namespace Go.Proofs.Ytigibeioapkgiaa
set_option linter.unusedVariables false
set_option linter.unusedSimpArgs false
open Go.RowKit
open Rp (Tr)
/-- the ropes' texts one behind the other are answered, or that they are too long -/
def Rp.JoinPost (w : World) (L : List UInt8) (e : Ending) (w' : World) : Prop := if L.length ≤ 4000 then Rp.RopePost w L 0 e w' else Rp.RopePost w [] 4 e w'
/-- the slice's cells: the ropes, whose texts are ls -/
def Rp.Ropes (w : World) (b : Nat) (ps : Nat → Option Addr) (ls : List (List UInt8)) : Prop := ∀ i, i < ls.length → w.cell? ⟨b, i, none⟩ = some (.pointer (ps i)) ∧ Rp.Rep w (ps i) (ls.getD i [])
/-- the round's relation -/
def Rp.JInv (w : World) (ls : List (List UInt8)) (k : Nat) (i : Value) (wr : World) : Prop :=
  ∃ j r, j + k = ls.length ∧ i = .int .i64 (j : Nat) ∧ wr.cell? ⟨w.heap.size + 1, 0, none⟩ = some (.pointer r) ∧ wr.frozen? ⟨w.heap.size + 1, 0, none⟩ = false ∧ wr.cell? ⟨w.heap.size, 0, none⟩ = some (.pointer none) ∧ wr.frozen? ⟨w.heap.size, 0, none⟩ = false ∧ Rp.Rep wr r (ls.take j).flatten ∧ (ls.take j).flatten.length ≤ 4000 ∧ Below w.heap.size w wr
theorem Rp.flat_take (ls : List (List UInt8)) (j : Nat) (h : j < ls.length) : (ls.take (j + 1)).flatten = (ls.take j).flatten ++ ls.getD j [] := by
  have e : ls.getD j [] = ls[j] := by simp [h]
  rw [e, List.take_succ_eq_append_getElem h, List.flatten_append]
  congr 1
  simp
theorem Rp.flat_take_le (ls : List (List UInt8)) (j : Nat) : (ls.take j).flatten.length ≤ ls.flatten.length := by
  have : ls.flatten = (ls.take j).flatten ++ (ls.drop j).flatten := by rw [← List.flatten_append, List.take_append_drop]
  rw [this]; simp
set_option maxRecDepth 100000 in
set_option maxHeartbeats 2000000 in
theorem joinM_any (b cap : Nat) (ps : Nat → Option Addr) (ls : List (List UInt8)) (w : World) (hR : Rp.Ropes w b ps ls) (hn : ls.length ≤ 1000000) (hm : ∀ i, (ls.getD i []).length ≤ 1000000) :
    Calls Try.prog 33 #[.slice (some ⟨b, 0, none⟩) ls.length cap] w (Rp.JoinPost w ls.flatten) := by
  have HR := Lib.hid hR; clear hR
  have HM := Lib.hid hm; clear hm
  go_enter Try.func33, Try.ntmps33
  go_wp2_with fail
  go_loopg [9] ls.length (fun k i wr => Rp.JInv w ls k i wr)
  case atStart =>
    refine ⟨0, none, by omega, rfl, ?_, ?_, ?_, ?_, .inl ⟨rfl, by simp⟩, by simp, Rp.below_al2 _ _ _⟩
    all_goals simp [go_sem]
  case round =>
    obtain ⟨j, r, hjk, rfl, c1, f1, c0, f0, hrep, hacc, hbw⟩ := hrel
    by_cases hlt : j < ls.length
    · have hj1 : (j : Int) < (ls.length : Int) := by omega
      obtain ⟨hcell, hrj⟩ := HR.out j hlt
      have hmj := HM.out j
      have hbl : b < w.heap.size := World.block_lt_of_cell? w _ hcell
      have hF := Lib.hid (Rp.flat_take ls j hlt)
      have hL := Lib.hid (Rp.flat_take_le ls (j + 1))
      replace hcell := Rp.cell_up hbw hcell
      replace hrj := hrj.up hbw
      generalize hx : ps j = x at *
      generalize ls.getD j [] = m at *
      generalize hA : (ls.take j).flatten = acc at *
      clear hx hA
      have l1 : w.heap.size + 1 < wr.heap.size := World.block_lt_of_cell? wr _ c1
      go_wp2_with fail
      have C1 := Rp.cell_al (o := .cells #[.pointer x] 27) c1
      have F1 : (wr.alloc (.cells #[.pointer x] 27)).frozen? ⟨w.heap.size + 1, 0, none⟩ = false := Rp.frz_up (Rp.below_al _ _) c1 f1
      have C0 := Rp.cell_al (o := .cells #[.pointer x] 27) c0
      have F0 : (wr.alloc (.cells #[.pointer x] 27)).frozen? ⟨w.heap.size, 0, none⟩ = false := Rp.frz_up (Rp.below_al _ _) c0 f0
      have CX : (wr.alloc (.cells #[.pointer x] 27)).cell? ⟨wr.heap.size, 0, none⟩ = some (.pointer x) := by simp [go_sem]
      have hr1 := hrep.al (.cells #[.pointer x] 27)
      have hm1 := hrj.al (.cells #[.pointer x] 27)
      have hB1 := hbw.alloc hbw.size (.cells #[.pointer x] 27)
      clear c1 f1 c0 f0 hrep hrj hbw hcell
      generalize wr.alloc (.cells #[.pointer x] 27) = V at *
      generalize wr.heap.size = G at *
      have hw1 : IntKind.i64.wrap ((acc.length : Int) + (m.length : Int)) = (acc.length : Int) + (m.length : Int) := IntWalk.i64_in _ (by omega)
      by_cases hbig : 4000 < acc.length + m.length
      · have d1 : decide ((4000 : Int) < (acc.length : Int) + (m.length : Int)) = true := by simp; omega
        go_region_held3 (fun v => v.cell? ⟨w.heap.size + 1, 0, none⟩ = some (.pointer r) ∧ v.cell? ⟨G, 0, none⟩ = some (.pointer x) ∧ Rp.Rep v r acc ∧ Rp.Rep v x m ∧ Below w.heap.size w v)
          (first
            | (refine ⟨?_, ?_, ?_, ?_, ?_⟩ <;> with_reducible (first | (refine Rp.cell_dr ?_; assumption) | (refine Rp.Rep.dr ?_; assumption) | (refine Rp.below_dr ?_; assumption)))
            | (go_split_ands; refine ⟨?_, ?_, ?_, ?_, ?_⟩ <;> with_reducible (first | (refine Rp.cell_up hb2 ?_; assumption) | (refine Rp.Rep.up hb2 ?_; assumption) | (refine Rp.below_up ?_ hb2; assumption)))
            | (go_split_ands; refine ⟨?_, ?_, ?_, ?_, ?_⟩ <;> with_reducible (first | (refine Rp.cell_up hb1 ?_; assumption) | (refine Rp.Rep.up hb1 ?_; assumption) | (refine Rp.below_up ?_ hb1; assumption))))
          (first
            | (go_at_call_of 14 (Value.agg #[.pointer r]); go_split_ands; refine (len_any r acc _ (by assumption)).mono ?_; rintro e w1 ⟨rfl, hb1⟩)
            | (go_at_call 14; go_split_ands; refine (len_any x m _ (by assumption)).mono ?_; rintro e w2 ⟨rfl, hb2⟩))
        clear hw1
        have C0' := Rp.cell_up hb2 (Rp.cell_up hb1 (Rp.cell_dr C0))
        have F0' := Rp.frz_up hb2 (Rp.cell_up hb1 (Rp.cell_dr C0)) (Rp.frz_up hb1 (Rp.cell_dr C0) (Rp.frz_dr F0))
        have hB2 := Rp.below_up (Rp.below_up hB1.drew hb1) hb2
        clear C1 F1 C0 F0 CX hB1
        go_wp2_with fail
        refine bodyPost_ret (v := .tuple #[.agg #[.pointer none], .int .i64 4]) (by simp [results, Try.results33, go_sem, C0']) rfl ?_
        have hbad : ¬ ls.flatten.length ≤ 4000 := by
          have := hL.out; rw [hF.out, List.length_append] at this; omega
        show Rp.JoinPost _ _ _ _
        unfold Rp.JoinPost
        rw [if_neg hbad]
        exact ⟨none, rfl, Rp.Rep.none _, hB2.setCell (Nat.le_refl _) _⟩
      · have d1 : decide ((4000 : Int) < (acc.length : Int) + (m.length : Int)) = false := by simp; omega
        go_region_held3 (fun v => v.cell? ⟨w.heap.size + 1, 0, none⟩ = some (.pointer r) ∧ v.cell? ⟨G, 0, none⟩ = some (.pointer x) ∧ Rp.Rep v r acc ∧ Rp.Rep v x m ∧ Below w.heap.size w v)
          (first
            | (refine ⟨?_, ?_, ?_, ?_, ?_⟩ <;> with_reducible (first | (refine Rp.cell_dr ?_; assumption) | (refine Rp.Rep.dr ?_; assumption) | (refine Rp.below_dr ?_; assumption)))
            | (go_split_ands; refine ⟨?_, ?_, ?_, ?_, ?_⟩ <;> with_reducible (first | (refine Rp.cell_up hb2 ?_; assumption) | (refine Rp.Rep.up hb2 ?_; assumption) | (refine Rp.below_up ?_ hb2; assumption)))
            | (go_split_ands; refine ⟨?_, ?_, ?_, ?_, ?_⟩ <;> with_reducible (first | (refine Rp.cell_up hb1 ?_; assumption) | (refine Rp.Rep.up hb1 ?_; assumption) | (refine Rp.below_up ?_ hb1; assumption))))
          (first
            | (go_at_call_of 14 (Value.agg #[.pointer r]); go_split_ands; refine (len_any r acc _ (by assumption)).mono ?_; rintro e w1 ⟨rfl, hb1⟩)
            | (go_at_call 14; go_split_ands; refine (len_any x m _ (by assumption)).mono ?_; rintro e w2 ⟨rfl, hb2⟩))
        clear hw1
        have C0' := Rp.cell_up hb2 (Rp.cell_up hb1 (Rp.cell_dr C0))
        have F0' := Rp.frz_up hb2 (Rp.cell_up hb1 (Rp.cell_dr C0)) (Rp.frz_up hb1 (Rp.cell_dr C0) (Rp.frz_dr F0))
        have C1' := Rp.cell_up hb2 (Rp.cell_up hb1 (Rp.cell_dr C1))
        have F1' := Rp.frz_up hb2 (Rp.cell_up hb1 (Rp.cell_dr C1)) (Rp.frz_up hb1 (Rp.cell_dr C1) (Rp.frz_dr F1))
        have CX' := Rp.cell_up hb2 (Rp.cell_up hb1 (Rp.cell_dr CX))
        have hr2 := ((hr1.dr).up hb1).up hb2
        have hm2 := ((hm1.dr).up hb1).up hb2
        have hB2 := Rp.below_up (Rp.below_up hB1.drew hb1) hb2
        clear C1 F1 C0 F0 CX hB1 hr1 hm1
        go_wp2_with fail
        refine (join_any r x acc m _ hr2 hm2 (by omega)).mono ?_
        rintro e w3 ⟨r3, rfl, hr3, hb3⟩
        have C0x := Rp.cell_up hb3 C0'
        have F0x := Rp.frz_up hb3 C0' F0'
        have C1x := Rp.cell_up hb3 C1'
        have F1x := Rp.frz_up hb3 C1' F1'
        have hB3 := Rp.below_up hB2 hb3
        clear C0' F0' C1' F1' CX' hr2 hm2 hB2
        have n1 : w.heap.size + 1 ≠ w.heap.size := by omega
        go_wp2_with fail
        go_roundg (gk - 1)
        case measure => omega
        case rel =>
          refine ⟨j + 1, r3, by omega, by simp, World.cell?_setCell_same _ _ _ C1x, by simpa using F1x, Rp.cell_set C0x n1, by simpa using F0x, ?_, ?_, hB3.setCell (by simp) _⟩
          · rw [hF.out]; exact hr3.set C1x _
          · rw [hF.out, List.length_append]; omega
    · have e : ls.take j = ls := List.take_of_length_le (by omega)
      rw [e] at hrep hacc
      clear e
      have d1 : decide (j < ls.length) = false := by simp; omega
      go_wp2_with fail
      refine bodyPost_ret (v := .tuple #[.agg #[.pointer r], .int .i64 0]) (by simp [results, Try.results33, go_sem, c0]) rfl ?_
      show Rp.JoinPost _ _ _ _
      unfold Rp.JoinPost
      rw [if_pos hacc]
      exact ⟨r, rfl, hrep.set c0 _, hbw.setCell (Nat.le_refl _) _⟩
end Go.Proofs.Ytigibeioapkgiaa
