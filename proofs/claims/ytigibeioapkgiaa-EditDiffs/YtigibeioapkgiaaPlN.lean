/- What 'Edge' of layer 3 answers, walked. -/
import Derived.Test.YtigibeioapkgiaaRpX
import Derived.Test.YtigibeioapkgiaaRnE
namespace Go.Proofs.Ytigibeioapkgiaa
set_option linter.unusedVariables false
set_option linter.unusedSimpArgs false
open Go.RowKit
open Rp (Tr)
theorem Pl.one_edge (c : UInt8) : Rn.edgeB (strOfNums [(c.toNat : Int)]) 0 = !Rn.folI (c.toNat : Int) := by
  unfold Rn.edgeB
  rw [dif_pos (by simp [strOfNums_size])]
  have : (strOfNums [(c.toNat : Int)])[(0 : Int).toNat]'(by simp [strOfNums_size]) = c := by
    show ((strOfNums [(c.toNat : Int)]).data.toList)[0]'(by simp [strOfNums_data]) = c
    simp [strOfNums_data]
  rw [this]
set_option maxHeartbeats 1000000 in
theorem edgeP_any (p : Option Addr) (s : ByteArray) (i : Int) (w : World) (hp : Rp.Rep w p s.data.toList) (hs : s.size ≤ 1000000) : Calls Try.prog 47 #[.agg #[.pointer p], .int .i64 i] w (Rp.BPost w (Rn.edgeB s i)) := by
  have hbw := Rp.below_al w (.cells #[.pointer p] 27)
  have hc0 : (w.alloc (.cells #[.pointer p] 27)).cell? ⟨w.heap.size, 0, none⟩ = some (.pointer p) := by simp [go_sem]
  by_cases h : 0 ≤ i ∧ i < s.size
  · have e : Rn.edgeB s i = !Rn.folI (s[i.toNat]).toNat := by unfold Rn.edgeB; rw [dif_pos h]
    rw [e]; clear e
    obtain ⟨h1, h2⟩ := h
    obtain ⟨k, rfl⟩ := Int.eq_ofNat_of_zero_le h1
    have h4 : k < s.size := by omega
    have eK : s[(k : Int).toNat]'(by omega) = s[k] := rfl
    rw [eK]; clear eK
    have HE := Lib.hid (Pl.one_edge s[k])
    clear hc0
    go_enter Try.func47, Try.ntmps47
    go_wp2_with fail
    refine (at_s p s k _ (hp.up hbw) hs h4).mono ?_
    rintro e w1 ⟨rfl, hb1⟩
    have be := Rp.below_up hbw hb1
    have hcv := conv_new _ _ [(s[k].toNat : Int)] 1 rfl (cells1 w1 (s[k].toNat : Int) 5)
    have be1 := be.alloc be.size (.cells #[.int .u8 (s[k].toNat : Int)] 5)
    go_wp2_with fail
    refine (edge_any (strOfNums [(s[k].toNat : Int)]) 0 _ (by rw [strOfNums_size]; unfold maxLen; simp)).mono ?_
    rw [HE.out]
    rintro e w' ⟨rfl, rfl⟩
    go_wp2_with fail
    go_ret
    exact ⟨rfl, be1⟩
  · have e : Rn.edgeB s i = decide (i = s.size) := by unfold Rn.edgeB; rw [dif_neg h]
    have HE := Lib.hid e; clear e
    go_enter Try.func47, Try.ntmps47
    go_wp2_with fail
    refine (at_none p s i _ (hp.up hbw) (by omega)).mono ?_
    rintro e w1 ⟨rfl, hb1⟩
    have be := Rp.below_up hbw hb1
    replace hc0 := Rp.cell_up hb1 hc0
    go_wp2_with fail
    refine (len_s p s _ (hp.up be)).mono ?_
    rintro e w2 ⟨rfl, hb2⟩
    have be2 := Rp.below_up be hb2
    go_wp2_with fail
    go_ret
    refine ⟨ret_bool ?_, be2⟩
    rw [HE.out]; by_cases hh : i = s.size <;> simp [hh]
end Go.Proofs.Ytigibeioapkgiaa
