/- What 'Edge', 'At', 'Near' and 'Up' of layer 3 answer, walked. -/
import Derived.Test.YtnjcahcbeicblaaPlB
namespace Go.Proofs.Ytnjcahcbeicblaa
set_option linter.unusedVariables false
set_option linter.unusedSimpArgs false
open Go.RowKit
open Rp (Tr)
theorem Pl.one_edge (c : UInt8) : Rn.edgeB (strOfNums [(c.toNat : Int)]) 0 = !Rn.folI (c.toNat : Int) := by
  unfold Rn.edgeB
  rw [dif_pos (by simp [strOfNums_size])]
  have : (strOfNums [(c.toNat : Int)])[(0 : Int).toNat]'(by simp [strOfNums_size]) = c := by
    show ((strOfNums [(c.toNat : Int)]).data.toList)[0]'(by simp [strOfNums_data]) = c
    simp [strOfNums_data]
  rw [this]
set_option maxHeartbeats 1000000 in
theorem edgeP_any (p : Option Addr) (s : ByteArray) (i : Int) (w : World) (hp : Rp.Rep w p s.data.toList) (hs : s.size ≤ 1000000) : Calls Try.prog 23 #[.agg #[.pointer p], .int .i64 i] w (Rp.BPost w (Rn.edgeB s i)) := by
  have hbw := Rp.below_al w (.cells #[.pointer p] 26)
  have hc0 : (w.alloc (.cells #[.pointer p] 26)).cell? ⟨w.heap.size, 0, none⟩ = some (.pointer p) := by simp [go_sem]
  by_cases h : 0 ≤ i ∧ i < s.size
  · have e : Rn.edgeB s i = !Rn.folI (s[i.toNat]).toNat := by unfold Rn.edgeB; rw [dif_pos h]
    rw [e]; clear e
    obtain ⟨h1, h2⟩ := h
    obtain ⟨k, rfl⟩ := Int.eq_ofNat_of_zero_le h1
    have h4 : k < s.size := by omega
    have eK : s[(k : Int).toNat]'(by omega) = s[k] := rfl
    rw [eK]; clear eK
    have HE := Lib.hid (Pl.one_edge s[k])
    clear hc0
    go_enter Try.func23, Try.ntmps23
    go_wp2_with fail
    refine (at_s p s k _ (hp.up hbw) hs h4).mono ?_
    rintro e w1 ⟨rfl, hb1⟩
    have be := Rp.below_up hbw hb1
    have hcv := conv_new _ _ [(s[k].toNat : Int)] 1 rfl (cells1 w1 (s[k].toNat : Int) 5)
    have be1 := be.alloc be.size (.cells #[.int .u8 (s[k].toNat : Int)] 5)
    go_wp2_with fail
    refine (edge_any (strOfNums [(s[k].toNat : Int)]) 0 _ (by rw [strOfNums_size]; unfold maxLen; simp)).mono ?_
    rw [HE.out]
    rintro e w' ⟨rfl, rfl⟩
    go_wp2_with fail
    go_ret
    exact ⟨rfl, be1⟩
  · have e : Rn.edgeB s i = decide (i = s.size) := by unfold Rn.edgeB; rw [dif_neg h]
    have HE := Lib.hid e; clear e
    go_enter Try.func23, Try.ntmps23
    go_wp2_with fail
    refine (at_none p s i _ (hp.up hbw) (by omega)).mono ?_
    rintro e w1 ⟨rfl, hb1⟩
    have be := Rp.below_up hbw hb1
    replace hc0 := Rp.cell_up hb1 hc0
    go_wp2_with fail
    refine (len_s p s _ (hp.up be)).mono ?_
    rintro e w2 ⟨rfl, hb2⟩
    have be2 := Rp.below_up be hb2
    go_wp2_with fail
    go_ret
    refine ⟨ret_bool ?_, be2⟩
    rw [HE.out]; by_cases hh : i = s.size <;> simp [hh]
/-- the frame of At and Near: the rope and the mark -/
theorem Pl.cnt_wf (l : List UInt8) (a b : Nat) (h : l.length ≤ 1000000) : Rn.cnt (l.take a) - Rn.cnt (l.take b) ≤ 1000000 := by
  have := Pl.cnt_le l a; have := Pl.cnt_le l b; omega
set_option maxHeartbeats 1000000 in
theorem near_low (p : Option Addr) (x y : Int) (w : World) (h : x < 0) : Calls Try.prog 31 #[.agg #[.pointer p], .agg #[.int .i64 x, .int .i64 y]] w (Rp.IPost w 0) := by
  go_enter Try.func31, Try.ntmps31
  go_wp2_with fail
  go_ret
  exact ⟨rfl, Rp.below_al2 _ _ _⟩
set_option maxHeartbeats 1000000 in
theorem near_far (p : Option Addr) (l : List UInt8) (x y : Int) (w : World) (hp : Rp.Rep w p l) (h : (Rp.lns l : Int) < x) : Calls Try.prog 31 #[.agg #[.pointer p], .agg #[.int .i64 x, .int .i64 y]] w (Rp.IPost w l.length) := by
  have d1 : decide (x < 0) = false := by simp; omega
  have F := Pl.fm_new w p x y
  go_enter Try.func31, Try.ntmps31
  go_wp2_with fail
  have hpW := hp.up F.be
  generalize (w.alloc (.cells #[.pointer p] 26)).alloc (.cells #[.int .i64 x, .int .i64 y] 46) = W at *
  refine (rowOf_no p l x _ hpW (.inr h)).mono ?_
  rintro e w1 ⟨rfl, hb1⟩
  replace F := (F.up hb1).up (Rp.below_al w1 (.cells #[.int .i64 0, .int .i64 0, .pointer none] 87))
  replace hpW := (hpW.up hb1).al (.cells #[.int .i64 0, .int .i64 0, .pointer none] 87)
  have be := F.be
  have x0 := F.rope
  go_wp2_with fail
  refine (len_any p l _ hpW).mono ?_
  rintro e w2 ⟨rfl, hb2⟩
  have be2 := Rp.below_up be hb2
  go_wp2_with fail
  go_ret
  exact ⟨rfl, be2⟩
set_option maxHeartbeats 1000000 in
theorem near_yes (p : Option Addr) (s : ByteArray) (k f t : Nat) (y : Int) (w : World) (hp : Rp.Rep w p s.data.toList) (hs : s.size ≤ 1000000) (R : Pl.Row s.data.toList k f t) (hy : y ≤ 2 ^ 63 - 1) : Calls Try.prog 31 #[.agg #[.pointer p], .agg #[.int .i64 k, .int .i64 y]] w (Rp.IPost w ((f : Int) + Rn.cut (s.extract f t) y)) := by
  have hkl := R.kl
  have hft := R.ft
  have htl := R.tl
  rw [Rn.len_data0] at htl
  have hl : s.data.toList.length ≤ 1000000 := by rw [Rn.len_data0]; exact hs
  have d1 : decide ((k : Int) < 0) = false := by simp
  have HR := Lib.hid R; clear R
  have F := Pl.fm_new w p k y
  go_enter Try.func31, Try.ntmps31
  go_wp2_with fail
  have hpW := hp.up F.be
  generalize (w.alloc (.cells #[.pointer p] 26)).alloc (.cells #[.int .i64 k, .int .i64 y] 46) = W at *
  refine (rowOf_yes p s.data.toList k _ hpW hl hkl).mono ?_
  rintro e w1 ⟨f', t', R', rfl, hb1⟩
  obtain ⟨rfl, rfl⟩ := HR.out.one R'
  clear R'
  replace F := (F.up hb1).up (Rp.below_al w1 (.cells #[.int .i64 f, .int .i64 t, .pointer p] 87))
  replace hpW := (hpW.up hb1).al (.cells #[.int .i64 f, .int .i64 t, .pointer p] 87)
  have be := F.be
  have c1 := F.box.c1
  have c0 := F.box.c0
  go_wp2_with fail
  refine (edgeR_any p s f t y _ hpW hs hft htl hy).mono ?_
  rintro e w2 ⟨rfl, hb2⟩
  have be2 := Rp.below_up be hb2
  go_wp2_with fail
  go_ret
  exact ⟨rfl, be2⟩
set_option maxHeartbeats 1000000 in
theorem atP_yes (p : Option Addr) (s : ByteArray) (k f t : Nat) (y : Int) (w : World) (hp : Rp.Rep w p s.data.toList) (hs : s.size ≤ 1000000) (R : Pl.Row s.data.toList k f t) (hy : 0 ≤ y) (hy2 : y ≤ Rn.cnt (s.data.toList.take t) - Rn.cnt (s.data.toList.take f)) : Calls Try.prog 30 #[.agg #[.pointer p], .agg #[.int .i64 k, .int .i64 y]] w (Pl.TPost w ((f : Int) + Rn.cut (s.extract f t) y) 0) := by
  have hkl := R.kl
  have hft := R.ft
  have htl := R.tl
  rw [Rn.len_data0] at htl
  have hl : s.data.toList.length ≤ 1000000 := by rw [Rn.len_data0]; exact hs
  have hyb : y ≤ 2 ^ 63 - 1 := by have := Pl.cnt_wf s.data.toList t f hl; omega
  have d1 : decide (y < 0) = false := by simp; omega
  have d2 : decide (Rn.cnt (s.data.toList.take t) - Rn.cnt (s.data.toList.take f) < y) = false := by simp; omega
  have HR := Lib.hid R; clear R
  have F := Pl.fm_new w p k y
  go_enter Try.func30, Try.ntmps30
  go_wp2_with fail
  have hpW := hp.up F.be
  generalize (w.alloc (.cells #[.pointer p] 26)).alloc (.cells #[.int .i64 k, .int .i64 y] 46) = W at *
  refine (rowOf_yes p s.data.toList k _ hpW hl hkl).mono ?_
  rintro e w1 ⟨f', t', R', rfl, hb1⟩
  obtain ⟨rfl, rfl⟩ := HR.out.one R'
  clear R'
  have hpU := (hpW.up hb1).al (.cells #[.int .i64 f, .int .i64 t, .pointer p] 87)
  have BU := Pl.box_new (v := w1) f t p 87
  replace F := (F.up hb1).up (Rp.below_al w1 (.cells #[.int .i64 f, .int .i64 t, .pointer p] 87))
  have be := F.be
  have c1 := F.box.c1
  clear hpW hb1
  go_wp2_with fail
  obtain ⟨u0, u1, u2, _, _, _⟩ := BU
  clear F
  generalize w1.alloc (.cells #[.int .i64 f, .int .i64 t, .pointer p] 87) = U at *
  generalize w1.heap.size = N at *
  go_region_held3 (fun v => v.cell? ⟨w.heap.size + 1, 1, none⟩ = some (.int .i64 y) ∧ v.cell? ⟨N, 0, none⟩ = some (.int .i64 f) ∧ v.cell? ⟨N, 1, none⟩ = some (.int .i64 t) ∧ v.cell? ⟨N, 2, none⟩ = some (.pointer p) ∧ Rp.Rep v p s.data.toList ∧ Below w.heap.size w v)
    (first
      | (refine ⟨?_, ?_, ?_, ?_, ?_, ?_⟩ <;> with_reducible (first | (refine Rp.cell_dr ?_; assumption) | (refine Rp.Rep.dr ?_; assumption) | (refine Rp.below_dr ?_; assumption)))
      | (go_split_ands; refine ⟨?_, ?_, ?_, ?_, ?_, ?_⟩ <;> with_reducible (first | (refine Rp.cell_up hb2 ?_; assumption) | (refine Rp.Rep.up hb2 ?_; assumption) | (refine Rp.below_up ?_ hb2; assumption))))
    (first
      | (go_at_call 56; go_split_ands; refine (width_any p s.data.toList f t _ (by assumption) hl).mono ?_; rintro e w2 ⟨rfl, hb2⟩))
  all_goals
    clear c1 u0 u1 u2 hpU be
    go_split_ands
    go_wp2_with fail
    refine (edgeR_any p s f t y _ (by assumption) hs hft htl hyb).mono ?_
    rintro e w3 ⟨rfl, hb3⟩
    go_wp2_with fail
    go_ret2
    exact ⟨rfl, Rp.below_up (by assumption) hb3⟩
end Go.Proofs.Ytnjcahcbeicblaa
