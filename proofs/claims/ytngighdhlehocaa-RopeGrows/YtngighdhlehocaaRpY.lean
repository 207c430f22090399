/- The law RopeGrows, walked. -/
import Derived.Test.YtngighdhlehocaaRpX
import Derived.Laws.BytesArg
namespace Go.Proofs.Ytngighdhlehocaa
set_option linter.unusedVariables false
set_option linter.unusedSimpArgs false
open Go.RowKit
open Rp (Tr)
theorem Rp.one_cell (W : World) (x : Int) : ∀ i, i < 1 → (W.alloc (.cells #[.int .u8 x] 5)).cell? ⟨W.heap.size, 0 + i, none⟩ = some (.int .u8 ([x].getD i 0)) := by
  intro i hi
  obtain rfl : i = 0 := by omega
  simp [go_sem]
theorem Rp.conv_one (W : World) (x : Int) : (convert 49 9 (.slice (some ⟨W.heap.size, 0, none⟩) 1 1)).run Try.prog (W.alloc (.cells #[.int .u8 x] 5)) = .ok (.string (strOfNums [x])) (W.alloc (.cells #[.int .u8 x] 5)) :=
  run_convert_bytes_arg (P := Try.prog) _ 49 5 Try.underlying49 Try.underlying5 W.heap.size 0 1 1 [x] rfl (Rp.one_cell W x) 9 Try.underlying9
theorem Rp.one_size (x : Int) : (strOfNums [x]).size = 1 := by simp [strOfNums, ByteArray.size]
/-- the round's relation: the rope in block G is the text, of i bytes -/
def Rp.GInv (w : World) (G m : Nat) (sv iv : Value) (wr : World) : Prop :=
  ∃ (i : Nat) (s : ByteArray) (p : Option Addr), i ≤ m ∧ s.size = i ∧ iv = .int .i64 i ∧ sv = .string s ∧ wr.cell? ⟨G, 0, none⟩ = some (.pointer p) ∧ wr.frozen? ⟨G, 0, none⟩ = false ∧ Rp.Rep wr p s.data.toList ∧ Below w.heap.size w wr
set_option maxRecDepth 100000 in
set_option maxHeartbeats 2000000 in
theorem growsLaw_any (n way : Int) (w : World) (hn : (Lit.int .u16 n).wf = true) (hw : (Lit.int .u8 way).wf = true) : Calls Try.prog 5 #[.int .u16 n, .int .u8 way] w (Rp.BPost w true) := by
  have a1 : IntKind.u16.min = 0 := by decide
  have a2 : IntKind.u16.max = 65535 := by decide
  have a3 : IntKind.u8.min = 0 := by decide
  have a4 : IntKind.u8.max = 255 := by decide
  have hn1 : 0 ≤ n ∧ n < 65536 := by simp [Lit.wf] at hn; omega
  have hw1 : 0 ≤ way ∧ way < 256 := by simp [Lit.wf] at hw; omega
  clear a1 a2 a3 a4
  clear hn hw
  obtain ⟨k, rfl⟩ := Int.eq_ofNat_of_zero_le hn1.1
  obtain ⟨y, rfl⟩ := Int.eq_ofNat_of_zero_le hw1.1
  have hk : k < 65536 := by omega
  have hy : y < 256 := by omega
  clear hn1 hw1
  go_enter Try.func5, Try.ntmps5
  go_wp2_with (go_at_call 6; refine (alive2_any _).mono ?_; rintro e w1 ⟨rfl, hb1⟩)
  go_loopw [6, 7] (fun sv iv wr => Rp.GInv w w1.heap.size (k % 600) sv iv wr) (fun _ iv _ => k % 600 - (intOf iv).toNat)
  case atStart =>
    refine ⟨0, ⟨#[]⟩, none, Nat.zero_le _, rfl, rfl, rfl, ?_, ?_, .inl ⟨rfl, rfl⟩, hb1.alloc hb1.size _⟩
    all_goals simp [go_sem]
  case round =>
    obtain ⟨i, s, p, hi, hsz, rfl, rfl, hc, hf, hrep, hbw⟩ := hrel
    have hG : w.heap.size ≤ w1.heap.size := hb1.size
    have hlt : w1.heap.size < wr.heap.size := World.block_lt_of_cell? wr _ hc
    have hm : k % 600 < 600 := Nat.mod_lt _ (by decide)
    have HZ := Lib.hid hsz
    have hsb : s.size ≤ 600 := by omega
    clear hsz
    by_cases hl : i < k % 600
    · have hcv := fun W => Rp.conv_one W ((97 : Int) + (i : Int) % 26)
      go_upto_if 25 with fail
      go_cut [8] (fun s8 wx => ∃ J : Nat, J ≤ s.size ∧ s8 = .int .i64 J ∧ wr = wx)
      case first =>
        by_cases hy3 : y % 3 = 1
        · have e1 : (((y : Int) % 3 == 1)) = true := by simp; omega
          clear hy3
          go_wp2_with fail
          go_meet
          exact ⟨0, Nat.zero_le _, rfl, rfl⟩
        · have e1 : (((y : Int) % 3 == 1)) = false := beq_eq_false_iff_ne.2 (by omega)
          clear hy3
          go_wp2_with fail
          go_meet
          exact ⟨s.size, Nat.le_refl _, rfl, rfl⟩
      case rest =>
        obtain ⟨J0, hJ0, rfl, rfl⟩ := hcut
        go_upto_if 28 with fail
        go_cut [8] (fun s8 wx => ∃ J : Nat, J ≤ s.size ∧ s8 = .int .i64 J ∧ wr = wx)
        case first =>
          by_cases hy3 : y % 3 = 2
          · have e1 : (((y : Int) % 3 == 2)) = true := by simp; omega
            clear hy3
            go_wp2_with fail
            go_meet
            exact ⟨s.size / 2, by omega, by simp, rfl⟩
          · have e1 : (((y : Int) % 3 == 2)) = false := beq_eq_false_iff_ne.2 (by omega)
            clear hy3
            go_wp2_with fail
            go_meet
            exact ⟨J0, hJ0, rfl, rfl⟩
        case rest =>
          obtain ⟨J, hJ1, rfl, rfl⟩ := hcut
          clear hJ0
          go_wp2_with fail
          have hcs := Rp.one_size ((97 : Int) + (i : Int) % 26)
          have C1 := Rp.cell_al (o := .cells #[.int .u8 ((97 : Int) + (i : Int) % 26)] 5) hc
          have F1 : (wr.alloc (.cells #[.int .u8 ((97 : Int) + (i : Int) % 26)] 5)).frozen? ⟨w1.heap.size, 0, none⟩ = false := Rp.frz_up (Rp.below_al _ _) hc hf
          have R1 := hrep.al (.cells #[.int .u8 ((97 : Int) + (i : Int) % 26)] 5)
          have B1 := hbw.alloc hbw.size (.cells #[.int .u8 ((97 : Int) + (i : Int) % 26)] 5)
          clear hc hf hrep hbw hcv
          generalize strOfNums [(97 : Int) + (i : Int) % 26] = c at *
          generalize wr.alloc (.cells #[.int .u8 ((97 : Int) + (i : Int) % 26)] 5) = V at *
          have hcs1 : c.size ≤ 1 ∧ 1 ≤ c.size := by omega
          have HCS := Lib.hid hcs; clear hcs
          have hJ : J ≤ s.size := by omega
          refine (put_yes p s.data.toList J c V R1 (by rw [Rn.len_data0]; exact hJ) (by rw [Rn.len_data0]; omega)).mono ?_
          rintro e w2 ⟨r, rfl, hr, hb2⟩
          have C2 := Rp.cell_up hb2 C1
          have F2 := Rp.frz_up hb2 C1 F1
          have B2 := Rp.below_up B1 hb2
          have lt2 : w1.heap.size < w2.heap.size := World.block_lt_of_cell? w2 _ C2
          have ZR := (hr.set C2 (.pointer r)).al (.cells #[.pointer r] 26)
          have ZC : ((w2.setCell ⟨w1.heap.size, 0, none⟩ (.pointer r)).alloc (.cells #[.pointer r] 26)).cell? ⟨w1.heap.size, 0, none⟩ = some (.pointer r) := Rp.cell_al (World.cell?_setCell_same _ _ _ C2)
          have ZF : ((w2.setCell ⟨w1.heap.size, 0, none⟩ (.pointer r)).alloc (.cells #[.pointer r] 26)).frozen? ⟨w1.heap.size, 0, none⟩ = false := Rp.frz_up (Rp.below_al _ _) (World.cell?_setCell_same _ _ _ C2) (by simpa using F2)
          have ZB : Below w.heap.size w ((w2.setCell ⟨w1.heap.size, 0, none⟩ (.pointer r)).alloc (.cells #[.pointer r] 26)) := (B2.setCell hG _).alloc (B2.setCell hG _).size _
          clear C1 F1 R1 B1
          go_wp2_with fail
          clear C2 F2 B2 hr lt2 hb2
          generalize (w2.setCell ⟨w1.heap.size, 0, none⟩ (.pointer r)).alloc (.cells #[.pointer r] 26) = Z at *
          have i1 : (0 : Int) ≤ (J : Nat) := by omega
          have i2 : ((J : Nat) : Int) ≤ (s.size : Int) := by omega
          have k1 : ¬ 9223372036854775807 < J + c.size := by omega
          have k2 : ¬ 9223372036854775807 < J + c.size + (s.size - J) := by omega
          have e5 : (s.extract 0 J ++ c ++ s.extract J s.size).data.toList = s.data.toList.take J ++ c.data.toList ++ s.data.toList.drop J := by
            rw [Rp.append_data, Rp.append_data, Rp.ext_left, Rp.ext_right]
          have e6 : (s.extract 0 J ++ c ++ s.extract J s.size).size = i + 1 := by
            have h1 := HZ.out; have h2 := HCS.out
            simp; omega
          rw [← e5] at ZR
          have E6 := Lib.hid e6; clear e5 e6
          go_quiet (fail)
          generalize s.extract 0 J ++ c ++ s.extract J s.size = S at *
          obtain ⟨m, hmb, hmh⟩ := ZR.bound
          rw [Rn.len_data0] at hmb
          have dq1 : decide (4 + 2 * Rp.bits S.size < m) = false := by simp; omega
          have dq2 : decide ((4 : Int) + 2 * (Rp.bits S.size : Int) < (m : Int)) = false := by simp; omega
          have hSb : S.size ≤ 1000000 := by have := E6.out; omega
          go_wp2_with fail
          refine (height_any r m _ (hmh.up (Rp.below_drewN (Below.refl _ _) _))).mono ?_
          rintro e w4 ⟨rfl, hb4⟩
          have bz := Rp.below_up (Rp.below_drewN (Below.refl Z.heap.size Z) _) hb4
          go_wp2_with fail
          refine (refBound_any S.size _ hSb).mono ?_
          rintro e w' ⟨rfl, rfl⟩
          go_wp2_with fail
          go_round
          case rel => exact ⟨i + 1, S, r, by omega, E6.out, by go_num, rfl, Rp.cell_up bz ZC, Rp.frz_up bz ZC ZF, ZR.up bz, Rp.below_up ZB bz⟩
          case measure => simp [intOf]; omega
    · have hd : decide ((i : Int) < (k : Int) % 600) = false := by simp; omega
      go_wp2_with fail
      refine (text_s p s _ hrep (by omega)).mono ?_
      rintro e w2 ⟨rfl, hb2⟩
      go_wp2_with fail
      go_ret
      exact ⟨by first | rfl | simp, Rp.below_up hbw hb2⟩
end Go.Proofs.Ytngighdhlehocaa
