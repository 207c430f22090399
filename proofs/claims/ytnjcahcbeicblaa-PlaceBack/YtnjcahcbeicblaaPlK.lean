/- The law PlaceBack, walked. -/
import Derived.Test.YtnjcahcbeicblaaPlI
import Derived.Test.YtnjcahcbeicblaaRnK
namespace Go.Proofs.Ytnjcahcbeicblaa
set_option linter.unusedVariables false
set_option linter.unusedSimpArgs false
open Go.RowKit
open Rp (Tr)
/-- what the round keeps: a text that is not too long -/
def Pl.BInv (w : World) (len : Nat) (s j : Value) (wr : World) : Prop :=
  ∃ (k : Nat) (S : ByteArray), k ≤ len ∧ k ≤ 40 ∧ s = .string S ∧ j = .int .i64 k ∧ S.size ≤ 4 * k ∧ Below w.heap.size w wr
set_option maxRecDepth 100000 in
set_option maxHeartbeats 2000000 in
theorem backLaw_any (a : Option Addr) (len cap : Nat) (zs : List Int) (x : Int) (w : World) (hr : IsRow .i64 w a len cap zs) (hx : 0 ≤ x ∧ x ≤ 255) :
    Calls Try.prog 7 #[.slice a len cap, .int .u8 x] w (Rp.BPost w true) := by
  have hlen : len ≤ 2 ^ 63 - 1 := by
    rcases hr with ⟨_, h, _⟩ | ⟨_, _, h1, h2, _⟩
    · omega
    · unfold maxLen at h2; omega
  have hcell : ∀ j : Nat, j < len → ∃ b off, a = some ⟨b, off, none⟩ ∧ b < w.heap.size ∧ w.cell? ⟨b, off + j, none⟩ = some (.int .i64 (zs.getD j 0)) := by
    intro j hj
    rcases hr with ⟨_, h, _⟩ | ⟨p, rfl, h1, h2, h3, h4, h5⟩
    · omega
    · have h0 := h4 j (by omega)
      obtain ⟨b, off, rfl, hc⟩ := ints_at h4 (by omega)
      have h1 := hc j (by omega)
      exact ⟨b, off, rfl, World.block_lt_of_cell? w _ h1, h1⟩
  have HCELL := Lib.hid hcell; clear hcell
  clear hr
  go_enter Try.func7, Try.ntmps7
  go_wp2_with (go_at_call 19; refine (alive3_any _).mono ?_; rintro e w1 ⟨rfl, hb1⟩)
  go_loopw [5, 6] (fun s j wr => Pl.BInv w len s j wr) (fun _ j _ => 40 - (intOf j).toNat)
  case atStart => exact ⟨0, ⟨#[]⟩, by omega, by omega, rfl, rfl, by decide, hb1⟩
  case round =>
    obtain ⟨k, S, hk1, hk2, rfl, rfl, hsz, hb⟩ := hrel
    clear hb1
    by_cases hgo : k < len ∧ k < 40
    · obtain ⟨hlt, hlt2⟩ := hgo
      obtain ⟨b, off, rfl, hbl, hc0⟩ := HCELL.out k hlt
      have hc := (hb.cell (p := ⟨b, off + k, none⟩) hbl).trans hc0
      clear hc0
      generalize zs.getD k 0 = z at hc
      have hz4 : (strOfNums (Rn.bytesI z)).size ≤ 4 := by rw [strOfNums_size]; exact bytesI_len z
      go_wp2_with (go_at_call 34; refine (refBytes_any _ _).mono ?_; rintro e w6 ⟨rfl, hx6⟩; replace hb := bthen hb hx6; clear hx6)
      go_roundw
      case rel => exact ⟨k + 1, _, by omega, by omega, rfl, by go_num, by rw [ByteArray.size_append]; omega, hb⟩
      case measure => simp [intOf]; omega
    · have hout : (k < len ∧ ¬ (k : Int) < 40) ∨ ¬ (k : Int) < len := by omega
      clear hgo
      obtain ⟨A, hA1, hA2⟩ : ∃ A : Nat, A ≤ S.size ∧ x.tmod ((S.size : Int) + 1) = A := by
        refine ⟨(x.tmod ((S.size : Int) + 1)).toNat, ?_, ?_⟩
        · have h1 := Int.tmod_lt_of_pos x (show 0 < (S.size : Int) + 1 by omega)
          omega
        · have h1 := Int.tmod_nonneg ((S.size : Int) + 1) hx.1
          omega
      have hA3 : x % ((S.size : Int) + 1) = A := by rw [← hA2, Int.tmod_eq_emod_of_nonneg hx.1]
      have hs1 : S.size ≤ 1000000 := by omega
      have hl1 : S.data.toList.length ≤ 1000000 := by rw [Rn.len_data0]; exact hs1
      obtain ⟨f, t, R⟩ := Pl.row_ex S.data.toList (Rp.lns (S.data.toList.take A)) (Rp.lns_take_le _ _)
      have hcol := R.col (by rw [Rn.len_data0]; exact hA1) rfl
      have hin := R.has (by rw [Rn.len_data0]; exact hA1) rfl
      have c1 := Pl.cnt_mono S.data.toList hin.1
      have c2 := Pl.cnt_mono S.data.toList hin.2
      have hat := fun r w' (h : Rp.Rep w' r S.data.toList) => atP_yes r S (Rp.lns (S.data.toList.take A)) f t (Pl.col (S.data.toList.take A)) w' h hs1 R (by rw [hcol]; omega) (by rw [hcol]; omega)
      have hback := fun he => Pl.back R hA1 rfl he
      rw [← hcol] at hback
      have HBK := Lib.hid hback; have HAT := Lib.hid hat
      have HMK := Lib.hid (fun r w' (h : Rp.Rep w' r S.data.toList) => mark_yes r S.data.toList A w' h hl1 (by rw [Rn.len_data0]; exact hA1))
      clear hback hat hcol hin c1 c2 R
      generalize Rp.lns (S.data.toList.take A) = L at *
      generalize Pl.col (S.data.toList.take A) = C at *
      have hfq : ∃ q : Int, q = (f : Int) + Rn.cut (S.extract f t) C := ⟨_, rfl⟩
      obtain ⟨q, hq⟩ := hfq
      rw [← hq] at HAT
      have hqb : Rn.edgeB S A = true → q = A := by intro he; rw [hq]; have := HBK.out he; omega
      have HQB := Lib.hid hqb
      clear hqb hq HBK
      have hxs := hx.1; have hxt := hx.2
      clear hx
      rcases hout with ⟨hlt, hout⟩ | hout
      all_goals
        go_wp2_with fail
        refine (of_yes S _ (by omega)).mono ?_
        rintro e w2 ⟨r, rfl, hrp, hb2⟩
        have V := Rp.var_new hrp
        have be := (Rp.below_up hb hb2).alloc (Rp.below_up hb hb2).size (.cells #[.pointer r] 26)
        clear hb2 hrp
        go_wp2_with fail
        generalize w2.alloc (.cells #[.pointer r] 26) = u2 at *
        generalize w2.heap.size = N at *
        refine (HMK.out r _ V.rep).mono ?_
        rintro e w3 ⟨rfl, hb3⟩
        replace V := (V.up hb3).up (Rp.below_al w3 (.cells #[.int .i64 L, .int .i64 C] 46))
        replace be := (Rp.below_up be hb3).alloc (Rp.below_up be hb3).size (.cells #[.int .i64 L, .int .i64 C] 46)
        have x0 := V.cell
        clear hb3
        go_wp2_with fail
        generalize w3.alloc (.cells #[.int .i64 L, .int .i64 C] 46) = u3 at *
        refine (HAT.out r _ V.rep).mono ?_
        rintro e w4 ⟨rfl, hb4⟩
        replace be := Rp.below_up be hb4
        clear x0 V hb4
        rcases Bool.eq_false_or_eq_true (Rn.edgeB S (A : Int)) with hE | hE
        · have hqa := HQB.out hE
          subst hqa
          go_wp2_with (go_at_call 24; refine (refEdge_any _ _ _ (by unfold maxLen; omega)).mono ?_; rintro e w' ⟨rfl, rfl⟩)
          go_ret
          exact ⟨by first | rfl | simp, be⟩
        · go_wp2_with (go_at_call 24; refine (refEdge_any _ _ _ (by unfold maxLen; omega)).mono ?_; rintro e w' ⟨rfl, rfl⟩)
          go_ret
          exact ⟨by first | rfl | simp, be⟩
end Go.Proofs.Ytnjcahcbeicblaa
