/- What the document's 'At' and 'Near' of layer 3 are, walked. -/
import Derived.Test.YtnjcahcbeicblaaPlD
namespace Go.Proofs.Ytnjcahcbeicblaa
set_option linter.unusedVariables false
set_option linter.unusedSimpArgs false
open Go.RowKit
open Rp (Tr)
theorem Pl.Box2.dr {v : World} {c : Nat} {x y : Int} (h : Pl.Box2 v c x y) (n : Nat) : Pl.Box2 (v.drewN n) c x y := h.up (Rp.below_drewN (Below.refl _ _) n)
theorem Pl.best_next (x : ByteArray) (n : Int) (q : Nat) : Pl.bestU x n (q + 1) = if (Rn.edgeB x q && decide (Rn.cnt (x.data.toList.take q) ≤ n)) = true then q else Pl.bestU x n q := rfl
theorem Pl.ext_pre (s : ByteArray) (f t q : Nat) (h : f + q ≤ t) : (s.extract f (f + q)).data.toList = (s.extract f t).data.toList.take q := by
  rw [Lib.extract_data, Lib.extract_data, List.take_take]; congr 1; omega
/-- what the round of At keeps -/
def Pl.AInv (w : World) (x : ByteArray) (f : Nat) (k n : Int) (best i : Value) (wr : World) : Prop :=
  ∃ q : Nat, q ≤ x.size + 1 ∧ i = .int .i64 ((f : Int) + q) ∧ best = .int .i64 ((f : Int) + Pl.bestU x n q) ∧ Pl.Box2 wr w.heap.size k n ∧ Below w.heap.size w wr
set_option maxRecDepth 100000 in
set_option maxHeartbeats 2000000 in
theorem refAt_any (s : ByteArray) (k f t : Nat) (n : Int) (w : World) (hs : s.size ≤ 1000000) (R : Pl.Row s.data.toList k f t) : Calls Try.prog 33 #[.string s, .agg #[.int .i64 k, .int .i64 n]] w (Rp.IPost w ((f : Int) + Pl.bestU (s.extract f t) n ((s.extract f t).size + 1))) := by
  have hft := R.ft
  have htl := R.tl
  rw [Rn.len_data0] at htl
  have hz := Pl.ext_size s f t hft htl
  have B := Pl.box2_new (v := w) k n 46
  have hbw := Rp.below_al w (.cells #[.int .i64 k, .int .i64 n] 46)
  go_enter Try.func33, Try.ntmps33
  go_wp2_with fail
  refine (refSpan_yes s k f t _ hs R).mono ?_
  rintro e w1 ⟨rfl, hb1⟩
  replace B := B.up hb1
  have be := Rp.below_up hbw hb1
  clear hbw hb1
  obtain ⟨x, hx⟩ : ∃ x, x = s.extract f t := ⟨_, rfl⟩
  rw [← hx] at hz ⊢
  have HX := Lib.hid hx; clear hx
  have i1 : (0 : Int) ≤ (f : Int) := by omega
  have i2 : (f : Int) ≤ (t : Int) := by omega
  have i3 : (t : Int) ≤ (s.size : Int) := by omega
  have HR := Lib.hid R; clear R
  go_wp2_with fail
  go_loopw [7, 8] (fun b i wr => Pl.AInv w x f k n b i wr) (fun _ i _ => ((t : Int) + 1 - intOf i).toNat)
  case atStart => exact ⟨0, by omega, by simp, by simp [Pl.bestU], B, be⟩
  case round =>
    obtain ⟨q, hq, rfl, rfl, BQ, beq⟩ := hrel
    clear B be
    have hbl := Pl.bestU_le x n q
    by_cases hlt : q ≤ x.size
    · have hn := Pl.best_next x n q
      have j1 : (f : Int) + q ≤ (t : Int) := by omega
      have j2 : (f : Int) ≤ (f : Int) + q := by omega
      have j3 : (0 : Int) ≤ (f : Int) + q := by omega
      have j4 : (f : Int) + q ≤ (s.size : Int) := by omega
      have hp := Pl.ext_pre s f t q (by omega)
      rw [← HX.out] at hp
      have c1 := BQ.c1
      have hw : IntKind.i64.wrap ((f : Int) + q - f) = (q : Int) := by rw [IntWalk.i64_in _ (by omega)]; omega
      have ht1 : ((f : Int) + q).toNat = f + q := by omega
      have HXE : (s.extract f t) = x := HX.out.symm
      have hzx : x.size ≤ maxLen := by unfold maxLen; omega
      have hzp : (s.extract f (f + q)).size ≤ maxLen := by unfold maxLen; simp; omega
      have hed : ∀ w', Calls Try.prog 24 #[.string x, .int .i64 q] w' fun e w'' => e = .returned (.bool (Rn.edgeB x q)) ∧ w' = w'' := fun w' => refEdge_any x q w' hzx
      rcases Bool.eq_false_or_eq_true (Rn.edgeB x q) with hf | hf
      all_goals
        rw [hf] at hed hn
        have HED := Lib.hid hed; clear hed hf
      · by_cases hc : Rn.cnt (x.data.toList.take q) ≤ n
        · rw [if_pos (by simp [hc])] at hn
          have HN := Lib.hid hn; clear hn
          have hcd : decide (Rn.cnt (x.data.toList.take q) ≤ n) = true := by simp [hc]
          have HP := Lib.hid hp; clear hp hc
          have hcnt : ∀ w', Calls Try.prog 57 #[.string (s.extract f (f + q))] w' fun e w'' => e = .returned (.int .i64 (Rn.cnt (x.data.toList.take q))) ∧ w' = w'' := by
            intro w'; have := refCount_any (s.extract f (f + q)) w' hzp; rw [HP.out] at this; exact this
          have HCN := Lib.hid hcnt; clear hcnt
          go_wp2_with fail
          go_quiet ((first | (go_at_call 24; exact quietly (HED.out _)) | (go_at_call 57; exact quietly (HCN.out _))))
          go_wp2_with fail
          go_roundw
          case rel => exact ⟨q + 1, by omega, by simp; omega, by rw [HN.out], BQ.dr _, Rp.below_drewN beq _⟩
          case measure => simp [intOf]; omega
        · rw [if_neg (by simp [hc])] at hn
          have HN := Lib.hid hn; clear hn
          have hcd : decide (Rn.cnt (x.data.toList.take q) ≤ n) = false := by simp; omega
          have HP := Lib.hid hp; clear hp hc
          have hcnt : ∀ w', Calls Try.prog 57 #[.string (s.extract f (f + q))] w' fun e w'' => e = .returned (.int .i64 (Rn.cnt (x.data.toList.take q))) ∧ w' = w'' := by
            intro w'; have := refCount_any (s.extract f (f + q)) w' hzp; rw [HP.out] at this; exact this
          have HCN := Lib.hid hcnt; clear hcnt
          go_wp2_with fail
          go_quiet ((first | (go_at_call 24; exact quietly (HED.out _)) | (go_at_call 57; exact quietly (HCN.out _))))
          go_wp2_with fail
          go_roundw
          case rel => exact ⟨q + 1, by omega, by simp; omega, by rw [HN.out], BQ.dr _, Rp.below_drewN beq _⟩
          case measure => simp [intOf]; omega
      · rw [if_neg (by simp)] at hn
        have HN := Lib.hid hn; clear hn hp
        go_wp2_with fail
        go_quiet ((go_at_call 24; exact quietly (HED.out _)))
        go_wp2_with fail
        go_roundw
        case rel => exact ⟨q + 1, by omega, by simp; omega, by rw [HN.out], BQ.dr _, Rp.below_drewN beq _⟩
        case measure => simp [intOf]; omega
    · obtain rfl : q = x.size + 1 := by omega
      have hg : ¬ (f : Int) + ((x.size + 1 : Nat) : Int) ≤ (t : Int) := by omega
      go_wp2_with fail
      go_ret
      exact ⟨by rw [← HX.out]; rfl, beq⟩
theorem refAt_cut (s : ByteArray) (k f t : Nat) (n : Int) (w : World) (hs : s.size ≤ 1000000) (R : Pl.Row s.data.toList k f t) (hn : 0 ≤ n) : Calls Try.prog 33 #[.string s, .agg #[.int .i64 k, .int .i64 n]] w (Rp.IPost w ((f : Int) + Rn.cut (s.extract f t) n)) := by
  have := refAt_any s k f t n w hs R
  rw [Pl.bestU_cut _ _ hn] at this
  exact this
end Go.Proofs.Ytnjcahcbeicblaa
