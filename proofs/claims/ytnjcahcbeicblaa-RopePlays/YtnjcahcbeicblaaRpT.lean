/- What the document's answers of layer 2 are, walked. -/
import Derived.Test.YtnjcahcbeicblaaRpS
namespace Go.Proofs.Ytnjcahcbeicblaa
set_option linter.unusedVariables false
set_option linter.unusedSimpArgs false
open Go.RowKit
open Rp (Tr)
theorem Rp.lns_take_at (s : ByteArray) (k : Nat) (h : k < s.size) : Rp.lns (s.data.toList.take (k + 1)) = Rp.lns (s.data.toList.take k) + if (s[k].toNat : Int) = 10 then 1 else 0 := by
  rw [Rn.take_snoc s k h, Rp.lns_append, Rp.lns_cons]
  have : (s[k] = 10) ↔ ((s[k].toNat : Int) = 10) := by
    rw [← UInt8.toNat_inj]
    have : (10 : UInt8).toNat = 10 := rfl
    omega
  by_cases hc : (s[k].toNat : Int) = 10
  · rw [if_pos hc, if_pos (this.2 hc)]; simp [Rp.lns]
  · rw [if_neg hc, if_neg (fun e => hc (this.1 e))]; simp [Rp.lns]
set_option maxHeartbeats 1000000 in
theorem refLines_any (s : ByteArray) (i : Int) (w : World) (hs : s.size ≤ 1000000) : Calls Try.prog 47 #[.string s, .int .i64 i] w fun e w' => e = .returned (.int .i64 (Rp.lns (s.data.toList.take i.toNat))) ∧ w = w' := by
  go_enter Try.func47, Try.ntmps47
  go_wp2_with fail
  go_loop [5, 6] (fun n j => ∃ k : Nat, k ≤ s.size ∧ (k : Int) ≤ max i 0 ∧ j = .int .i64 k ∧ n = .int .i64 (Rp.lns (s.data.toList.take k))) (fun _ j => s.size - (intOf j).toNat)
  case atStart => exact ⟨0, Nat.zero_le _, by omega, rfl, by simp [Rp.lns]⟩
  case round =>
    obtain ⟨k, hk, hki, rfl, rfl⟩ := hrel
    have hb : Rp.lns (s.data.toList.take k) ≤ k := Nat.le_trans (Rp.lns_le _) (List.length_take_le _ _)
    by_cases h1 : k < s.size
    · by_cases h2 : (k : Int) < i
      · have hsn := Rp.lns_take_at s k h1
        have HS := Lib.hid hsn; clear hsn
        by_cases hc : (s[k].toNat : Int) = 10
        · have hc' : ((s[k].toNat : Int) == 10) = true := by simp [hc]
          have HC := Lib.hid hc; clear hc
          go_wp2_with fail
          go_round
          case rel => exact ⟨k + 1, by omega, by omega, by go_num, by rw [HS.out, if_pos HC.out]; simp⟩
          case measure => simp [intOf]; omega
        · have hc' : ((s[k].toNat : Int) == 10) = false := beq_eq_false_iff_ne.2 hc
          have HC := Lib.hid hc; clear hc
          go_wp2_with fail
          go_round
          case rel => exact ⟨k + 1, by omega, by omega, by go_num, by rw [HS.out, if_neg HC.out]; simp⟩
          case measure => simp [intOf]; omega
      · have e : k = i.toNat := by omega
        have d : decide ((k : Int) < i) = false := by simp; omega
        have E := Lib.hid e; clear e h2
        go_wp2_with fail
        go_ret
        exact ⟨ret_int (by rw [E.out]), rfl⟩
    · have e : s.data.toList.take k = s.data.toList.take i.toNat := by
        rw [List.take_of_length_le (by simp; omega), List.take_of_length_le (by simp; omega)]
      have E := Lib.hid e; clear e
      go_wp2_with fail
      go_ret
      exact ⟨ret_int (by rw [E.out]), rfl⟩
set_option maxHeartbeats 1000000 in
theorem refSigns_any (s : ByteArray) (i : Int) (w : World) (hs : s.size ≤ 1000000) : Calls Try.prog 49 #[.string s, .int .i64 i] w fun e w' => e = .returned (.int .i64 (Rn.cnt (s.data.toList.take i.toNat))) ∧ w = w' := by
  by_cases h1 : i < 0
  · have e : Rn.cnt (s.data.toList.take i.toNat) = 0 := by
      have : i.toNat = 0 := by omega
      rw [this]; simp [Rn.cnt]
    rw [e]; clear e
    go_enter Try.func49, Try.ntmps49
    go_wp2_with fail
    go_ret
    exact ⟨rfl, rfl⟩
  by_cases h2 : (s.size : Int) < i
  · have e : s.data.toList.take i.toNat = s.data.toList := List.take_of_length_le (by simp; omega)
    rw [e]; clear e
    have hx : s.extract 0 s.size = s := by simp
    go_enter Try.func49, Try.ntmps49
    go_wp2_with fail
    refine (refCount_any _ w (by unfold maxLen; simp; omega)).mono ?_
    rintro e w' ⟨rfl, rfl⟩
    go_wp2_with fail
    go_ret
    exact ⟨ret_int (by first | rfl | rw [hx]), rfl⟩
  · obtain ⟨k, rfl⟩ := Int.eq_ofNat_of_zero_le (Int.not_lt.1 h1)
    have e : s.data.toList.take (k : Int).toNat = (s.extract 0 k).data.toList := by rw [Rp.ext_left]; simp
    rw [e]; clear e
    have i1 : (0 : Int) ≤ (k : Int) := by omega
    have i2 : (k : Int) ≤ (s.size : Int) := by omega
    have d2 : decide (s.size < k) = false := by simp; omega
    clear h1 h2
    go_enter Try.func49, Try.ntmps49
    go_wp2_with fail
    refine (refCount_any (s.extract 0 k) w (by unfold maxLen; simp; omega)).mono ?_
    rintro e w' ⟨rfl, rfl⟩
    go_wp2_with fail
    go_ret
    exact ⟨ret_int (by rw [Rp.ext_left]), rfl⟩
set_option maxHeartbeats 1000000 in
theorem refLine_zero (s : ByteArray) (w : World) : Calls Try.prog 46 #[.string s, .int .i64 0] w fun e w' => e = .returned (.int .i64 0) ∧ w = w' := by
  go_enter Try.func46, Try.ntmps46
  go_wp2_with fail
  go_ret
  exact ⟨rfl, rfl⟩
theorem Rp.behind_here (s : ByteArray) (i k : Nat) (h : i < s.size) (hc : (s[i].toNat : Int) = 10) (hk : Rp.lns (s.data.toList.take i) + 1 = k) : Rp.Behind s.data.toList k (i + 1) := by
  refine ⟨by simp; omega, ?_, .inr ?_⟩
  · rw [Rp.lns_take_at s i h, if_pos hc]; exact hk
  · have e : s[i] = 10 := by
      rw [← UInt8.toNat_inj]
      have : (10 : UInt8).toNat = 10 := rfl
      omega
    rw [← e]; simp [h]; rfl
set_option maxHeartbeats 2000000 in
theorem refLine_at (s : ByteArray) (k q : Nat) (w : World) (hs : s.size ≤ 1000000) (h0 : 0 < k) (hB : Rp.Behind s.data.toList k q) : Calls Try.prog 46 #[.string s, .int .i64 k] w fun e w' => e = .returned (.int .i64 q) ∧ w = w' := by
  have d0 : ((k : Int) == 0) = false := beq_eq_false_iff_ne.2 (by omega)
  have hkl : k ≤ Rp.lns s.data.toList := by rw [← hB.2.1]; exact Rp.lns_take_le _ _
  have HB := Lib.hid hB; clear hB
  go_enter Try.func46, Try.ntmps46
  go_wp2_with fail
  go_loop [5, 6] (fun n j => ∃ i : Nat, i ≤ s.size ∧ Rp.lns (s.data.toList.take i) < k ∧ j = .int .i64 i ∧ n = .int .i64 (Rp.lns (s.data.toList.take i))) (fun _ j => s.size - (intOf j).toNat)
  case atStart => exact ⟨0, Nat.zero_le _, by simpa [Rp.lns] using h0, rfl, by simp [Rp.lns]⟩
  case round =>
    obtain ⟨i, hi, hn, rfl, rfl⟩ := hrel
    have hb : Rp.lns (s.data.toList.take i) ≤ i := Nat.le_trans (Rp.lns_le _) (List.length_take_le _ _)
    by_cases h1 : i < s.size
    · have hsn := Rp.lns_take_at s i h1
      have HS := Lib.hid hsn; clear hsn
      by_cases hc : (s[i].toNat : Int) = 10
      · have hc' : ((s[i].toNat : Int) == 10) = true := by simp [hc]
        by_cases hq : Rp.lns (s.data.toList.take i) + 1 = k
        · have e := Rp.behind_one HB.out (Rp.behind_here s i k h1 hc hq)
          have hq' : ((Rp.lns (s.data.toList.take i) : Int) + 1 == (k : Int)) = true := by simp; omega
          have E := Lib.hid e; clear e hq hc
          go_wp2_with fail
          go_ret
          exact ⟨ret_int (by rw [E.out]; simp), rfl⟩
        · have hq' : ((Rp.lns (s.data.toList.take i) : Int) + 1 == (k : Int)) = false := beq_eq_false_iff_ne.2 (by omega)
          have HC := Lib.hid hc; clear hc
          go_wp2_with fail
          go_round
          case rel => exact ⟨i + 1, by omega, by rw [HS.out, if_pos HC.out]; omega, by go_num, by rw [HS.out, if_pos HC.out]; simp⟩
          case measure => simp [intOf]; omega
      · have hc' : ((s[i].toNat : Int) == 10) = false := beq_eq_false_iff_ne.2 hc
        have HC := Lib.hid hc; clear hc
        go_wp2_with fail
        go_round
        case rel => exact ⟨i + 1, by omega, by rw [HS.out, if_neg HC.out]; omega, by go_num, by rw [HS.out, if_neg HC.out]; simp⟩
        case measure => simp [intOf]; omega
    · exfalso
      rw [Rn.take_all s i h1] at hn
      omega
set_option maxHeartbeats 2000000 in
theorem refLine_none (s : ByteArray) (k : Nat) (w : World) (hs : s.size ≤ 1000000) (hk : Rp.lns s.data.toList < k) : Calls Try.prog 46 #[.string s, .int .i64 k] w fun e w' => e = .returned (.int .i64 (-1)) ∧ w = w' := by
  have d0 : ((k : Int) == 0) = false := beq_eq_false_iff_ne.2 (by omega)
  have HK := Lib.hid hk; clear hk
  go_enter Try.func46, Try.ntmps46
  go_wp2_with fail
  go_loop [5, 6] (fun n j => ∃ i : Nat, i ≤ s.size ∧ j = .int .i64 i ∧ n = .int .i64 (Rp.lns (s.data.toList.take i))) (fun _ j => s.size - (intOf j).toNat)
  case atStart => exact ⟨0, Nat.zero_le _, rfl, by simp [Rp.lns]⟩
  case round =>
    obtain ⟨i, hi, rfl, rfl⟩ := hrel
    have hb : Rp.lns (s.data.toList.take i) ≤ i := Nat.le_trans (Rp.lns_le _) (List.length_take_le _ _)
    have hn : Rp.lns (s.data.toList.take i) < k := Nat.lt_of_le_of_lt (Rp.lns_take_le _ _) HK.out
    by_cases h1 : i < s.size
    · have hsn := Rp.lns_take_at s i h1
      have HS := Lib.hid hsn; clear hsn
      by_cases hc : (s[i].toNat : Int) = 10
      · have hc' : ((s[i].toNat : Int) == 10) = true := by simp [hc]
        have hq' : ((Rp.lns (s.data.toList.take i) : Int) + 1 == (k : Int)) = false := by
          have h3 := Rp.lns_take_le s.data.toList (i + 1)
          rw [HS.out, if_pos hc] at h3
          have := HK.out
          exact beq_eq_false_iff_ne.2 (by omega)
        have HC := Lib.hid hc; clear hc
        go_wp2_with fail
        go_round
        case rel => exact ⟨i + 1, by omega, by go_num, by rw [HS.out, if_pos HC.out]; simp⟩
        case measure => simp [intOf]; omega
      · have hc' : ((s[i].toNat : Int) == 10) = false := beq_eq_false_iff_ne.2 hc
        have HC := Lib.hid hc; clear hc
        go_wp2_with fail
        go_round
        case rel => exact ⟨i + 1, by omega, by go_num, by rw [HS.out, if_neg HC.out]; simp⟩
        case measure => simp [intOf]; omega
    · go_wp2_with fail
      go_ret
      exact ⟨rfl, rfl⟩
set_option maxHeartbeats 400000 in
theorem refSpan_any (s : ByteArray) (f g : Int) (w : World) : Calls Try.prog 12 #[.string s, .int .i64 f, .int .i64 g] w fun e w' => e = .returned (.bool (Rp.spanB s.size f g)) ∧ w = w' := by
  by_cases h1 : 0 ≤ f
  · have d1 : decide (0 ≤ f) = true := by simp; omega
    by_cases h2 : f ≤ g
    · have d2 : decide (f ≤ g) = true := by simp; omega
      have e : Rp.spanB s.size f g = decide (g ≤ s.size) := by simp [Rp.spanB, h1, h2]
      have E := Lib.hid e; clear e h1 h2
      go_enter Try.func12, Try.ntmps12
      go_wp2_with fail
      all_goals
        go_ret
        refine ⟨?_, rfl⟩
        rw [E.out]; first | rfl | simp [*]
    · have d2 : decide (f ≤ g) = false := by simp; omega
      have e : Rp.spanB s.size f g = false := by simp [Rp.spanB, h2]
      have E := Lib.hid e; clear e h1 h2
      go_enter Try.func12, Try.ntmps12
      go_wp2_with fail
      go_ret
      exact ⟨by rw [E.out]; rfl, rfl⟩
  · have d1 : decide (0 ≤ f) = false := by simp; omega
    have e : Rp.spanB s.size f g = false := by simp [Rp.spanB, h1]
    have E := Lib.hid e; clear e h1
    go_enter Try.func12, Try.ntmps12
    go_wp2_with fail
    go_ret
    exact ⟨by rw [E.out]; rfl, rfl⟩
theorem Rp.bits_le (n : Nat) : Rp.bits n ≤ n := by
  induction n using Nat.strongRecOn with
  | _ n ih =>
    rw [Rp.bits]
    split
    · omega
    · have := ih (n / 2) (by omega); omega
theorem Rp.bits_step (m : Nat) (h : 0 < m) : Rp.bits m = 1 + Rp.bits (m / 2) := by rw [Rp.bits, if_neg (by omega)]
set_option maxHeartbeats 400000 in
theorem refBound_any (n : Nat) (w : World) (hn : n ≤ 1000000) : Calls Try.prog 51 #[.int .i64 n] w fun e w' => e = .returned (.int .i64 (4 + 2 * Rp.bits n : Nat)) ∧ w = w' := by
  have hb := Rp.bits_le n
  go_enter Try.func51, Try.ntmps51
  go_wp2_with fail
  go_loop [3, 4] (fun h x => ∃ a m : Nat, m ≤ 1000000 ∧ x = .int .i64 m ∧ h = .int .i64 a ∧ a ≤ 4 + 2 * Rp.bits n ∧ Hid (a + 2 * Rp.bits m = 4 + 2 * Rp.bits n)) (fun _ x => (intOf x).toNat)
  case atStart => exact ⟨4, n, hn, rfl, rfl, by omega, by rfl⟩
  case round =>
    obtain ⟨a, m, hm, rfl, rfl, ha, HA⟩ := hrel
    by_cases h1 : 0 < m
    · have hs := Rp.bits_step m h1
      have HS := Lib.hid hs; clear hs
      go_wp2_with fail
      go_round
      case rel => exact ⟨a + 2, m / 2, by omega, by simp, by simp, by have := HA.out; rw [HS.out] at this; omega, by have := HA.out; rw [HS.out] at this; show _ = _; omega⟩
      case measure => simp [intOf]; omega
    · have e : m = 0 := by omega
      subst e
      have hz : Rp.bits 0 = 0 := by rw [Rp.bits]; rfl
      have E := HA.out
      rw [hz] at E
      have E' := Lib.hid E; clear E hz
      go_wp2_with fail
      go_ret
      exact ⟨ret_int (by have := E'.out; omega), rfl⟩
end Go.Proofs.Ytnjcahcbeicblaa
