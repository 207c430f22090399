/- What 'First' answers, walked. -/
import Derived.Test.YtndenipjiclkaaaRnB
import Derived.Test.YtndenipjiclkaaaRnQ
import Derived.Deep.QuietTactic
import Derived.BigQuiet
import Derived.IntWalk
namespace Go.Proofs.Ytndenipjiclkaaa
set_option linter.unusedVariables false
set_option linter.unusedSimpArgs false
open Go.RowKit
/-- a contract that leaves the world alone, in the form that a quiet region asks for -/
theorem quietly {P : Program} {f : FuncId} {args : Array Value} {w : World} {n : Nat} {v : Value} (h : Calls P f args (w.drewN n) fun e w' => e = .returned v ∧ w.drewN n = w') : Calls P f args (w.drewN n) fun e w' => e = .returned v ∧ ∃ m, w' = w.drewN m :=
  h.mono fun _ _ hh => ⟨hh.1, n, hh.2.symm⟩
theorem ret_two {a b c d : Int} (h : a = c) (h' : b = d) : Ending.returned (.tuple #[.int .i64 a, .int .i64 b]) = .returned (.tuple #[.int .i64 c, .int .i64 d]) := by rw [h, h']
set_option maxRecDepth 100000 in
set_option maxHeartbeats 400000 in
theorem first_any (s : ByteArray) (w : World) (hs : s.size ≤ maxLen) : Calls Try.prog 80 #[.string s] w fun e w' => e = .returned (.tuple #[.int .i64 (Rn.firstL s.data.toList).1, .int .i64 (Rn.firstL s.data.toList).2]) ∧ ∃ n, w' = w.drewN n := by
  unfold maxLen at hs
  by_cases h0 : s.size = 0
  · have e := Rn.firstL_nil s h0
    rw [e]; clear e
    have h1 : s.toList.isEmpty = true := by rw [ByteArray.toList_eq, List.isEmpty_iff_length_eq_zero]; simpa using h0
    clear h0
    go_enter Try.func80, Try.ntmps80
    go_wp2
    go_ret2
    exact ⟨rfl, 0, rfl⟩
  have h00 : 0 < s.size := by omega
  have h1 : s.toList.isEmpty = false := by rw [ByteArray.toList_eq, ← Bool.not_eq_true, List.isEmpty_iff_length_eq_zero]; simpa using h0
  clear h0
  by_cases hp : Rn.promI s[0].toNat = 0 ∨ (s.size : Int) < Rn.promI s[0].toNat
  · have e := Rn.firstL_no s h00 hp
    rw [e]; clear e
    have hk := Rn.prom_bd s[0].toNat
    by_cases hp0 : Rn.promI s[0].toNat = 0
    · go_enter Try.func80, Try.ntmps80
      go_wp2_with (go_at_call 93; refine (promised_any _ _).mono ?_; rintro e w' ⟨rfl, rfl⟩)
      go_ret2
      exact ⟨rfl, 0, rfl⟩
    · have hp1 : (Rn.promI s[0].toNat == 0) = false := beq_eq_false_iff_ne.2 hp0
      have hp2 : (s.size : Int) < Rn.promI s[0].toNat := by omega
      clear hp hp0
      go_enter Try.func80, Try.ntmps80
      go_wp2_with (go_at_call 93; refine (promised_any _ _).mono ?_; rintro e w' ⟨rfl, rfl⟩)
      go_ret2
      exact ⟨rfl, 0, rfl⟩
  have hk := Rn.prom_bd s[0].toNat
  have e := Rn.firstL_yes s h00 hp
  rw [e]; clear e
  have hp1 : (Rn.promI s[0].toNat == 0) = false := beq_eq_false_iff_ne.2 (by omega)
  have hp2 : ¬ (s.size : Int) < Rn.promI s[0].toNat := by omega
  have hp3 : 1 ≤ Rn.promI s[0].toNat := by omega
  clear hp
  have hc : s[0].toNat < 256 := s[0].toNat_lt
  have hl := Rn.lead_bd (Rn.promI s[0].toNat)
  go_enter Try.func80, Try.ntmps80
  go_wp2_with (go_at_call 93; refine (promised_any _ _).mono ?_; rintro e w' ⟨rfl, rfl⟩)
  have hw1 : IntKind.i64.wrap (s[0].toNat : Int) = s[0].toNat := IntWalk.i64_in _ (by omega)
  have hw2 : IntKind.i64.wrap ((s[0].toNat : Int) - Rn.leadI (Rn.promI s[0].toNat)) = s[0].toNat - Rn.leadI (Rn.promI s[0].toNat) := IntWalk.i64_in _ (by omega)
  go_quiet ((go_at_call 94; exact quietly (lead_any _ _)))
  clear hw1 hw2
  go_wp2
  generalize hn0 : (s[0].toNat : Int) - Rn.leadI (Rn.promI s[0].toNat) = n0
  have hb0 : -256 ≤ n0 ∧ n0 ≤ 256 := by omega
  have HN0 := Lib.hid hn0; clear hn0
  go_loop [5, 29] (fun n i => ∃ (j : Nat) (m : Int), (j : Int) + 1 ≤ Rn.promI s[0].toNat ∧ -(Rn.bd j) ≤ m ∧ m ≤ Rn.bd j ∧ i = .int .i64 j ∧ n = .int .i64 m ∧ Hid (Rn.dec n0 ((s.data.toList.take (Rn.promI s[0].toNat).toNat).drop 1) = Rn.dec m ((s.data.toList.take (Rn.promI s[0].toNat).toNat).drop (1 + j)))) (fun _ i => 4 - (intOf i).toNat)
  case atStart => exact ⟨0, n0, by omega, by simp [Rn.bd]; omega, by simp [Rn.bd]; omega, rfl, rfl, rfl⟩
  case round =>
    obtain ⟨j, m, hj, hm1, hm2, rfl, rfl, HR⟩ := hrel
    have hbd := Rn.bd_le j (by omega)
    by_cases hlt : (j : Int) < Rn.promI s[0].toNat - 1
    · have hj2 : 1 + j < s.size := by omega
      have hdr := Rn.take_drop_at s (Rn.promI s[0].toNat).toNat (1 + j) (by omega) (by omega)
      have HD := Lib.hid hdr; clear hdr
      have hc2 : s[1 + j].toNat < 256 := s[1 + j].toNat_lt
      rcases Bool.eq_false_or_eq_true (Rn.folI ↑s[1 + j].toNat) with hf | hf
      · have hf2 : 128 ≤ (s[1 + j].toNat : Int) ∧ (s[1 + j].toNat : Int) ≤ 191 := by simpa [Rn.folI] using hf
        have hb2 : Rn.bd (j + 1) = 64 * Rn.bd j + 64 := rfl
        have HB := Lib.hid hb2; clear hb2
        go_wp2_with (go_at_call 95; refine (follower_any _ _).mono ?_; rintro e w' ⟨rfl, rfl⟩)
        go_round
        case rel =>
          refine ⟨j + 1, m * 64 + s[1 + j].toNat - 128, by omega, by rw [HB.out]; omega, by rw [HB.out]; omega, by go_num, by go_num, ?_⟩
          have := HR.out; rw [HD.out] at this; simp only [Rn.dec, hf] at this; exact this
        case measure => simp [intOf]; omega
      · go_wp2_with (go_at_call 95; refine (follower_any _ _).mono ?_; rintro e w' ⟨rfl, rfl⟩)
        go_ret2
        have hh := HR.out; rw [HD.out] at hh; simp only [Rn.dec, hf] at hh
        exact ⟨ret_two (by rw [HN0.out, hh]; rfl) (by rw [HN0.out, hh]; rfl), _, rfl⟩
    · have he : 1 + j = (Rn.promI s[0].toNat).toNat := by omega
      have hz := HR.out
      rw [he, Rn.take_drop_end] at hz
      have HZ := Lib.hid hz; clear hz he HR
      by_cases hs2 : Rn.sizeI m = Rn.promI s[0].toNat
      · have hs3 : (Rn.sizeI m != Rn.promI s[0].toNat) = false := by simp [hs2]
        have HS := Lib.hid hs2; clear hs2
        go_wp2_with (go_at_call 96; refine (size_any _ _).mono ?_; rintro e w' ⟨rfl, rfl⟩)
        go_ret2
        exact ⟨ret_two (by rw [HN0.out, HZ.out]; simp [Rn.dec, Rn.fin, HS.out]) (by rw [HN0.out, HZ.out]; simp [Rn.dec, Rn.fin, HS.out]), _, rfl⟩
      · have hs3 : (Rn.sizeI m != Rn.promI s[0].toNat) = true := by simp [hs2]
        have HS := Lib.hid hs2; clear hs2
        go_wp2_with (go_at_call 96; refine (size_any _ _).mono ?_; rintro e w' ⟨rfl, rfl⟩)
        go_ret2
        exact ⟨ret_two (by rw [HN0.out, HZ.out]; simp [Rn.dec, Rn.fin, HS.out]) (by rw [HN0.out, HZ.out]; simp [Rn.dec, Rn.fin, HS.out]), _, rfl⟩
end Go.Proofs.Ytndenipjiclkaaa
