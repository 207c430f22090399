/- What the document's 'First' answers, walked. -/
import Derived.Test.YtigdelfoipcilaaRnE
import Derived.Test.YtigdelfoipcilaaRnQ
import Derived.Deep.RegionHeld3
namespace Go.Proofs.Ytigdelfoipcilaa
set_option linter.unusedVariables false
set_option linter.unusedSimpArgs false
open Go.RowKit
/-- nothing was found of fewer bytes -/
def NoneTo (s : ByteArray) (j : Nat) : Prop := ∀ i : Nat, 1 ≤ i → i < j → i ≤ s.data.toList.length → Rn.nope s.data.toList i
theorem NoneTo.on {s : ByteArray} {j : Nat} (h : NoneTo s j) (hn : Rn.nope s.data.toList j) : NoneTo s (j + 1) := by
  intro i h1 h2 h3
  by_cases e : i = j
  · subst e; exact hn
  · exact h i h1 (by omega) h3
theorem NoneTo.all {s : ByteArray} {j : Nat} (h : NoneTo s j) (hj : 5 ≤ j ∨ s.size < j) : Rn.firstL s.data.toList = (-1, 0) :=
  Rn.first_none _ fun k h1 h2 h3 => h k h1 (by rw [Rn.len_data] at h3; omega) h3
set_option maxRecDepth 100000 in
set_option maxHeartbeats 8000000 in
theorem refFirst_any (s : ByteArray) (w : World) (hs : s.size ≤ maxLen) : Calls Try.prog 39 #[.string s] w fun e w' => e = .returned (.tuple #[.int .i64 (Rn.firstL s.data.toList).1, .int .i64 (Rn.firstL s.data.toList).2]) ∧ Below w.heap.size w w' := by
  unfold maxLen at hs
  go_enter Try.func39, Try.ntmps39
  go_wp2
  go_loopw [4] (fun k wr => ∃ j : Nat, 1 ≤ j ∧ j ≤ 5 ∧ k = .int .i64 j ∧ Below w.heap.size w wr ∧ NoneTo s j) (fun k _ => 5 - (intOf k).toNat)
  case atStart => exact ⟨1, by omega, by omega, rfl, Below.refl _ _, fun i h1 h2 _ => by omega⟩
  case round =>
    obtain ⟨j, hj1, hj2, rfl, hb, hno0⟩ := hrel
    by_cases e1 : j = 1
    · subst e1
      by_cases hl : 1 ≤ s.size
      · have hnum := Rn.num_1 s hl
        have hg := Rn.get0 s (by omega)
        have hno : ∀ P : Prop, (0 ≤ (s[0].toNat : Int) - Rn.leadI (1 : Nat) ∧ Rn.signI ((s[0].toNat : Int)) = true ∧ Rn.bytesI ((s[0].toNat : Int)) = (s.data.toList.take 1).map Rn.toI → P) → (Rn.nope s.data.toList 1 → P) → P := by
          intro P h1 h2
          unfold Rn.nope at h2; rw [hnum, hg] at h2
          exact Classical.byCases h1 h2
        have hld : Rn.leadI (1 : Nat) = 0 := by decide
        rw [hld] at hno
        have hyes : Rn.signI ((s[0].toNat : Int)) = true → Rn.bytesI ((s[0].toNat : Int)) = (s.data.toList.take 1).map Rn.toI → Rn.firstL s.data.toList = ((s[0].toNat : Int), ((1 : Nat) : Int)) := fun h1 h2 => Rn.first_of _ h1 _ 1 (by omega) (by rw [Rn.len_data]; exact hl) h2
        have HNO := Lib.hid hno; clear hno hnum hg hld
        have HYES := Lib.hid hyes; clear hyes
        have hc0 : s[0].toNat < 256 := s[0].toNat_lt
        go_wp2
        refine wp_loop_rounds 2 ?_
        rw [rounds_succ]
        go_wp2
        rw [rounds_succ]
        go_wp2
        generalize hN : (s[0].toNat : Int) = m at HNO HYES
        have hm0 : 0 ≤ m := by omega
        have HN := Lib.hid hN; clear hN
        have hA2 : decide (0 ≤ m) = true := by simp; omega
        rcases Bool.eq_false_or_eq_true (Rn.signI m) with hS | hS
        · have hbx : Below w.heap.size w (wr.alloc (Obj.cells #[Value.int IntKind.i64 0, Value.int IntKind.i64 0, Value.int IntKind.i64 192, Value.int IntKind.i64 224, Value.int IntKind.i64 240] 3)) := hb.alloc hb.size _
          generalize (wr.alloc (Obj.cells #[Value.int IntKind.i64 0, Value.int IntKind.i64 0, Value.int IntKind.i64 192, Value.int IntKind.i64 224, Value.int IntKind.i64 240] 3)) = W at hbx
          go_region_held3 (fun _ => True) (exact trivial) (first | (go_at_call 64; refine (sign_any _ _).mono ?_; rintro e w' ⟨rfl, rfl⟩) | (go_at_call 65; refine (refBytes_any _ _).mono ?_; rintro e w' ⟨rfl, hb2⟩))
          go_wp2
          · go_ret2
            have hF1 := HYES.out hS ((Rn.cmp_iff m s 1).1 ‹_›)
            exact ⟨ret_two (by rw [hF1]) (by rw [hF1]; rfl), (below_drewN hbx 1).trans (hb2.mono (by simpa using hbx.size))⟩
          · refine ⟨⟨2, by omega, by omega, rfl, (below_drewN hbx 1).trans (hb2.mono (by simpa using hbx.size)), hno0.on ?_⟩, by simp [intOf]⟩
            have hE : ((strOfNums (Rn.bytesI m)).toList == (s.extract 0 1).toList) = false := ‹_›
            exact HNO.out _ (fun h => absurd ((Rn.cmp_iff m s 1).2 h.2.2) (by rw [hE]; simp)) (fun h => h)
        · go_quiet ((go_at_call 64; exact quietly (sign_any _ _)))
          go_wp2
          refine ⟨⟨2, by omega, by omega, rfl, below_drewN (hb.alloc hb.size _) _, hno0.on ?_⟩, by simp [intOf]⟩
          exact HNO.out _ (fun h => absurd h.2.1 (by rw [hS]; simp)) (fun h => h)
      · have hfin := hno0.all (.inr (by omega))
        have HFIN := Lib.hid hfin; clear hfin
        have hl2 : decide (1 ≤ s.size) = false := decide_eq_false (by omega)
        go_wp2
        go_ret2
        exact ⟨ret_two (by rw [HFIN.out]) (by rw [HFIN.out]), hb⟩
    by_cases e2 : j = 2
    · subst e2
      by_cases hl : 2 ≤ s.size
      · have hnum := Rn.num_2 s hl
        have hg := Rn.get0 s (by omega)
        have hno : ∀ P : Prop, (0 ≤ (s[0].toNat : Int) - Rn.leadI (2 : Nat) ∧ Rn.signI (64 * ((s[0].toNat : Int) - 192) + (s[1].toNat : Int) % 64) = true ∧ Rn.bytesI (64 * ((s[0].toNat : Int) - 192) + (s[1].toNat : Int) % 64) = (s.data.toList.take 2).map Rn.toI → P) → (Rn.nope s.data.toList 2 → P) → P := by
          intro P h1 h2
          unfold Rn.nope at h2; rw [hnum, hg] at h2
          exact Classical.byCases h1 h2
        have hld : Rn.leadI (2 : Nat) = 192 := by decide
        rw [hld] at hno
        have hyes : Rn.signI (64 * ((s[0].toNat : Int) - 192) + (s[1].toNat : Int) % 64) = true → Rn.bytesI (64 * ((s[0].toNat : Int) - 192) + (s[1].toNat : Int) % 64) = (s.data.toList.take 2).map Rn.toI → Rn.firstL s.data.toList = (64 * ((s[0].toNat : Int) - 192) + (s[1].toNat : Int) % 64, ((2 : Nat) : Int)) := fun h1 h2 => Rn.first_of _ h1 _ 2 (by omega) (by rw [Rn.len_data]; exact hl) h2
        have HNO := Lib.hid hno; clear hno hnum hg hld
        have HYES := Lib.hid hyes; clear hyes
        have hc0 : s[0].toNat < 256 := s[0].toNat_lt
        have hc1 : s[1].toNat < 256 := s[1].toNat_lt
        go_wp2
        refine wp_loop_rounds 3 ?_
        rw [rounds_succ]
        go_wp2
        rw [rounds_succ]
        go_wp2
        rw [rounds_succ]
        go_wp2
        refine wp_loop_rounds 2 ?_
        rw [rounds_succ]
        go_wp2
        rw [rounds_succ]
        go_wp2
        generalize hN : 64 * ((s[0].toNat : Int) - 192) + (s[1].toNat : Int) % 64 = m at HNO HYES
        generalize hF : (s[0].toNat : Int) - 192 = f0 at HNO
        have HN := Lib.hid hN; clear hN
        have HF := Lib.hid hF; clear hF
        by_cases hA : f0 < 0
        · have hA2 : decide (0 ≤ f0) = false := by simp; omega
          go_quiet (fail)
          go_wp2
          refine ⟨⟨3, by omega, by omega, rfl, below_drewN (hb.alloc hb.size _) _, hno0.on ?_⟩, by simp [intOf]⟩
          exact HNO.out _ (fun h => by omega) (fun h => h)
        have hA2 : decide (0 ≤ f0) = true := by simp; omega
        rcases Bool.eq_false_or_eq_true (Rn.signI m) with hS | hS
        · have hbx : Below w.heap.size w (wr.alloc (Obj.cells #[Value.int IntKind.i64 0, Value.int IntKind.i64 0, Value.int IntKind.i64 192, Value.int IntKind.i64 224, Value.int IntKind.i64 240] 3)) := hb.alloc hb.size _
          generalize (wr.alloc (Obj.cells #[Value.int IntKind.i64 0, Value.int IntKind.i64 0, Value.int IntKind.i64 192, Value.int IntKind.i64 224, Value.int IntKind.i64 240] 3)) = W at hbx
          go_region_held3 (fun _ => True) (exact trivial) (first | (go_at_call 64; refine (sign_any _ _).mono ?_; rintro e w' ⟨rfl, rfl⟩) | (go_at_call 65; refine (refBytes_any _ _).mono ?_; rintro e w' ⟨rfl, hb2⟩))
          go_wp2
          · go_ret2
            have hF1 := HYES.out hS ((Rn.cmp_iff m s 2).1 ‹_›)
            exact ⟨ret_two (by rw [hF1]) (by rw [hF1]; rfl), (below_drewN hbx 1).trans (hb2.mono (by simpa using hbx.size))⟩
          · refine ⟨⟨3, by omega, by omega, rfl, (below_drewN hbx 1).trans (hb2.mono (by simpa using hbx.size)), hno0.on ?_⟩, by simp [intOf]⟩
            have hE : ((strOfNums (Rn.bytesI m)).toList == (s.extract 0 2).toList) = false := ‹_›
            exact HNO.out _ (fun h => absurd ((Rn.cmp_iff m s 2).2 h.2.2) (by rw [hE]; simp)) (fun h => h)
        · go_quiet ((go_at_call 64; exact quietly (sign_any _ _)))
          go_wp2
          refine ⟨⟨3, by omega, by omega, rfl, below_drewN (hb.alloc hb.size _) _, hno0.on ?_⟩, by simp [intOf]⟩
          exact HNO.out _ (fun h => absurd h.2.1 (by rw [hS]; simp)) (fun h => h)
      · have hfin := hno0.all (.inr (by omega))
        have HFIN := Lib.hid hfin; clear hfin
        have hl2 : decide (2 ≤ s.size) = false := decide_eq_false (by omega)
        go_wp2
        go_ret2
        exact ⟨ret_two (by rw [HFIN.out]) (by rw [HFIN.out]), hb⟩
    by_cases e3 : j = 3
    · subst e3
      by_cases hl : 3 ≤ s.size
      · have hnum := Rn.num_3 s hl
        have hg := Rn.get0 s (by omega)
        have hno : ∀ P : Prop, (0 ≤ (s[0].toNat : Int) - Rn.leadI (3 : Nat) ∧ Rn.signI (64 * (64 * ((s[0].toNat : Int) - 224) + (s[1].toNat : Int) % 64) + (s[2].toNat : Int) % 64) = true ∧ Rn.bytesI (64 * (64 * ((s[0].toNat : Int) - 224) + (s[1].toNat : Int) % 64) + (s[2].toNat : Int) % 64) = (s.data.toList.take 3).map Rn.toI → P) → (Rn.nope s.data.toList 3 → P) → P := by
          intro P h1 h2
          unfold Rn.nope at h2; rw [hnum, hg] at h2
          exact Classical.byCases h1 h2
        have hld : Rn.leadI (3 : Nat) = 224 := by decide
        rw [hld] at hno
        have hyes : Rn.signI (64 * (64 * ((s[0].toNat : Int) - 224) + (s[1].toNat : Int) % 64) + (s[2].toNat : Int) % 64) = true → Rn.bytesI (64 * (64 * ((s[0].toNat : Int) - 224) + (s[1].toNat : Int) % 64) + (s[2].toNat : Int) % 64) = (s.data.toList.take 3).map Rn.toI → Rn.firstL s.data.toList = (64 * (64 * ((s[0].toNat : Int) - 224) + (s[1].toNat : Int) % 64) + (s[2].toNat : Int) % 64, ((3 : Nat) : Int)) := fun h1 h2 => Rn.first_of _ h1 _ 3 (by omega) (by rw [Rn.len_data]; exact hl) h2
        have HNO := Lib.hid hno; clear hno hnum hg hld
        have HYES := Lib.hid hyes; clear hyes
        have hc0 : s[0].toNat < 256 := s[0].toNat_lt
        have hc1 : s[1].toNat < 256 := s[1].toNat_lt
        have hc2 : s[2].toNat < 256 := s[2].toNat_lt
        go_wp2
        refine wp_loop_rounds 4 ?_
        rw [rounds_succ]
        go_wp2
        rw [rounds_succ]
        go_wp2
        rw [rounds_succ]
        go_wp2
        rw [rounds_succ]
        go_wp2
        refine wp_loop_rounds 3 ?_
        rw [rounds_succ]
        go_wp2
        rw [rounds_succ]
        go_wp2
        rw [rounds_succ]
        go_wp2
        generalize hN : 64 * (64 * ((s[0].toNat : Int) - 224) + (s[1].toNat : Int) % 64) + (s[2].toNat : Int) % 64 = m at HNO HYES
        generalize hF : (s[0].toNat : Int) - 224 = f0 at HNO
        have HN := Lib.hid hN; clear hN
        have HF := Lib.hid hF; clear hF
        by_cases hA : f0 < 0
        · have hA2 : decide (0 ≤ f0) = false := by simp; omega
          go_quiet (fail)
          go_wp2
          refine ⟨⟨4, by omega, by omega, rfl, below_drewN (hb.alloc hb.size _) _, hno0.on ?_⟩, by simp [intOf]⟩
          exact HNO.out _ (fun h => by omega) (fun h => h)
        have hA2 : decide (0 ≤ f0) = true := by simp; omega
        rcases Bool.eq_false_or_eq_true (Rn.signI m) with hS | hS
        · have hbx : Below w.heap.size w (wr.alloc (Obj.cells #[Value.int IntKind.i64 0, Value.int IntKind.i64 0, Value.int IntKind.i64 192, Value.int IntKind.i64 224, Value.int IntKind.i64 240] 3)) := hb.alloc hb.size _
          generalize (wr.alloc (Obj.cells #[Value.int IntKind.i64 0, Value.int IntKind.i64 0, Value.int IntKind.i64 192, Value.int IntKind.i64 224, Value.int IntKind.i64 240] 3)) = W at hbx
          go_region_held3 (fun _ => True) (exact trivial) (first | (go_at_call 64; refine (sign_any _ _).mono ?_; rintro e w' ⟨rfl, rfl⟩) | (go_at_call 65; refine (refBytes_any _ _).mono ?_; rintro e w' ⟨rfl, hb2⟩))
          go_wp2
          · go_ret2
            have hF1 := HYES.out hS ((Rn.cmp_iff m s 3).1 ‹_›)
            exact ⟨ret_two (by rw [hF1]) (by rw [hF1]; rfl), (below_drewN hbx 1).trans (hb2.mono (by simpa using hbx.size))⟩
          · refine ⟨⟨4, by omega, by omega, rfl, (below_drewN hbx 1).trans (hb2.mono (by simpa using hbx.size)), hno0.on ?_⟩, by simp [intOf]⟩
            have hE : ((strOfNums (Rn.bytesI m)).toList == (s.extract 0 3).toList) = false := ‹_›
            exact HNO.out _ (fun h => absurd ((Rn.cmp_iff m s 3).2 h.2.2) (by rw [hE]; simp)) (fun h => h)
        · go_quiet ((go_at_call 64; exact quietly (sign_any _ _)))
          go_wp2
          refine ⟨⟨4, by omega, by omega, rfl, below_drewN (hb.alloc hb.size _) _, hno0.on ?_⟩, by simp [intOf]⟩
          exact HNO.out _ (fun h => absurd h.2.1 (by rw [hS]; simp)) (fun h => h)
      · have hfin := hno0.all (.inr (by omega))
        have HFIN := Lib.hid hfin; clear hfin
        have hl2 : decide (3 ≤ s.size) = false := decide_eq_false (by omega)
        go_wp2
        go_ret2
        exact ⟨ret_two (by rw [HFIN.out]) (by rw [HFIN.out]), hb⟩
    by_cases e4 : j = 4
    · subst e4
      by_cases hl : 4 ≤ s.size
      · have hnum := Rn.num_4 s hl
        have hg := Rn.get0 s (by omega)
        have hno : ∀ P : Prop, (0 ≤ (s[0].toNat : Int) - Rn.leadI (4 : Nat) ∧ Rn.signI (64 * (64 * (64 * ((s[0].toNat : Int) - 240) + (s[1].toNat : Int) % 64) + (s[2].toNat : Int) % 64) + (s[3].toNat : Int) % 64) = true ∧ Rn.bytesI (64 * (64 * (64 * ((s[0].toNat : Int) - 240) + (s[1].toNat : Int) % 64) + (s[2].toNat : Int) % 64) + (s[3].toNat : Int) % 64) = (s.data.toList.take 4).map Rn.toI → P) → (Rn.nope s.data.toList 4 → P) → P := by
          intro P h1 h2
          unfold Rn.nope at h2; rw [hnum, hg] at h2
          exact Classical.byCases h1 h2
        have hld : Rn.leadI (4 : Nat) = 240 := by decide
        rw [hld] at hno
        have hyes : Rn.signI (64 * (64 * (64 * ((s[0].toNat : Int) - 240) + (s[1].toNat : Int) % 64) + (s[2].toNat : Int) % 64) + (s[3].toNat : Int) % 64) = true → Rn.bytesI (64 * (64 * (64 * ((s[0].toNat : Int) - 240) + (s[1].toNat : Int) % 64) + (s[2].toNat : Int) % 64) + (s[3].toNat : Int) % 64) = (s.data.toList.take 4).map Rn.toI → Rn.firstL s.data.toList = (64 * (64 * (64 * ((s[0].toNat : Int) - 240) + (s[1].toNat : Int) % 64) + (s[2].toNat : Int) % 64) + (s[3].toNat : Int) % 64, ((4 : Nat) : Int)) := fun h1 h2 => Rn.first_of _ h1 _ 4 (by omega) (by rw [Rn.len_data]; exact hl) h2
        have HNO := Lib.hid hno; clear hno hnum hg hld
        have HYES := Lib.hid hyes; clear hyes
        have hc0 : s[0].toNat < 256 := s[0].toNat_lt
        have hc1 : s[1].toNat < 256 := s[1].toNat_lt
        have hc2 : s[2].toNat < 256 := s[2].toNat_lt
        have hc3 : s[3].toNat < 256 := s[3].toNat_lt
        go_wp2
        refine wp_loop_rounds 5 ?_
        rw [rounds_succ]
        go_wp2
        rw [rounds_succ]
        go_wp2
        rw [rounds_succ]
        go_wp2
        rw [rounds_succ]
        go_wp2
        rw [rounds_succ]
        go_wp2
        refine wp_loop_rounds 4 ?_
        rw [rounds_succ]
        go_wp2
        rw [rounds_succ]
        go_wp2
        rw [rounds_succ]
        go_wp2
        rw [rounds_succ]
        go_wp2
        generalize hN : 64 * (64 * (64 * ((s[0].toNat : Int) - 240) + (s[1].toNat : Int) % 64) + (s[2].toNat : Int) % 64) + (s[3].toNat : Int) % 64 = m at HNO HYES
        generalize hF : (s[0].toNat : Int) - 240 = f0 at HNO
        have HN := Lib.hid hN; clear hN
        have HF := Lib.hid hF; clear hF
        by_cases hA : f0 < 0
        · have hA2 : decide (0 ≤ f0) = false := by simp; omega
          go_quiet (fail)
          go_wp2
          refine ⟨⟨5, by omega, by omega, rfl, below_drewN (hb.alloc hb.size _) _, hno0.on ?_⟩, by simp [intOf]⟩
          exact HNO.out _ (fun h => by omega) (fun h => h)
        have hA2 : decide (0 ≤ f0) = true := by simp; omega
        rcases Bool.eq_false_or_eq_true (Rn.signI m) with hS | hS
        · have hbx : Below w.heap.size w (wr.alloc (Obj.cells #[Value.int IntKind.i64 0, Value.int IntKind.i64 0, Value.int IntKind.i64 192, Value.int IntKind.i64 224, Value.int IntKind.i64 240] 3)) := hb.alloc hb.size _
          generalize (wr.alloc (Obj.cells #[Value.int IntKind.i64 0, Value.int IntKind.i64 0, Value.int IntKind.i64 192, Value.int IntKind.i64 224, Value.int IntKind.i64 240] 3)) = W at hbx
          go_region_held3 (fun _ => True) (exact trivial) (first | (go_at_call 64; refine (sign_any _ _).mono ?_; rintro e w' ⟨rfl, rfl⟩) | (go_at_call 65; refine (refBytes_any _ _).mono ?_; rintro e w' ⟨rfl, hb2⟩))
          go_wp2
          · go_ret2
            have hF1 := HYES.out hS ((Rn.cmp_iff m s 4).1 ‹_›)
            exact ⟨ret_two (by rw [hF1]) (by rw [hF1]; rfl), (below_drewN hbx 1).trans (hb2.mono (by simpa using hbx.size))⟩
          · refine ⟨⟨5, by omega, by omega, rfl, (below_drewN hbx 1).trans (hb2.mono (by simpa using hbx.size)), hno0.on ?_⟩, by simp [intOf]⟩
            have hE : ((strOfNums (Rn.bytesI m)).toList == (s.extract 0 4).toList) = false := ‹_›
            exact HNO.out _ (fun h => absurd ((Rn.cmp_iff m s 4).2 h.2.2) (by rw [hE]; simp)) (fun h => h)
        · go_quiet ((go_at_call 64; exact quietly (sign_any _ _)))
          go_wp2
          refine ⟨⟨5, by omega, by omega, rfl, below_drewN (hb.alloc hb.size _) _, hno0.on ?_⟩, by simp [intOf]⟩
          exact HNO.out _ (fun h => absurd h.2.1 (by rw [hS]; simp)) (fun h => h)
      · have hfin := hno0.all (.inr (by omega))
        have HFIN := Lib.hid hfin; clear hfin
        have hl2 : decide (4 ≤ s.size) = false := decide_eq_false (by omega)
        go_wp2
        go_ret2
        exact ⟨ret_two (by rw [HFIN.out]) (by rw [HFIN.out]), hb⟩
    obtain rfl : j = 5 := by omega
    have hfin := hno0.all (.inl (by omega))
    have HFIN := Lib.hid hfin; clear hfin
    go_wp2
    go_ret2
    exact ⟨ret_two (by rw [HFIN.out]) (by rw [HFIN.out]), hb⟩
end Go.Proofs.Ytigdelfoipcilaa
