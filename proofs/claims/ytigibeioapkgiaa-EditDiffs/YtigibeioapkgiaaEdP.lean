/- The edit between two texts: where it begins, what is alike behind it, walked. What 'Diff' answers, walked. -/
import Derived.Test.YtigibeioapkgiaaEdN
import Derived.Test.YtigibeioapkgiaaRpC
import Derived.Test.YtigibeioapkgiaaRpK
import Derived.Test.YtigibeioapkgiaaRpN
namespace Go.Proofs.Ytigibeioapkgiaa
set_option linter.unusedVariables false
set_option linter.unusedSimpArgs false
open Go.RowKit
/-- the greatest edge of both up to which both are the same -/
structure Ed.Beg (s t : ByteArray) (B : Nat) : Prop where
  bs : B ≤ s.size
  bt : B ≤ t.size
  eq : s.data.toList.take B = t.data.toList.take B
  ed : B = 0 ∨ (Rn.edgeB s B = true ∧ Rn.edgeB t B = true)
  most : ∀ k : Nat, B < k → k ≤ s.size → k ≤ t.size → Rn.edgeB s k = true → Rn.edgeB t k = true → s.data.toList.take k ≠ t.data.toList.take k
theorem Ed.take_less {l m : List UInt8} {j k : Nat} (h : j ≤ k) (e : l.take k = m.take k) : l.take j = m.take j := by
  have := congrArg (List.take j) e
  rwa [List.take_take, List.take_take, Nat.min_eq_left h] at this
theorem Ed.take_next {s t : ByteArray} {n : Nat} (h1 : n < s.size) (h2 : n < t.size) (he : s.data.toList.take n = t.data.toList.take n) : s.data.toList.take (n + 1) = t.data.toList.take (n + 1) ↔ s[n] = t[n] := by
  rw [Rn.take_snoc s n h1, Rn.take_snoc t n h2, he]
  simp
def Ed.B1 (s t : ByteArray) (n : Nat) : Prop := n ≤ s.size ∧ n ≤ t.size ∧ s.data.toList.take n = t.data.toList.take n
def Ed.B2 (s t : ByteArray) (n : Nat) : Prop := Ed.B1 s t n ∧ ∀ k : Nat, n < k → k ≤ s.size → k ≤ t.size → Rn.edgeB s k = true → Rn.edgeB t k = true → s.data.toList.take k ≠ t.data.toList.take k
theorem Ed.b2_less {s t : ByteArray} {m : Nat} (h : Ed.B2 s t (m + 1)) (hn : Rn.edgeB s (m + 1 : Nat) = false ∨ Rn.edgeB t (m + 1 : Nat) = false) : Ed.B2 s t m := by
  obtain ⟨⟨h1, h2, h3⟩, h4⟩ := h
  refine ⟨⟨by omega, by omega, Ed.take_less (by omega) h3⟩, fun k hk k1 k2 e1 e2 => ?_⟩
  by_cases hk2 : k = m + 1
  · subst hk2
    rcases hn with hn | hn
    · rw [hn] at e1; cases e1
    · rw [hn] at e2; cases e2
  · exact h4 k (by omega) k1 k2 e1 e2
/-- a place is answered that is as told -/
def Ed.NPost (w : World) (p : Nat → Prop) (e : Ending) (w' : World) : Prop := ∃ B : Nat, e = .returned (.int .i64 B) ∧ p B ∧ Below w.heap.size w w'
set_option maxRecDepth 100000 in
set_option maxHeartbeats 1000000 in
theorem begin_any (s t : ByteArray) (w : World) (hs : s.size ≤ 1000000) (ht : t.size ≤ 1000000) : Calls Try.prog 41 #[.string s, .string t] w (Ed.NPost w (Ed.Beg s t)) := by
  go_enter Try.func41, Try.ntmps41
  go_wp2_with fail
  go_loopg [5] s.size (fun g v wr => ∃ n : Nat, g + n = s.size ∧ v = .int .i64 n ∧ Ed.B1 s t n ∧ Below w.heap.size w wr)
  case atStart => exact ⟨0, by omega, rfl, ⟨by omega, by omega, by simp⟩, Below.refl _ _⟩
  case round =>
    obtain ⟨n, hgn, rfl, ⟨b1, b2, b3⟩, B⟩ := hrel
    by_cases hlt : n < s.size ∧ n < t.size
    · obtain ⟨l1, l2⟩ := hlt
      have hnx := Ed.take_next l1 l2 b3
      have HN := Lib.hid hnx
      have HB3 := Lib.hid b3
      clear hnx b3
      have d1 : decide ((n : Int) < min (s.size : Int) (t.size : Int)) = true := by simp; omega
      have k1 : (0 : Int) ≤ (n : Int) := by omega
      have k2 : (n : Int) < (s.size : Int) := by omega
      have k3 : (n : Int) < (t.size : Int) := by omega
      by_cases hc : s[n] = t[n]
      · have d2 : ((s[n].toNat : Int) == (t[n].toNat : Int)) = true := by rw [hc]; simp
        have HC := Lib.hid hc; clear hc
        go_wp2_with fail
        go_quiet (fail)
        go_wp2_with fail
        go_roundg (gk - 1)
        case measure => omega
        exact ⟨n + 1, by omega, by go_num, ⟨by omega, by omega, HN.out.2 HC.out⟩, Rp.below_drewN B _⟩
      · have d2 : ((s[n].toNat : Int) == (t[n].toNat : Int)) = false := beq_eq_false_iff_ne.2 (fun h => hc (UInt8.toNat_inj.1 (by omega)))
        have HC := Lib.hid hc; clear hc
        go_wp2_with fail
        go_quiet (fail)
        have hb2 : Ed.B2 s t n := ⟨⟨b1, b2, HB3.out⟩, fun k hk h1 h2 _ _ h => HC.out (HN.out.1 (Ed.take_less hk h))⟩
        have HB2 := Lib.hid hb2
        have BX := Rp.below_drewN B nq
        clear hb2 HB3 HN HC B
        go_wp2_with fail
        generalize wr.drewN nq = wy at *
        clear hgn
        go_wp2_with fail
        go_loopg [5] n (fun g v wr => v = .int .i64 g ∧ Ed.B2 s t g ∧ Below w.heap.size w wr)
        case atStart => exact ⟨rfl, HB2.out, BX⟩
        case round =>
          clear BX HB2
          obtain ⟨rfl, hb, BY⟩ := hrel
          have HB := Lib.hid hb
          have b1 := hb.1.1
          clear hb
          cases gk with
          | zero =>
            go_wp2_with fail
            go_ret
            exact ⟨0, rfl, ⟨HB.out.1.1, HB.out.1.2.1, HB.out.1.2.2, .inl rfl, HB.out.2⟩, BY⟩
          | succ m =>
            have d1 : decide ((0 : Int) < ((m + 1 : Nat) : Int)) = true := by simp
            have C1 := edge_any s (m + 1 : Nat) wr (by unfold maxLen; omega)
            rcases Bool.eq_false_or_eq_true (Rn.edgeB s (m + 1 : Nat)) with q1 | q1
            · rw [q1] at C1
              go_wp2_with fail
              refine C1.mono ?_
              rintro r _ ⟨rfl, rfl⟩
              have C2 := edge_any t (m + 1 : Nat) wr (by unfold maxLen; omega)
              rcases Bool.eq_false_or_eq_true (Rn.edgeB t (m + 1 : Nat)) with q2 | q2
              · rw [q2] at C2
                go_wp2_with fail
                refine C2.mono ?_
                rintro r _ ⟨rfl, rfl⟩
                go_wp2_with fail
                go_ret
                exact ⟨m + 1, rfl, ⟨HB.out.1.1, HB.out.1.2.1, HB.out.1.2.2, .inr ⟨q1, q2⟩, HB.out.2⟩, BY⟩
              · rw [q2] at C2
                go_wp2_with fail
                refine C2.mono ?_
                rintro r _ ⟨rfl, rfl⟩
                go_wp2_with fail
                go_roundg m
                case measure => omega
                exact ⟨by go_num, Ed.b2_less HB.out (.inr q2), BY⟩
            · rw [q1] at C1
              go_wp2_with fail
              refine C1.mono ?_
              rintro r _ ⟨rfl, rfl⟩
              go_wp2_with fail
              go_roundg m
              case measure => omega
              exact ⟨by go_num, Ed.b2_less HB.out (.inl q1), BY⟩
    · have d1 : decide ((n : Int) < min (s.size : Int) (t.size : Int)) = false := by simp; omega
      have hb2 : Ed.B2 s t n := ⟨⟨b1, b2, b3⟩, fun k hk h1 h2 _ _ h => by omega⟩
      have HB2 := Lib.hid hb2
      clear hb2 b3
      go_wp2_with fail
      go_quiet (fail)
      have BX := Rp.below_drewN B nq
      clear B
      go_wp2_with fail
      generalize wr.drewN nq = wy at *
      clear hgn
      go_wp2_with fail
      go_loopg [5] n (fun g v wr => v = .int .i64 g ∧ Ed.B2 s t g ∧ Below w.heap.size w wr)
      case atStart => exact ⟨rfl, HB2.out, BX⟩
      case round =>
        clear BX HB2
        obtain ⟨rfl, hb, BY⟩ := hrel
        have HB := Lib.hid hb
        have b1 := hb.1.1
        clear hb
        cases gk with
        | zero =>
          go_wp2_with fail
          go_ret
          exact ⟨0, rfl, ⟨HB.out.1.1, HB.out.1.2.1, HB.out.1.2.2, .inl rfl, HB.out.2⟩, BY⟩
        | succ m =>
          have d1 : decide ((0 : Int) < ((m + 1 : Nat) : Int)) = true := by simp
          have C1 := edge_any s (m + 1 : Nat) wr (by unfold maxLen; omega)
          rcases Bool.eq_false_or_eq_true (Rn.edgeB s (m + 1 : Nat)) with q1 | q1
          · rw [q1] at C1
            go_wp2_with fail
            refine C1.mono ?_
            rintro r _ ⟨rfl, rfl⟩
            have C2 := edge_any t (m + 1 : Nat) wr (by unfold maxLen; omega)
            rcases Bool.eq_false_or_eq_true (Rn.edgeB t (m + 1 : Nat)) with q2 | q2
            · rw [q2] at C2
              go_wp2_with fail
              refine C2.mono ?_
              rintro r _ ⟨rfl, rfl⟩
              go_wp2_with fail
              go_ret
              exact ⟨m + 1, rfl, ⟨HB.out.1.1, HB.out.1.2.1, HB.out.1.2.2, .inr ⟨q1, q2⟩, HB.out.2⟩, BY⟩
            · rw [q2] at C2
              go_wp2_with fail
              refine C2.mono ?_
              rintro r _ ⟨rfl, rfl⟩
              go_wp2_with fail
              go_roundg m
              case measure => omega
              exact ⟨by go_num, Ed.b2_less HB.out (.inr q2), BY⟩
          · rw [q1] at C1
            go_wp2_with fail
            refine C1.mono ?_
            rintro r _ ⟨rfl, rfl⟩
            go_wp2_with fail
            go_roundg m
            case measure => omega
            exact ⟨by go_num, Ed.b2_less HB.out (.inl q1), BY⟩
/-- as many bytes as both end with alike, from edges of both on -/
structure Ed.Tl (s t : ByteArray) (K : Nat) : Prop where
  ks : K ≤ s.size
  kt : K ≤ t.size
  eq : s.data.toList.drop (s.size - K) = t.data.toList.drop (t.size - K)
  ed : Rn.edgeB s ((s.size : Int) - K) = true ∧ Rn.edgeB t ((t.size : Int) - K) = true
  most : ∀ k : Nat, K < k → k ≤ s.size → k ≤ t.size → Rn.edgeB s ((s.size : Int) - k) = true → Rn.edgeB t ((t.size : Int) - k) = true → s.data.toList.drop (s.size - k) ≠ t.data.toList.drop (t.size - k)
def Ed.T1 (s t : ByteArray) (n : Nat) : Prop := n ≤ s.size ∧ n ≤ t.size ∧ s.data.toList.drop (s.size - n) = t.data.toList.drop (t.size - n)
def Ed.T2 (s t : ByteArray) (n : Nat) : Prop := Ed.T1 s t n ∧ ∀ k : Nat, n < k → k ≤ s.size → k ≤ t.size → Rn.edgeB s ((s.size : Int) - k) = true → Rn.edgeB t ((t.size : Int) - k) = true → s.data.toList.drop (s.size - k) ≠ t.data.toList.drop (t.size - k)
theorem Ed.drop_less {s t : ByteArray} {j k : Nat} (h : j ≤ k) (hs : k ≤ s.size) (ht : k ≤ t.size) (e : s.data.toList.drop (s.size - k) = t.data.toList.drop (t.size - k)) : s.data.toList.drop (s.size - j) = t.data.toList.drop (t.size - j) := by
  have := congrArg (List.drop (k - j)) e
  rw [List.drop_drop, List.drop_drop] at this
  rw [show s.size - j = s.size - k + (k - j) by omega, show t.size - j = t.size - k + (k - j) by omega]
  exact this
theorem Ed.drop_one (s : ByteArray) (n i : Nat) (h : i < s.size) (hi : s.size - 1 - n = i) (hn : n < s.size) : s.data.toList.drop (s.size - (n + 1)) = s[i] :: s.data.toList.drop (s.size - n) := by
  rw [show s.size - (n + 1) = i by omega, Rn.drop_at s i h, show s.size - n = i + 1 by omega]
theorem Ed.drop_next {s t : ByteArray} {n i j : Nat} (h1 : n < s.size) (h2 : n < t.size) (hi : s.size - 1 - n = i) (hj : t.size - 1 - n = j) (hil : i < s.size) (hjl : j < t.size) (he : s.data.toList.drop (s.size - n) = t.data.toList.drop (t.size - n)) : s.data.toList.drop (s.size - (n + 1)) = t.data.toList.drop (t.size - (n + 1)) ↔ s[i] = t[j] := by
  rw [Ed.drop_one s n i hil hi h1, Ed.drop_one t n j hjl hj h2, he]
  simp
theorem Ed.t2_less {s t : ByteArray} {m : Nat} (h : Ed.T2 s t (m + 1)) (hn : Rn.edgeB s ((s.size : Int) - (m + 1 : Nat)) = false ∨ Rn.edgeB t ((t.size : Int) - (m + 1 : Nat)) = false) : Ed.T2 s t m := by
  obtain ⟨⟨h1, h2, h3⟩, h4⟩ := h
  refine ⟨⟨by omega, by omega, Ed.drop_less (by omega) h1 h2 h3⟩, fun k hk k1 k2 e1 e2 => ?_⟩
  by_cases hk2 : k = m + 1
  · subst hk2
    rcases hn with hn | hn
    · rw [hn] at e1; cases e1
    · rw [hn] at e2; cases e2
  · exact h4 k (by omega) k1 k2 e1 e2
set_option maxRecDepth 100000 in
set_option maxHeartbeats 1000000 in
theorem tail_any (s t : ByteArray) (w : World) (hs : s.size ≤ 1000000) (ht : t.size ≤ 1000000) : Calls Try.prog 42 #[.string s, .string t] w (Ed.NPost w (Ed.Tl s t)) := by
  go_enter Try.func42, Try.ntmps42
  go_wp2_with fail
  go_loopg [5] s.size (fun g v wr => ∃ n : Nat, g + n = s.size ∧ v = .int .i64 n ∧ Ed.T1 s t n ∧ Below w.heap.size w wr)
  case atStart => exact ⟨0, by omega, rfl, ⟨by omega, by omega, by rw [List.drop_eq_nil_of_le (by simp), List.drop_eq_nil_of_le (by simp)]⟩, Below.refl _ _⟩
  case round =>
    obtain ⟨n, hgn, rfl, ⟨b1, b2, b3⟩, B⟩ := hrel
    by_cases hlt : n < s.size ∧ n < t.size
    · obtain ⟨l1, l2⟩ := hlt
      obtain ⟨i, hi⟩ : ∃ i, s.size - 1 - n = i := ⟨_, rfl⟩
      obtain ⟨j, hj⟩ : ∃ j, t.size - 1 - n = j := ⟨_, rfl⟩
      have il : i < s.size := by omega
      have jl : j < t.size := by omega
      have hnx := Ed.drop_next l1 l2 hi hj il jl b3
      have HN := Lib.hid hnx
      have HB3 := Lib.hid b3
      have HI := Lib.hid hi
      have HJ := Lib.hid hj
      have d1 : decide ((n : Int) < min (s.size : Int) (t.size : Int)) = true := by simp; omega
      have w1 : IntKind.i64.wrap ((s.size : Int) - 1) = (s.size : Int) - 1 := IntWalk.i64_in _ (by omega)
      have w2 : IntKind.i64.wrap ((s.size : Int) - 1 - (n : Int)) = (i : Int) := by rw [IntWalk.i64_in _ (by omega)]; omega
      have w3 : IntKind.i64.wrap ((t.size : Int) - 1) = (t.size : Int) - 1 := IntWalk.i64_in _ (by omega)
      have w4 : IntKind.i64.wrap ((t.size : Int) - 1 - (n : Int)) = (j : Int) := by rw [IntWalk.i64_in _ (by omega)]; omega
      have k1 : (0 : Int) ≤ (i : Int) := by omega
      have k2 : (i : Int) < (s.size : Int) := by omega
      have k3 : (0 : Int) ≤ (j : Int) := by omega
      have k4 : (j : Int) < (t.size : Int) := by omega
      clear hnx b3 hi hj
      by_cases hc : s[i] = t[j]
      · have d2 : ((s[i].toNat : Int) == (t[j].toNat : Int)) = true := by rw [hc]; simp
        have HC := Lib.hid hc; clear hc
        go_wp2_with fail
        go_quiet (fail)
        go_wp2_with fail
        go_roundg (gk - 1)
        case measure => omega
        exact ⟨n + 1, by omega, by go_num, ⟨by omega, by omega, HN.out.2 HC.out⟩, Rp.below_drewN B _⟩
      · have d2 : ((s[i].toNat : Int) == (t[j].toNat : Int)) = false := beq_eq_false_iff_ne.2 (fun h => hc (UInt8.toNat_inj.1 (by omega)))
        have HC := Lib.hid hc; clear hc
        go_wp2_with fail
        go_quiet (fail)
        have hb2 : Ed.T2 s t n := ⟨⟨b1, b2, HB3.out⟩, fun k hk h1 h2 _ _ h => HC.out (HN.out.1 (Ed.drop_less hk h1 h2 h))⟩
        have HB2 := Lib.hid hb2
        have BX := Rp.below_drewN B nq
        clear hb2 HB3 HN HC B
        go_wp2_with fail
        generalize wr.drewN nq = wy at *
        clear hgn
        go_wp2_with fail
        go_loopg [5] n (fun g v wr => v = .int .i64 g ∧ Ed.T2 s t g ∧ Below w.heap.size w wr)
        case atStart => exact ⟨rfl, HB2.out, BX⟩
        case round =>
          clear BX HB2
          obtain ⟨rfl, hb, BY⟩ := hrel
          have HB := Lib.hid hb
          have b1 := hb.1.1
          have b2 := hb.1.2.1
          clear hb
          cases gk with
          | zero =>
            go_wp2_with fail
            go_ret
            exact ⟨0, rfl, ⟨HB.out.1.1, HB.out.1.2.1, HB.out.1.2.2, by rw [Int.natCast_zero, Int.sub_zero]; exact ⟨Rn.edge_end s, Rn.edge_end t⟩, HB.out.2⟩, BY⟩
          | succ m =>
            have d1 : decide ((0 : Int) < ((m + 1 : Nat) : Int)) = true := by simp
            have C1 := edge_any s ((s.size : Int) - (m + 1 : Nat)) wr (by unfold maxLen; omega)
            rcases Bool.eq_false_or_eq_true (Rn.edgeB s ((s.size : Int) - (m + 1 : Nat))) with q1 | q1
            · rw [q1] at C1
              go_wp2_with fail
              refine C1.mono ?_
              rintro r _ ⟨rfl, rfl⟩
              have C2 := edge_any t ((t.size : Int) - (m + 1 : Nat)) wr (by unfold maxLen; omega)
              rcases Bool.eq_false_or_eq_true (Rn.edgeB t ((t.size : Int) - (m + 1 : Nat))) with q2 | q2
              · rw [q2] at C2
                go_wp2_with fail
                refine C2.mono ?_
                rintro r _ ⟨rfl, rfl⟩
                go_wp2_with fail
                go_ret
                exact ⟨m + 1, rfl, ⟨HB.out.1.1, HB.out.1.2.1, HB.out.1.2.2, ⟨q1, q2⟩, HB.out.2⟩, BY⟩
              · rw [q2] at C2
                go_wp2_with fail
                refine C2.mono ?_
                rintro r _ ⟨rfl, rfl⟩
                go_wp2_with fail
                go_roundg m
                case measure => omega
                exact ⟨by go_num, Ed.t2_less HB.out (.inr q2), BY⟩
            · rw [q1] at C1
              go_wp2_with fail
              refine C1.mono ?_
              rintro r _ ⟨rfl, rfl⟩
              go_wp2_with fail
              go_roundg m
              case measure => omega
              exact ⟨by go_num, Ed.t2_less HB.out (.inl q1), BY⟩
    · have d1 : decide ((n : Int) < min (s.size : Int) (t.size : Int)) = false := by simp; omega
      have hb2 : Ed.T2 s t n := ⟨⟨b1, b2, b3⟩, fun k hk h1 h2 _ _ h => by omega⟩
      have HB2 := Lib.hid hb2
      clear hb2 b3
      go_wp2_with fail
      go_quiet (fail)
      have BX := Rp.below_drewN B nq
      clear B
      go_wp2_with fail
      generalize wr.drewN nq = wy at *
      clear hgn
      go_wp2_with fail
      go_loopg [5] n (fun g v wr => v = .int .i64 g ∧ Ed.T2 s t g ∧ Below w.heap.size w wr)
      case atStart => exact ⟨rfl, HB2.out, BX⟩
      case round =>
        clear BX HB2
        obtain ⟨rfl, hb, BY⟩ := hrel
        have HB := Lib.hid hb
        have b1 := hb.1.1
        have b2 := hb.1.2.1
        clear hb
        cases gk with
        | zero =>
          go_wp2_with fail
          go_ret
          exact ⟨0, rfl, ⟨HB.out.1.1, HB.out.1.2.1, HB.out.1.2.2, by rw [Int.natCast_zero, Int.sub_zero]; exact ⟨Rn.edge_end s, Rn.edge_end t⟩, HB.out.2⟩, BY⟩
        | succ m =>
          have d1 : decide ((0 : Int) < ((m + 1 : Nat) : Int)) = true := by simp
          have C1 := edge_any s ((s.size : Int) - (m + 1 : Nat)) wr (by unfold maxLen; omega)
          rcases Bool.eq_false_or_eq_true (Rn.edgeB s ((s.size : Int) - (m + 1 : Nat))) with q1 | q1
          · rw [q1] at C1
            go_wp2_with fail
            refine C1.mono ?_
            rintro r _ ⟨rfl, rfl⟩
            have C2 := edge_any t ((t.size : Int) - (m + 1 : Nat)) wr (by unfold maxLen; omega)
            rcases Bool.eq_false_or_eq_true (Rn.edgeB t ((t.size : Int) - (m + 1 : Nat))) with q2 | q2
            · rw [q2] at C2
              go_wp2_with fail
              refine C2.mono ?_
              rintro r _ ⟨rfl, rfl⟩
              go_wp2_with fail
              go_ret
              exact ⟨m + 1, rfl, ⟨HB.out.1.1, HB.out.1.2.1, HB.out.1.2.2, ⟨q1, q2⟩, HB.out.2⟩, BY⟩
            · rw [q2] at C2
              go_wp2_with fail
              refine C2.mono ?_
              rintro r _ ⟨rfl, rfl⟩
              go_wp2_with fail
              go_roundg m
              case measure => omega
              exact ⟨by go_num, Ed.t2_less HB.out (.inr q2), BY⟩
          · rw [q1] at C1
            go_wp2_with fail
            refine C1.mono ?_
            rintro r _ ⟨rfl, rfl⟩
            go_wp2_with fail
            go_roundg m
            case measure => omega
            exact ⟨by go_num, Ed.t2_less HB.out (.inl q1), BY⟩
open Go.RowKit
/-- one edit is answered, as told -/
def Ed.DPost (w : World) (s t : ByteArray) (r : Ending) (w' : World) : Prop := ∃ B K : Nat, Ed.Beg s t B ∧ Ed.Tl (s.extract B s.size) (t.extract B t.size) K ∧ r = .returned (.agg #[.int .i64 B, .int .i64 ((s.size - B - K : Nat) : Int), .string ((t.extract B t.size).extract 0 (t.size - B - K))]) ∧ Below w.heap.size w w'
set_option maxRecDepth 100000 in
set_option maxHeartbeats 1000000 in
theorem diff_any (s t : ByteArray) (w : World) (hs : s.size ≤ 1000000) (ht : t.size ≤ 1000000) : Calls Try.prog 24 #[.string s, .string t] w (Ed.DPost w s t) := by
  go_enter Try.func24, Try.ntmps24
  go_wp2_with fail
  refine (begin_any s t _ hs ht).mono ?_
  rintro r w1 ⟨B, rfl, hB, hb1⟩
  have bs := hB.bs
  have bt := hB.bt
  have HB := Lib.hid hB; clear hB
  have B0 := Rp.below_al w (.cells #[.int .i64 0, .int .i64 0, .string ⟨#[]⟩] 46)
  obtain ⟨r0, r1, r2, f0, f1, f2⟩ : (let W := w.alloc (.cells #[.int .i64 0, .int .i64 0, .string ⟨#[]⟩] 46); W.cell? ⟨w.heap.size, 0, none⟩ = some (.int .i64 0) ∧ W.cell? ⟨w.heap.size, 1, none⟩ = some (.int .i64 0) ∧ W.cell? ⟨w.heap.size, 2, none⟩ = some (.string ⟨#[]⟩) ∧ W.frozen? ⟨w.heap.size, 0, none⟩ = false ∧ W.frozen? ⟨w.heap.size, 1, none⟩ = false ∧ W.frozen? ⟨w.heap.size, 2, none⟩ = false) := by
    refine ⟨by simp [go_sem], by simp [go_sem], by simp [go_sem], by simp [go_sem], by simp [go_sem], by simp [go_sem]⟩
  replace f0 := Rp.frz_up hb1 r0 f0
  replace f1 := Rp.frz_up hb1 r1 f1
  replace f2 := Rp.frz_up hb1 r2 f2
  replace r0 := Rp.cell_up hb1 r0
  replace r1 := Rp.cell_up hb1 r1
  replace r2 := Rp.cell_up hb1 r2
  replace B0 := Rp.below_up B0 hb1
  clear hb1
  have i1 : (0 : Int) ≤ (B : Int) := by omega
  have i2 : (B : Int) ≤ (s.size : Int) := by omega
  have i3 : (B : Int) ≤ (t.size : Int) := by omega
  go_wp2_with fail
  go_quiet (fail)
  go_wp2_with fail
  have eS : (s.extract B s.size).size = s.size - B := by simp
  have eT : (t.extract B t.size).size = t.size - B := by simp
  generalize hS : s.extract B s.size = S at *
  generalize hT : t.extract B t.size = T at *
  have TL := tail_any S T (w1.drewN nq) (by omega) (by omega)
  refine TL.mono ?_
  rintro r w2 ⟨K, rfl, hK, hb2⟩
  have ks := hK.ks
  have kt := hK.kt
  have HK := Lib.hid hK
  have HS := Lib.hid hS
  have HT := Lib.hid hT
  clear hK TL hS hT
  replace hb2 := Rp.below_up (Rp.below_drewN (Below.refl _ _) nq) hb2
  replace f0 := Rp.frz_up hb2 r0 f0
  replace f1 := Rp.frz_up hb2 r1 f1
  replace f2 := Rp.frz_up hb2 r2 f2
  replace r0 := Rp.cell_up hb2 r0
  replace r1 := Rp.cell_up hb2 r1
  replace r2 := Rp.cell_up hb2 r2
  replace B0 := Rp.below_up B0 hb2
  clear hb2
  obtain ⟨D, hD⟩ : ∃ D, S.size - K = D := ⟨_, rfl⟩
  obtain ⟨H, hH⟩ : ∃ H, T.size - K = H := ⟨_, rfl⟩
  have j1 : (S.size : Int) - (K : Int) = (D : Int) := by omega
  have j2 : (T.size : Int) - (K : Int) = (H : Int) := by omega
  have j3 : (0 : Int) ≤ (H : Int) := by omega
  have j4 : (H : Int) ≤ (T.size : Int) := by omega
  have x1 : H ≤ T.size := by omega
  go_wp2_with fail
  have hcl : (T.extract 0 (t.size - B - K)).size ≤ 281474976710656 := by simp; omega
  refine (clone_any _ w2 hcl).mono ?_
  rintro r w3 ⟨rfl, hb3⟩
  replace f0 := Rp.frz_up hb3 r0 f0
  replace f1 := Rp.frz_up hb3 r1 f1
  replace f2 := Rp.frz_up hb3 r2 f2
  replace r0 := Rp.cell_up hb3 r0
  replace r1 := Rp.cell_up hb3 r1
  replace r2 := Rp.cell_up hb3 r2
  replace B0 := Rp.below_up B0 hb3
  clear hb3
  go_wp2_with fail
  refine bodyPost_ret (v := .agg #[.int .i64 B, .int .i64 (((s.size - B : Nat) : Int) - (K : Int)), .string (T.extract 0 (t.size - B - K))]) (by simp [results, Try.results24, go_sem, r0, r1, r2]) rfl ⟨B, K, HB.out, ?_, ?_, ((B0.setCell (Nat.le_refl _) _).setCell (Nat.le_refl _) _).setCell (Nat.le_refl _) _⟩
  · rw [HS.out, HT.out]; exact HK.out
  · rw [HT.out]
    have : ((s.size - B - K : Nat) : Int) = ((s.size - B : Nat) : Int) - (K : Int) := by omega
    rw [this]
end Go.Proofs.Ytigibeioapkgiaa
