/- What the program's nodes answers, walked. -/
import Derived.Test.YtndenipjiclkaaaRxQ
import Derived.Test.YtndenipjiclkaaaRxC
namespace Go.Proofs.Ytndenipjiclkaaa
set_option linter.unusedVariables false
set_option linter.unusedSimpArgs false
open Go.RowKit
/-- the nodes below some expressions -/
def Ng.under : List Rx → Nat
  | [] => 0
  | .node _ _ l :: r => Rx.sizeL l + Ng.under r
theorem Ng.under_all : ∀ l : List Rx, l.length + Ng.under l = Rx.sizeL l
  | [] => rfl
  | .node k f l :: r => by
    have := Ng.under_all r
    simp only [Ng.under, Rx.sizeL, Rx.size, List.length_cons]
    omega
theorem Ng.under_snoc : ∀ (xs : List Rx) (k : Nat) (f : Nat → Bool) (l : List Rx), Ng.under (xs ++ [.node k f l]) = Ng.under xs + Rx.sizeL l
  | [], k, f, l => by simp [Ng.under]
  | .node k' f' l' :: r, k, f, l => by rw [List.cons_append, Ng.under, Ng.under, Ng.under_snoc r]; omega
theorem Ng.under_le : ∀ (xs : List Rx) (q : Nat), Ng.under (xs.take q) ≤ Ng.under xs
  | [], q => by simp [Ng.under]
  | .node k f l :: r, 0 => by simp [Ng.under]
  | .node k f l :: r, q + 1 => by
    have := Ng.under_le r q
    simp only [List.take_succ_cons, Ng.under]
    omega
set_option maxRecDepth 100000 in
set_option maxHeartbeats 2000000 in
theorem nodes_any : ∀ (m : Nat) (l : List Rx), Rx.sizeL l ≤ m → m ≤ 1000000 → ∀ (a : Option Addr) (cap : Nat) (w : World), Rx.InL w l a 0 → Calls Try.prog 33 #[.slice a l.length cap] w fun e w' => e = .returned (.int .i64 (Rx.sizeL l : Nat)) ∧ Below w.heap.size w w' := by
  intro m
  induction m using Nat.strongRecOn with
  | _ m ih =>
    intro l hm hm6 a cap w hl
    have HA := Lib.hid (Ng.under_all l)
    have hle := Rx.length_le l
    have IH := Lib.hid ih; clear ih
    have HL := Lib.hid hl; clear hl
    obtain ⟨n, hn⟩ : ∃ n, l.length = n := ⟨_, rfl⟩
    have HN := Lib.hid hn
    rw [hn] at hle ⊢
    clear hn
    go_enter Try.func33, Try.ntmps33
    go_wp2_with fail
    go_loopw [3, 10] (fun r i wr => ∃ q : Nat, q ≤ n ∧ i = .int .i64 q ∧ r = .int .i64 (n + Ng.under (l.take q) : Nat) ∧ Below w.heap.size w wr) (fun _ i _ => n - (intOf i).toNat)
    case atStart => exact ⟨0, by omega, rfl, by simp [Ng.under], Below.refl _ _⟩
    case round =>
      obtain ⟨q, hq, rfl, rfl, A⟩ := hrel
      by_cases hlt : q < n
      · have hlt' : q < l.length := by rw [HN.out]; exact hlt
        obtain ⟨p, rfl, hp⟩ := HL.out.get q hlt'
        rw [Nat.zero_add] at hp
        have hs := (Rx.part_le (List.getElem_mem hlt')).1
        have hu := Ng.under_le l (q + 1)
        rw [List.take_succ_eq_append_getElem hlt'] at hu
        have HT := Lib.hid (List.take_succ_eq_append_getElem hlt')
        generalize l[q] = y at *
        obtain ⟨k1, f1, l1⟩ := y
        rw [Ng.under_snoc] at hu
        have HT2 := Lib.hid (show Ng.under (l.take (q + 1)) = Ng.under (l.take q) + Rx.sizeL l1 by rw [HT.out, Ng.under_snoc])
        obtain ⟨hk, a1, cap1, ⟨x0, x1, x2, x3, x4, x5⟩, hi⟩ := hp
        replace x0 := Bs.cell_up A x0; replace x1 := Bs.cell_up A x1; replace x2 := Bs.cell_up A x2; replace x3 := Bs.cell_up A x3; replace x4 := Bs.cell_up A x4; replace x5 := Bs.cell_up A x5
        simp only [Rx.size] at hs
        have hall := HA.out
        rw [HN.out] at hall
        have B1 := Bs.below1 wr (.cells #[.int .u8 k1, .int .u64 (Bs.word f1 0), .int .u64 (Bs.word f1 1), .int .u64 (Bs.word f1 2), .int .u64 (Bs.word f1 3), .slice a1 l1.length cap1] 54)
        have HI := Lib.hid (IH.out (Rx.sizeL l1) (by omega) l1 (Nat.le_refl _) (by omega) a1 cap1 _ ((hi.up A).up B1))
        clear hi
        replace A := Bs.below_up A B1
        have i1 : (0 : Int) ≤ (q : Int) := by omega
        have i2 : (q : Int) < (n : Int) := by omega
        have e1 : decide ((q : Int) < (n : Int)) = true := decide_eq_true (by omega)
        have e2 : decide (q < n) = true := decide_eq_true hlt
        have i3 : IntKind.i64.wrap (((n + Ng.under (l.take q) : Nat) : Int) + (Rx.sizeL l1 : Int)) = ((n + Ng.under (l.take q) + Rx.sizeL l1 : Nat) : Int) := by rw [IntWalk.i64_in _ (by omega)]; omega
        obtain ⟨z, hz⟩ : ∃ z : Nat, Rx.sizeL l1 = z := ⟨_, rfl⟩
        obtain ⟨t, ht⟩ : ∃ t : Nat, n + Ng.under (l.take q) = t := ⟨_, rfl⟩
        have HZ := Lib.hid hz
        have HTT := Lib.hid ht
        rw [hz] at HI i3
        rw [ht] at i3 ⊢
        clear B1 hz ht hall hu hs
        go_wp2_with fail
        refine HI.out.mono ?_
        rintro e w1 ⟨rfl, hb1⟩
        replace A := Bs.below_up A hb1
        clear HI hb1 x0 x1 x2 x3 x4 x5
        go_wp2_with fail
        go_roundw
        case rel => exact ⟨q + 1, by omega, by go_num, by rw [HT2.out, HZ.out, ← Nat.add_assoc, HTT.out]; go_num, A⟩
        case measure => simp [intOf]; omega
      · have e1 : decide ((q : Int) < (n : Int)) = false := decide_eq_false (by omega)
        have e2 : decide (q < n) = false := decide_eq_false hlt
        have ht : l.take q = l := List.take_of_length_le (by rw [HN.out]; omega)
        have hall := HA.out
        rw [HN.out] at hall
        rw [ht, hall]
        clear ht hall
        go_wp2_with fail
        go_ret
        exact ⟨rfl, A⟩
end Go.Proofs.Ytndenipjiclkaaa
