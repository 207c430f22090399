/- The chapter's example of layer 7: plain facts. The chapter's example of layer 7, and Great, walked. The chapter's example of layer 7, walked. The chapter's example of layer 8: plain facts. Numbers given to texts by a map: names.number, walked. A front's text and its rule, walked. -/
import Derived.Test.YthapedadnbkgnaaG16
import Derived.Test.YthapedadnbkgnaaG22
import Derived.Test.YthapedadnbkgnaaG5
import Derived.Test.YthapedadnbkgnaaG19
import Derived.Test.YthapedadnbkgnaaG13
import Derived.Maps.OwnSet
import Derived.StringKeys
namespace Go.Proofs.Ythapedadnbkgnaa
set_option linter.unusedVariables false
set_option linter.unusedSimpArgs false
open Go.RowKit
def Ng.isAB : Option Rx → Bool
  | some (.node 2 _ [.node 4 _ [.node 1 f2 []], .node 1 f3 []]) => f2 97 && !f2 98 && !f3 97 && f3 98
  | _ => false
def Ng.isA : Option Rx → Bool
  | some (.node 1 f []) => f 97 && !f 98
  | _ => false
theorem Ng.ex_code1 : Px.code ⟨#[97, 42, 98]⟩ = 0 := by decide +kernel
theorem Ng.ex_code2 : Px.code ⟨#[97]⟩ = 0 := by decide +kernel
theorem Ng.isAB_form {x : Rx} (h : Ng.isAB (some x) = true) : ∃ f0 f1 f2 f3, x = .node 2 f0 [.node 4 f1 [.node 1 f2 []], .node 1 f3 []] ∧ f2 97 = true ∧ f2 98 = false ∧ f3 97 = false ∧ f3 98 = true := by
  unfold Ng.isAB at h
  split at h
  · rename_i e
    injection e with e
    simp only [Bool.and_eq_true, Bool.not_eq_true'] at h
    exact ⟨_, _, _, _, e, h.1.1.1, h.1.1.2, h.1.2, h.2⟩
  · simp at h
theorem Ng.isA_form {x : Rx} (h : Ng.isA (some x) = true) : ∃ f, x = .node 1 f [] ∧ f 97 = true ∧ f 98 = false := by
  unfold Ng.isA at h
  split at h
  · rename_i e
    injection e with e
    simp only [Bool.and_eq_true, Bool.not_eq_true'] at h
    exact ⟨_, e, h.1, h.2⟩
  · simp at h
structure Ng.Ex (l : List Rx) : Prop where
  num : Nf.onesL l = 3
  so : ∀ p, (∃ r, Nf.rfst l r p) ↔ p = 0 ∨ p = 1 ∨ p = 2
  sr : ∀ r, ¬ Nf.remp l r
  ao : ∀ p, (∃ k : Nat, (k : Int) ∈ [(0 : Int), 1, 2] ∧ Nf.onL l k 97 ∧ Nf.folA l k p) ↔ p = 0 ∨ p = 1
  ar : ∀ q, (∃ k : Nat, (k : Int) ∈ [(0 : Int), 1, 2] ∧ Nf.onL l k 97 ∧ Nf.rlst l q k) ↔ q = 1
  bo : ∀ p, ¬ ∃ k : Nat, (k : Int) ∈ [(0 : Int), 1] ∧ Nf.onL l k 98 ∧ Nf.folA l k p
  br : ∀ q, (∃ k : Nat, (k : Int) ∈ [(0 : Int), 1] ∧ Nf.onL l k 98 ∧ Nf.rlst l q k) ↔ q = 0
theorem Ng.ex {x y : Rx} (hx : Ng.isAB (some x) = true) (hy : Ng.isA (some y) = true) : Ng.Ex [x, y] := by
  obtain ⟨f0, f1, f2, f3, rfl, h1, h2, h3, h4⟩ := Ng.isAB_form hx
  obtain ⟨f, rfl, h5, h6⟩ := Ng.isA_form hy
  have o1 : ∀ c, Nf.onL [.node 2 f0 [.node 4 f1 [.node 1 f2 []], .node 1 f3 []], .node 1 f []] 0 c ↔ f2 c = true := fun c => by simp [Nf.onL, Rx.setsL, Rx.sets]
  have o2 : ∀ c, Nf.onL [.node 2 f0 [.node 4 f1 [.node 1 f2 []], .node 1 f3 []], .node 1 f []] 1 c ↔ f3 c = true := fun c => by simp [Nf.onL, Rx.setsL, Rx.sets]
  have o3 : ∀ c, Nf.onL [.node 2 f0 [.node 4 f1 [.node 1 f2 []], .node 1 f3 []], .node 1 f []] 2 c ↔ f c = true := fun c => by simp [Nf.onL, Rx.setsL, Rx.sets]
  have w1 : ∀ p, Nf.folA [.node 2 f0 [.node 4 f1 [.node 1 f2 []], .node 1 f3 []], .node 1 f []] 0 p ↔ p = 0 ∨ p = 1 := fun p => by
    simp [Nf.folA, Nf.fol, Nf.folC, Nf.lst, Nf.lstA, Nf.fst, Nf.fstA, Nf.fstC, Nf.ones, Nf.onesL]
  have w2 : ∀ p, ¬ Nf.folA [.node 2 f0 [.node 4 f1 [.node 1 f2 []], .node 1 f3 []], .node 1 f []] 1 p := fun p => by
    simp [Nf.folA, Nf.fol, Nf.folC, Nf.lst, Nf.lstA, Nf.fst, Nf.fstA, Nf.fstC, Nf.ones, Nf.onesL]
  have w3 : ∀ p, ¬ Nf.folA [.node 2 f0 [.node 4 f1 [.node 1 f2 []], .node 1 f3 []], .node 1 f []] 2 p := fun p => by
    simp [Nf.folA, Nf.fol, Nf.folC, Nf.lst, Nf.lstA, Nf.fst, Nf.fstA, Nf.fstC, Nf.ones, Nf.onesL]
  have q0 : ∀ r k, Nf.rlst [.node 2 f0 [.node 4 f1 [.node 1 f2 []], .node 1 f3 []], .node 1 f []] r k ↔ (r = 0 ∧ k = 1) ∨ (r = 1 ∧ k = 2) := fun r k => by
    match r with
    | 0 => simp [Nf.rlst, Nf.lst, Nf.lstC, Nf.lstA, Nf.ones, Nf.onesL, Rx.empC, Rx.emp]
    | 1 => simp [Nf.rlst, Nf.lst, Nf.lstC, Nf.lstA, Nf.ones, Nf.onesL, Rx.empC, Rx.emp]
    | r + 2 => simp [Nf.rlst]
  have g0 : ∀ r p, Nf.rfst [.node 2 f0 [.node 4 f1 [.node 1 f2 []], .node 1 f3 []], .node 1 f []] r p ↔ (r = 0 ∧ (p = 0 ∨ p = 1)) ∨ (r = 1 ∧ p = 2) := fun r p => by
    match r with
    | 0 => simp [Nf.rfst, Nf.fst, Nf.fstC, Nf.fstA, Nf.ones, Nf.onesL, Rx.emp]
    | 1 => simp [Nf.rfst, Nf.fst, Nf.fstC, Nf.fstA, Nf.ones, Nf.onesL, Rx.emp]
    | r + 2 => simp [Nf.rfst]
  have m3 : ∀ k : Nat, (k : Int) ∈ [(0 : Int), 1, 2] ↔ k = 0 ∨ k = 1 ∨ k = 2 := fun k => by simp; omega
  have m2 : ∀ k : Nat, (k : Int) ∈ [(0 : Int), 1] ↔ k = 0 ∨ k = 1 := fun k => by simp; omega
  refine ⟨by simp [Nf.onesL, Nf.ones], fun p => ?_, fun r hr => ?_, fun p => ?_, fun q => ?_, fun p => ?_, fun q => ?_⟩
  · constructor
    · rintro ⟨r, h⟩
      rcases (g0 r p).1 h with ⟨_, h | h⟩ | ⟨_, h⟩ <;> omega
    · rintro (h | h | h)
      · exact ⟨0, (g0 _ _).2 (.inl ⟨rfl, .inl h⟩)⟩
      · exact ⟨0, (g0 _ _).2 (.inl ⟨rfl, .inr h⟩)⟩
      · exact ⟨1, (g0 _ _).2 (.inr ⟨rfl, h⟩)⟩
  · match r, hr with
    | 0, hr => simp [Nf.remp, Rx.emp, Rx.empC] at hr
    | 1, hr => simp [Nf.remp, Rx.emp] at hr
    | r + 2, hr => simp [Nf.remp] at hr
  · constructor
    · rintro ⟨k, hk, ho, hf⟩
      rcases (m3 k).1 hk with rfl | rfl | rfl
      · exact (w1 p).1 hf
      · exact absurd hf (w2 p)
      · exact absurd hf (w3 p)
    · intro h
      exact ⟨0, (m3 0).2 (.inl rfl), (o1 97).2 h1, (w1 p).2 h⟩
  · constructor
    · rintro ⟨k, hk, ho, hf⟩
      rcases (m3 k).1 hk with rfl | rfl | rfl
      · rcases (q0 q 0).1 hf with ⟨_, h⟩ | ⟨_, h⟩ <;> omega
      · rw [(o2 97), h3] at ho; simp at ho
      · rcases (q0 q 2).1 hf with ⟨_, h⟩ | ⟨h, _⟩
        · omega
        · exact h
    · intro h
      exact ⟨2, (m3 2).2 (.inr (.inr rfl)), (o3 97).2 h5, (q0 q 2).2 (.inr ⟨h, rfl⟩)⟩
  · rintro ⟨k, hk, ho, hf⟩
    rcases (m2 k).1 hk with rfl | rfl
    · rw [(o1 98), h2] at ho; simp at ho
    · exact absurd hf (w2 p)
  · constructor
    · rintro ⟨k, hk, ho, hf⟩
      rcases (m2 k).1 hk with rfl | rfl
      · rw [(o1 98), h2] at ho; simp at ho
      · rcases (q0 q 1).1 hf with ⟨h, _⟩ | ⟨_, h⟩
        · exact h
        · omega
    · intro h
      exact ⟨1, (m2 1).2 (.inr rfl), (o2 98).2 h4, (q0 q 1).2 (.inl ⟨h, rfl⟩)⟩
theorem Ng.ex_size {x y : Rx} (hx : Ng.isAB (some x) = true) (hy : Ng.isA (some y) = true) : Rx.sizeL [x, y] = 5 := by
  obtain ⟨f0, f1, f2, f3, rfl, _⟩ := Ng.isAB_form hx
  obtain ⟨f, rfl, _⟩ := Ng.isA_form hy
  simp [Rx.sizeL, Rx.size]
theorem Ng.rise3 : Nf.Rise [0, 1, 2] (fun p => p = 0 ∨ p = 1 ∨ p = 2) := ⟨by simp, fun x hx => by simp at hx; omega, fun p => by simp; omega⟩
theorem Ng.rise2 : Nf.Rise [0, 1] (fun p => p = 0 ∨ p = 1) := ⟨by simp, fun x hx => by simp at hx; omega, fun p => by simp; omega⟩
theorem Ng.riseA : Nf.Rise [1] (fun p => p = 1) := ⟨by simp, fun x hx => by simp at hx; omega, fun p => by simp; omega⟩
theorem Ng.riseB : Nf.Rise [0] (fun p => p = 0) := Nf.rise_zero
open Go.RowKit
theorem Ng.in_of {w w' : World} {x : Rx} {k : Nat} {f : Nat → Bool} {a : Option Addr} {n cap : Nat} {p : Addr} (h : Rx.Is w x (Rx.hdr k f a n cap)) (hb : Below w.heap.size w w') (hc : Rx.Cell w' p k f a n cap) : Rx.In w' x p := by
  cases x with
  | node k' f' l =>
    obtain ⟨hk, a', cap', e, hl⟩ := h
    unfold Rx.hdr at e
    injection e with e
    have e1 := congrArg Array.toList e
    simp only [List.cons.injEq, and_true] at e1
    obtain ⟨e0, e1, e2, e3, e4, e5⟩ := e1
    obtain ⟨c0, c1, c2, c3, c4, c5⟩ := hc
    rw [e0] at c0; rw [e1] at c1; rw [e2] at c2; rw [e3] at c3; rw [e4] at c4; rw [e5] at c5
    exact ⟨hk, a', cap', ⟨c0, c1, c2, c3, c4, c5⟩, hl.up hb⟩
theorem Ng.two_in {w : World} {x y : Rx} {k1 : Nat} {f1 : Nat → Bool} {a1 : Option Addr} {n1 c1 : Nat} {k2 : Nat} {f2 : Nat → Bool} {a2 : Option Addr} {n2 c2 : Nat} (h1 : Rx.Is w x (Rx.hdr k1 f1 a1 n1 c1)) (h2 : Rx.Is w y (Rx.hdr k2 f2 a2 n2 c2)) :
    Rx.InL (w.alloc (.cells #[.int .u8 k1, .int .u64 (Bs.word f1 0), .int .u64 (Bs.word f1 1), .int .u64 (Bs.word f1 2), .int .u64 (Bs.word f1 3), .slice a1 n1 c1, .int .u8 k2, .int .u64 (Bs.word f2 0), .int .u64 (Bs.word f2 1), .int .u64 (Bs.word f2 2), .int .u64 (Bs.word f2 3), .slice a2 n2 c2] 28)) [x, y] (some ⟨w.heap.size, 0, none⟩) 0 := by
  have hb := Bs.below1 w (.cells #[.int .u8 k1, .int .u64 (Bs.word f1 0), .int .u64 (Bs.word f1 1), .int .u64 (Bs.word f1 2), .int .u64 (Bs.word f1 3), .slice a1 n1 c1, .int .u8 k2, .int .u64 (Bs.word f2 0), .int .u64 (Bs.word f2 1), .int .u64 (Bs.word f2 2), .int .u64 (Bs.word f2 3), .slice a2 n2 c2] 28)
  refine ⟨⟨_, rfl, Ng.in_of h1 hb ⟨?_, ?_, ?_, ?_, ?_, ?_⟩⟩, ⟨_, rfl, Ng.in_of h2 hb ⟨?_, ?_, ?_, ?_, ?_, ?_⟩⟩, trivial⟩
  all_goals simp [go_sem, Addr.add]
def Ng.sum : List Rx → Nat
  | [] => 0
  | x :: r => (x.cnt 1).getD 0 + Ng.sum r
theorem Ng.sum_snoc : ∀ (l : List Rx) (x : Rx), Ng.sum (l ++ [x]) = Ng.sum l + (x.cnt 1).getD 0
  | [], x => by simp [Ng.sum]
  | y :: r, x => by rw [List.cons_append, Ng.sum, Ng.sum, Ng.sum_snoc r]; omega
theorem Ng.cnt_le (x : Rx) : (x.cnt 1).getD 0 ≤ 400 := by
  rw [Rx.cnt_eq x 1 (Nat.le_refl _)]
  split
  · rename_i h
    exact (Rx.may_iff.1 h).2.2
  · simp
theorem Ng.sum_le : ∀ l : List Rx, Ng.sum l ≤ 400 * l.length
  | [] => by simp [Ng.sum]
  | x :: r => by
    have := Ng.cnt_le x
    have := Ng.sum_le r
    simp only [Ng.sum, List.length_cons]
    omega
def Ng.great (l : List Rx) : Bool := decide (40 < l.length) || (decide (120 < Ng.sum l) && decide (Ng.sum l ≤ 2000))
set_option maxRecDepth 100000 in
set_option maxHeartbeats 1000000 in
theorem great_any (l : List Rx) (hln : l.length ≤ maxLen) (al : Option Addr) (cap : Nat) (w : World) (hl : Rx.InL w l al 0) : Calls Try.prog 8 #[.slice al l.length cap] w (Bs.BPost w (Ng.great l)) := by
  unfold maxLen at hln
  have HG := Lib.hid (Ng.great.eq_def l)
  have HL := Lib.hid hl
  have HSL := Lib.hid (Ng.sum_le l)
  obtain ⟨n, hn⟩ : ∃ n, l.length = n := ⟨_, rfl⟩
  have HN := Lib.hid hn
  rw [hn] at hln HG HSL ⊢
  clear hl hn
  go_enter Try.func8, Try.ntmps8
  by_cases h40 : 40 < n
  · have e1 : decide ((40 : Int) < (n : Int)) = true := decide_eq_true (by omega)
    have e2 : decide (40 < n) = true := decide_eq_true h40
    rw [e2, Bool.true_or] at HG
    clear e2
    go_wp2_with fail
    go_ret
    exact ⟨by rw [HG.out]; rfl, Below.refl _ _⟩
  have e1 : decide ((40 : Int) < (n : Int)) = false := decide_eq_false (by omega)
  have e2 : decide (40 < n) = false := decide_eq_false h40
  rw [e2, Bool.false_or] at HG
  clear e2
  go_wp2_with fail
  clear e1
  go_loopw [3, 4] (fun r i wr => ∃ q : Nat, q ≤ n ∧ i = .int .i64 q ∧ r = .int .i64 (Ng.sum (l.take q) : Nat) ∧ Below w.heap.size w wr) (fun _ i _ => n - (intOf i).toNat)
  case atStart => exact ⟨0, by omega, rfl, by simp [Ng.sum], Below.refl _ _⟩
  case round =>
    obtain ⟨q, hq, rfl, rfl, A⟩ := hrel
    by_cases hlt : q < n
    · have hlt' : q < l.length := by rw [HN.out]; exact hlt
      obtain ⟨p, rfl, hp⟩ := HL.out.get q hlt'
      rw [Nat.zero_add] at hp
      have hsl := Ng.sum_le (l.take q)
      rw [List.length_take] at hsl
      have HT := Lib.hid (show Ng.sum (l.take (q + 1)) = Ng.sum (l.take q) + ((l[q]).cnt 1).getD 0 by rw [List.take_succ_eq_append_getElem hlt', Ng.sum_snoc])
      have hcl := Ng.cnt_le l[q]
      generalize l[q] = y at *
      obtain ⟨k1, f1, a1, n1, cap1, ⟨x0, x1, x2, x3, x4, x5⟩, hi⟩ := hp.open
      replace x0 := Bs.cell_up A x0; replace x1 := Bs.cell_up A x1; replace x2 := Bs.cell_up A x2; replace x3 := Bs.cell_up A x3; replace x4 := Bs.cell_up A x4; replace x5 := Bs.cell_up A x5
      have C := Lib.hid (refCount_any y.size y (Nat.le_refl _) _ 1 wr (hi.up A) (by decide) (by decide))
      unfold Rx.hdr at C
      have i1 : (0 : Int) ≤ (q : Int) := by omega
      have i2 : (q : Int) < (n : Int) := by omega
      have e1 : decide ((q : Int) < (n : Int)) = true := decide_eq_true (by omega)
      have e2 : decide (q < n) = true := decide_eq_true hlt
      clear hp hi
      generalize Ng.sum (l.take q) = sm at *
      have hsm : sm ≤ 20000 := by omega
      clear hsl
      go_wp2_with fail
      refine C.out.mono ?_
      rintro e w1 ⟨rfl, b1⟩
      replace A := Bs.below_up A b1
      clear C b1 x0 x1 x2 x3 x4 x5
      cases hy : y.cnt 1 with
      | none =>
        rw [hy] at HT
        simp only [Option.getD_none, Nat.add_zero] at HT
        simp only [Rx.cntI]
        clear hy hcl
        go_wp2_with fail
        go_roundw
        case rel => exact ⟨q + 1, by omega, by go_num, by rw [HT.out], A⟩
        case measure => simp [intOf]; omega
      | some c =>
        rw [hy] at HT hcl
        simp only [Option.getD_some] at HT hcl
        simp only [Rx.cntI]
        clear hy
        have e3 : decide ((c : Int) < 0) = false := decide_eq_false (by omega)
        have i3 : IntKind.i64.wrap ((sm : Int) + (c : Int)) = ((sm + c : Nat) : Int) := by rw [IntWalk.i64_in _ (by omega)]; omega
        go_wp2_with fail
        go_roundw
        case rel => exact ⟨q + 1, by omega, by go_num, by rw [HT.out]; go_num, A⟩
        case measure => simp [intOf]; omega
    · have ht : l.take q = l := List.take_of_length_le (by rw [HN.out]; omega)
      rw [ht]
      have hsl := HSL.out
      generalize Ng.sum l = sm at *
      have e1 : decide ((q : Int) < (n : Int)) = false := decide_eq_false (by omega)
      have e2 : decide (q < n) = false := decide_eq_false hlt
      clear ht
      by_cases h1 : 120 < sm
      · have e3 : decide ((120 : Int) < (sm : Int)) = true := decide_eq_true (by omega)
        have e4 : decide (120 < sm) = true := decide_eq_true h1
        rw [e4, Bool.true_and] at HG
        clear e4
        by_cases h2 : sm ≤ 2000
        · have e5 : decide ((sm : Int) ≤ 2000) = true := decide_eq_true (by omega)
          have e6 : decide (sm ≤ 2000) = true := decide_eq_true h2
          rw [e6] at HG
          go_wp2_with fail
          go_ret
          exact ⟨by rw [HG.out]; rfl, A⟩
        · have e5 : decide ((sm : Int) ≤ 2000) = false := decide_eq_false (by omega)
          have e6 : decide (sm ≤ 2000) = false := decide_eq_false h2
          rw [e6] at HG
          go_wp2_with fail
          go_ret
          exact ⟨by rw [HG.out]; rfl, A⟩
      · have e3 : decide ((120 : Int) < (sm : Int)) = false := decide_eq_false (by omega)
        have e4 : decide (120 < sm) = false := decide_eq_false h1
        rw [e4, Bool.false_and] at HG
        go_wp2_with fail
        go_ret
        exact ⟨by rw [HG.out]; rfl, A⟩
open Go.RowKit
theorem Ng.build_yes {w w' : World} {l : List Rx} {e : Ending} (h : Ng.BuildPost w l e w') (hc : Ng.code l = 0) : ∃ r, e = .returned (.tuple #[.pointer (some ⟨r, 0, none⟩), .int .i64 0]) ∧ Ng.Mc w' w.heap.size r l ∧ Below w.heap.size w w' := by
  rcases h with ⟨_, r, tr, e1, h1, h2, h3⟩ | ⟨h, _⟩
  · exact ⟨r, e1, ⟨Ng.fits_of hc, tr, h1, h2⟩, h3⟩
  · exact absurd hc h
end Go.Proofs.Ythapedadnbkgnaa
namespace Go.Proofs.Ythapedadnbkgnaa
set_option linter.unusedVariables false
set_option linter.unusedSimpArgs false
def Df.isAB : Option Rx → Bool
  | some (.node 2 _ [.node 4 _ [.node 1 f2 []], .node 1 f3 []]) => (List.range 256).all fun c => (f2 c == (c == 97)) && (f3 c == (c == 98))
  | _ => false
def Df.isA : Option Rx → Bool
  | some (.node 1 f []) => (List.range 256).all fun c => f c == (c == 97)
  | _ => false
theorem Df.ex_ab : Df.isAB (Px.parse ⟨#[97, 42, 98]⟩) = true := by decide +kernel
theorem Df.ex_a : Df.isA (Px.parse ⟨#[97]⟩) = true := by decide +kernel
theorem Df.isAB_form {x : Rx} (h : Df.isAB (some x) = true) : ∃ f0 f1 f2 f3, x = .node 2 f0 [.node 4 f1 [.node 1 f2 []], .node 1 f3 []] ∧ ∀ c, c < 256 → f2 c = (c == 97) ∧ f3 c = (c == 98) := by
  unfold Df.isAB at h
  split at h
  · rename_i e
    injection e with e
    simp only [List.all_eq_true, Bool.and_eq_true, beq_iff_eq, List.mem_range] at h
    exact ⟨_, _, _, _, e, h⟩
  · simp at h
theorem Df.isA_form {x : Rx} (h : Df.isA (some x) = true) : ∃ f, x = .node 1 f [] ∧ ∀ c, c < 256 → f c = (c == 97) := by
  unfold Df.isA at h
  split at h
  · rename_i e
    injection e with e
    simp only [List.all_eq_true, beq_iff_eq, List.mem_range] at h
    exact ⟨_, e, h⟩
  · simp at h
theorem Df.ab_of {x : Rx} (h : Df.isAB (some x) = true) : Ng.isAB (some x) = true := by
  obtain ⟨f0, f1, f2, f3, rfl, hh⟩ := Df.isAB_form h
  clear h
  have h := hh
  have h1 := h 97 (by omega)
  have h2 := h 98 (by omega)
  simp [Ng.isAB, h1, h2]
theorem Df.a_of {x : Rx} (h : Df.isA (some x) = true) : Ng.isA (some x) = true := by
  obtain ⟨f, rfl, hh⟩ := Df.isA_form h
  clear h
  have h := hh
  have h1 := h 97 (by omega)
  have h2 := h 98 (by omega)
  simp [Ng.isA, h1, h2]
structure Df.Ex (l : List Rx) : Prop where
  s0 : Df.s0 l = ([0, 1, 2], [])
  a3 : ∀ fr, Df.sf l 97 ([0, 1, 2], fr) = ([0, 1], [1])
  b3 : ∀ fr, Df.sf l 98 ([0, 1, 2], fr) = ([], [0])
  n3 : ∀ c fr, c < 256 → c ≠ 97 → c ≠ 98 → Df.sf l c ([0, 1, 2], fr) = ([], [])
  a2 : ∀ fr, Df.sf l 97 ([0, 1], fr) = ([0, 1], [])
  b2 : ∀ fr, Df.sf l 98 ([0, 1], fr) = ([], [0])
  n2 : ∀ c fr, c < 256 → c ≠ 97 → c ≠ 98 → Df.sf l c ([0, 1], fr) = ([], [])
theorem Df.ex {x y : Rx} (hx : Df.isAB (some x) = true) (hy : Df.isA (some y) = true) : Df.Ex [x, y] := by
  have EX := Ng.ex (Df.ab_of hx) (Df.a_of hy)
  obtain ⟨f0, f1, f2, f3, rfl, h⟩ := Df.isAB_form hx
  obtain ⟨f, rfl, h'⟩ := Df.isA_form hy
  have o1 : ∀ c, Nf.onL [.node 2 f0 [.node 4 f1 [.node 1 f2 []], .node 1 f3 []], .node 1 f []] 0 c ↔ f2 c = true := fun c => by simp [Nf.onL, Rx.setsL, Rx.sets]
  have o2 : ∀ c, Nf.onL [.node 2 f0 [.node 4 f1 [.node 1 f2 []], .node 1 f3 []], .node 1 f []] 1 c ↔ f3 c = true := fun c => by simp [Nf.onL, Rx.setsL, Rx.sets]
  have o3 : ∀ c, Nf.onL [.node 2 f0 [.node 4 f1 [.node 1 f2 []], .node 1 f3 []], .node 1 f []] 2 c ↔ f c = true := fun c => by simp [Nf.onL, Rx.setsL, Rx.sets]
  have w1 : ∀ p, Nf.folA [.node 2 f0 [.node 4 f1 [.node 1 f2 []], .node 1 f3 []], .node 1 f []] 0 p ↔ p = 0 ∨ p = 1 := fun p => by
    simp [Nf.folA, Nf.fol, Nf.folC, Nf.lst, Nf.lstA, Nf.fst, Nf.fstA, Nf.fstC, Nf.ones, Nf.onesL]
  have w2 : ∀ p, ¬ Nf.folA [.node 2 f0 [.node 4 f1 [.node 1 f2 []], .node 1 f3 []], .node 1 f []] 1 p := fun p => by
    simp [Nf.folA, Nf.fol, Nf.folC, Nf.lst, Nf.lstA, Nf.fst, Nf.fstA, Nf.fstC, Nf.ones, Nf.onesL]
  have w3 : ∀ p, ¬ Nf.folA [.node 2 f0 [.node 4 f1 [.node 1 f2 []], .node 1 f3 []], .node 1 f []] 2 p := fun p => by
    simp [Nf.folA, Nf.fol, Nf.folC, Nf.lst, Nf.lstA, Nf.fst, Nf.fstA, Nf.fstC, Nf.ones, Nf.onesL]
  have q0 : ∀ r k, Nf.rlst [.node 2 f0 [.node 4 f1 [.node 1 f2 []], .node 1 f3 []], .node 1 f []] r k ↔ (r = 0 ∧ k = 1) ∨ (r = 1 ∧ k = 2) := fun r k => by
    match r with
    | 0 => simp [Nf.rlst, Nf.lst, Nf.lstC, Nf.lstA, Nf.ones, Nf.onesL, Rx.empC, Rx.emp]
    | 1 => simp [Nf.rlst, Nf.lst, Nf.lstC, Nf.lstA, Nf.ones, Nf.onesL, Rx.empC, Rx.emp]
    | r + 2 => simp [Nf.rlst]
  have m3 : ∀ k : Nat, (k : Int) ∈ [(0 : Int), 1, 2] ↔ k = 0 ∨ k = 1 ∨ k = 2 := fun k => by simp; omega
  have m2 : ∀ k : Nat, (k : Int) ∈ [(0 : Int), 1] ↔ k = 0 ∨ k = 1 := fun k => by simp; omega
  generalize hL : [Rx.node 2 f0 [.node 4 f1 [.node 1 f2 []], .node 1 f3 []], .node 1 f []] = L at *
  have F3 : ∀ c p, (∃ k : Nat, (k : Int) ∈ [(0 : Int), 1, 2] ∧ Nf.onL L k c ∧ Nf.folA L k p) ↔ f2 c = true ∧ (p = 0 ∨ p = 1) := fun c p => by
    constructor
    · rintro ⟨k, hk, ho, hf⟩
      rcases (m3 k).1 hk with rfl | rfl | rfl
      · exact ⟨(o1 c).1 ho, (w1 p).1 hf⟩
      · exact absurd hf (w2 p)
      · exact absurd hf (w3 p)
    · rintro ⟨h1, h2⟩
      exact ⟨0, (m3 0).2 (.inl rfl), (o1 c).2 h1, (w1 p).2 h2⟩
  have F2 : ∀ c p, (∃ k : Nat, (k : Int) ∈ [(0 : Int), 1] ∧ Nf.onL L k c ∧ Nf.folA L k p) ↔ f2 c = true ∧ (p = 0 ∨ p = 1) := fun c p => by
    constructor
    · rintro ⟨k, hk, ho, hf⟩
      rcases (m2 k).1 hk with rfl | rfl
      · exact ⟨(o1 c).1 ho, (w1 p).1 hf⟩
      · exact absurd hf (w2 p)
    · rintro ⟨h1, h2⟩
      exact ⟨0, (m2 0).2 (.inl rfl), (o1 c).2 h1, (w1 p).2 h2⟩
  have R3 : ∀ c q, (∃ k : Nat, (k : Int) ∈ [(0 : Int), 1, 2] ∧ Nf.onL L k c ∧ Nf.rlst L q k) ↔ (q = 0 ∧ f3 c = true) ∨ (q = 1 ∧ f c = true) := fun c q => by
    constructor
    · rintro ⟨k, hk, ho, hf⟩
      rcases (q0 q k).1 hf with ⟨h1, rfl⟩ | ⟨h1, rfl⟩
      · exact .inl ⟨h1, (o2 c).1 ho⟩
      · exact .inr ⟨h1, (o3 c).1 ho⟩
    · rintro (⟨h1, h2⟩ | ⟨h1, h2⟩)
      · exact ⟨1, (m3 1).2 (.inr (.inl rfl)), (o2 c).2 h2, (q0 q 1).2 (.inl ⟨h1, rfl⟩)⟩
      · exact ⟨2, (m3 2).2 (.inr (.inr rfl)), (o3 c).2 h2, (q0 q 2).2 (.inr ⟨h1, rfl⟩)⟩
  have R2 : ∀ c q, (∃ k : Nat, (k : Int) ∈ [(0 : Int), 1] ∧ Nf.onL L k c ∧ Nf.rlst L q k) ↔ (q = 0 ∧ f3 c = true) := fun c q => by
    constructor
    · rintro ⟨k, hk, ho, hf⟩
      rcases (q0 q k).1 hf with ⟨h1, rfl⟩ | ⟨h1, rfl⟩
      · exact ⟨h1, (o2 c).1 ho⟩
      · have := (m2 2).1 hk; omega
    · rintro ⟨h1, h2⟩
      exact ⟨1, (m2 1).2 (.inr rfl), (o2 c).2 h2, (q0 q 1).2 (.inl ⟨h1, rfl⟩)⟩
  have h97 := h 97 (by omega)
  have h98 := h 98 (by omega)
  have g97 := h' 97 (by omega)
  have g98 := h' 98 (by omega)
  simp at h97 h98 g97 g98
  refine ⟨Df.s0_eq (Ng.rise3.congr fun p => (EX.so p).symm) (Nf.rise_nil EX.sr), fun fr => ?_, fun fr => ?_, fun c fr hc h1 h2 => ?_, fun fr => ?_, fun fr => ?_, fun c fr hc h1 h2 => ?_⟩
  · exact Df.sf_eq (Ng.rise2.congr fun p => by rw [F3, h97.1]; simp) (Ng.riseA.congr fun q => by rw [R3, h97.2, g97]; simp)
  · exact Df.sf_eq (Nf.rise_nil fun p => by rw [F3, h98.1]; simp) (Ng.riseB.congr fun q => by rw [R3, h98.2, g98]; simp)
  · have e1 := h c hc
    have e2 := h' c hc
    exact Df.sf_eq (Nf.rise_nil fun p => by rw [F3, e1.1]; simp [h1]) (Nf.rise_nil fun q => by rw [R3, e1.2, e2]; simp [h1, h2])
  · exact Df.sf_eq (Ng.rise2.congr fun p => by rw [F2, h97.1]; simp) (Nf.rise_nil fun q => by rw [R2, h97.2]; simp)
  · exact Df.sf_eq (Nf.rise_nil fun p => by rw [F2, h98.1]; simp) (Ng.riseB.congr fun q => by rw [R2, h98.2]; simp)
  · have e1 := h c hc
    exact Df.sf_eq (Nf.rise_nil fun p => by rw [F2, e1.1]; simp [h1]) (Nf.rise_nil fun q => by rw [R2, e1.2]; simp [h2])
namespace Df
theorem Plan.stepD {l : List Rx} {F : List Fr} {nx : List (List Nat)} {r p : List Int} {st : Nat} {S : List Nat} (h : Plan l F nx r p st S) {f : Fr} (hf : f ∈ F) {c : Nat} (hc : c < 256) : (nx.getD (idx F f) []).getD (kl l c) 0 = idx F (sf l c f) := by
  rw [List.getD_eq_getElem?_getD (l := nx.getD _ _), (h.step hf hc).1]
  rfl
theorem Plan.same {l : List Rx} {F : List Fr} {nx : List (List Nat)} {r p : List Int} {st : Nat} {S : List Nat} (h : Plan l F nx r p st S) {f g : Fr} (hf : f ∈ F) (hg : g ∈ F) (e : p.getD (idx F f) 0 = p.getD (idx F g) 0) : rle f.2 = rle g.2 ∧ ∀ c, c < 256 → p.getD (idx F (sf l c f)) 0 = p.getD (idx F (sf l c g)) 0 := by
  have hi : idx F f < nx.length := by rw [h.len]; exact idx_lt hf
  have hj : idx F g < nx.length := by rw [h.len]; exact idx_lt hg
  refine ⟨by have := h.fine.rule _ _ hi hj e; rwa [h.rget hf, h.rget hg] at this, fun c hc => ?_⟩
  have := h.one hi hj e (kl_lt l hc)
  rwa [h.stepD hf hc, h.stepD hg hc] at this
theorem Plan.four {l : List Rx} {F : List Fr} {nx : List (List Nat)} {r p : List Int} {st : Nat} {S : List Nat} (h : Plan l F nx r p st S) (E : Df.Ex l) : S.length = 4 := by
  have m0 := h.mem0
  have ms : (([0, 1, 2], []) : Fr) ∈ F := by rw [← E.s0]; exact m0.2.1
  have ma : (([0, 1], [1]) : Fr) ∈ F := by rw [← E.a3 []]; exact (h.step ms (by decide)).2
  have mb : (([], [0]) : Fr) ∈ F := by rw [← E.b3 []]; exact (h.step ms (by decide)).2
  have mc : (([0, 1], []) : Fr) ∈ F := by rw [← E.a2 [1]]; exact (h.step ma (by decide)).2
  have mn : (([], []) : Fr) ∈ F := m0.1
  -- parts
  have nab : p.getD (idx F ([0, 1], [1])) 0 ≠ p.getD (idx F ([], [0])) 0 := fun e => absurd (h.same ma mb e).1 (by decide)
  have nac : p.getD (idx F ([0, 1], [1])) 0 ≠ p.getD (idx F ([0, 1], [])) 0 := fun e => absurd (h.same ma mc e).1 (by decide)
  have nas : p.getD (idx F ([0, 1], [1])) 0 ≠ p.getD (idx F ([0, 1, 2], [])) 0 := fun e => absurd (h.same ma ms e).1 (by decide)
  have nan : p.getD (idx F ([0, 1], [1])) 0 ≠ p.getD (idx F ([], [])) 0 := fun e => absurd (h.same ma mn e).1 (by decide)
  have nbc : p.getD (idx F ([], [0])) 0 ≠ p.getD (idx F ([0, 1], [])) 0 := fun e => absurd (h.same mb mc e).1 (by decide)
  have nbs : p.getD (idx F ([], [0])) 0 ≠ p.getD (idx F ([0, 1, 2], [])) 0 := fun e => absurd (h.same mb ms e).1 (by decide)
  have nbn : p.getD (idx F ([], [0])) 0 ≠ p.getD (idx F ([], [])) 0 := fun e => absurd (h.same mb mn e).1 (by decide)
  have ncs : p.getD (idx F ([0, 1], [])) 0 ≠ p.getD (idx F ([0, 1, 2], [])) 0 := fun e => by
    have := (h.same mc ms e).2 97 (by decide)
    rw [E.a2, E.a3] at this
    exact nac this.symm
  have ncn : p.getD (idx F ([0, 1], [])) 0 ≠ p.getD (idx F ([], [])) 0 := fun e => by
    have := (h.same mc mn e).2 98 (by decide)
    rw [E.b2, sf_nil] at this
    exact nbn this
  have nsn : p.getD (idx F ([0, 1, 2], [])) 0 ≠ p.getD (idx F ([], [])) 0 := fun e => by
    have := (h.same ms mn e).2 98 (by decide)
    rw [E.b3, sf_nil] at this
    exact nbn this
  have hst : st = idx F ([0, 1, 2], []) := by rw [h.hst, E.s0]
  have hz := m0.2.2
  rw [hz] at nan nbn ncn nsn
  -- all states
  have hsub : ∀ x ∈ S, x ∈ [idx F ([0, 1, 2], []), idx F ([0, 1], [1]), idx F ([], [0]), idx F ([0, 1], [])] := by
    obtain ⟨m, _, e, _⟩ := h.s
    intro x hx
    rw [← e] at hx
    have hx2 := sGone_from _ _ _ m x hx
    clear hx
    have nxt' : ∀ (f : Fr), f ∈ F → ∀ y ∈ nx.getD (idx F f) [], ∃ c, c < 256 ∧ y = idx F (sf l c f) := by
      intro f hf y hy
      have e2 := get_idx hf
      rw [h.row (idx_lt hf)] at hy
      rw [List.getElem?_eq_getElem (idx_lt hf)] at e2
      injection e2 with e2
      rw [e2] at hy
      obtain ⟨g, hg, rfl⟩ := List.mem_map.1 hy
      unfold nxt at hg
      obtain ⟨c, hc, rfl⟩ := List.mem_map.1 hg
      exact ⟨c, bys_lt hc, rfl⟩
    induction hx2 with
    | base => rw [hst]; simp
    | step _ h2 h3 ih =>
      rename_i x y _
      simp only [List.mem_cons, List.not_mem_nil, or_false] at ih ⊢
      rcases ih with rfl | rfl | rfl | rfl
      · obtain ⟨c, hc, rfl⟩ := nxt' _ ms y h2
        by_cases e1 : c = 97
        · subst e1; rw [E.a3]; simp
        · by_cases e2 : c = 98
          · subst e2; rw [E.b3]; simp
          · rw [E.n3 c [] hc e1 e2, hz] at h3; exact absurd rfl h3
      · obtain ⟨c, hc, rfl⟩ := nxt' _ ma y h2
        by_cases e1 : c = 97
        · subst e1; rw [E.a2]; simp
        · by_cases e2 : c = 98
          · subst e2; rw [E.b2]; simp
          · rw [E.n2 c [1] hc e1 e2, hz] at h3; exact absurd rfl h3
      · obtain ⟨c, hc, rfl⟩ := nxt' _ mb y h2
        rw [sf_nil, hz] at h3
        exact absurd rfl h3
      · obtain ⟨c, hc, rfl⟩ := nxt' _ mc y h2
        by_cases e1 : c = 97
        · subst e1; rw [E.a2]; simp
        · by_cases e2 : c = 98
          · subst e2; rw [E.b2]; simp
          · rw [E.n2 c [] hc e1 e2, hz] at h3; exact absurd rfl h3
  have hnd : S.Nodup := by
    have hn := h.s_nodup
    refine List.pairwise_iff_getElem.2 fun i j hi hj hij e => ?_
    refine (List.pairwise_iff_getElem.1 hn) i j (by rw [List.length_map]; exact hi) (by rw [List.length_map]; exact hj) hij ?_
    rw [List.getElem_map, List.getElem_map, e]
  have h4 := hnd.length_le_of_subset hsub
  -- each is there
  have cov : ∀ (f : Fr), f ∈ F → (∃ g ∈ F, ∃ c, c < 256 ∧ sf l c g = f ∧ p.getD (idx F g) 0 ∈ S.map (fun k => p.getD k 0)) → p.getD (idx F f) 0 ≠ p.getD 0 0 → p.getD (idx F f) 0 ∈ S.map (fun k => p.getD k 0) := by
    rintro f hf ⟨g, hg, c, hc, rfl, hS⟩ hne
    obtain ⟨s, hs, e⟩ := List.mem_map.1 hS
    obtain ⟨j, hj, rfl⟩ := List.getElem_of_mem hs
    have hsl := h.s_lt _ (List.getElem_mem hj)
    have hgl : idx F g < nx.length := by rw [h.len]; exact idx_lt hg
    have hk := kl_lt l hc
    have hkr : kl l c < (nx.getD S[j] []).length := by rw [h.wide hsl]; exact hk
    have h1 := h.s_closed hj _ (List.getElem_mem hkr)
    have h2 := h.one hsl hgl e hk
    rw [h.stepD hg hc, ← get_getD _ hkr] at h2
    rcases h1 with h1 | h1
    · exact absurd (h2.symm.trans h1) hne
    · rw [← h2]
      exact h1
  have Is : p.getD (idx F ([0, 1, 2], [])) 0 ∈ S.map (fun k => p.getD k 0) := by
    obtain ⟨h0, e0⟩ := h.s_zero
    exact List.mem_map.2 ⟨S[0], List.getElem_mem h0, by rw [e0, hst]⟩
  have Ia := cov _ ma ⟨_, ms, 97, by decide, E.a3 [], Is⟩ nan
  have Ib := cov _ mb ⟨_, ms, 98, by decide, E.b3 [], Is⟩ nbn
  have Ic := cov _ mc ⟨_, ma, 97, by decide, E.a2 [1], Ia⟩ ncn
  have hnd4 : [p.getD (idx F ([0, 1, 2], [])) 0, p.getD (idx F ([0, 1], [1])) 0, p.getD (idx F ([], [0])) 0, p.getD (idx F ([0, 1], [])) 0].Nodup := by
    simp only [List.nodup_cons, List.mem_cons, List.not_mem_nil, or_false, not_or, List.nodup_nil, and_true, not_false_eq_true]
    exact ⟨⟨nas.symm, nbs.symm, ncs.symm⟩, ⟨nab, nac⟩, nbc⟩
  have h5 := hnd4.length_le_of_subset (l₂ := S.map (fun k => p.getD k 0)) (fun x hx => by
    simp only [List.mem_cons, List.not_mem_nil, or_false] at hx
    rcases hx with rfl | rfl | rfl | rfl
    · exact Is
    · exact Ia
    · exact Ib
    · exact Ic)
  simp at h4 h5
  omega
end Df
end Go.Proofs.Ythapedadnbkgnaa
namespace Go.Proofs.Ythapedadnbkgnaa
set_option linter.unusedVariables false
set_option linter.unusedSimpArgs false
open Go.RowKit
open Go.Maps (Keyed)
def Df.By (t : List Nat) : Prop := ∀ c ∈ t, c < 256
theorem Df.text_by (l : List Int) : Df.By (Df.text l) := by
  intro c hc
  simp only [Df.text, List.mem_flatMap] at hc
  obtain ⟨z, _, hc⟩ := hc
  simp only [Df.two, List.mem_cons, List.not_mem_nil, or_false] at hc
  omega
theorem Df.str_inj : ∀ {a b : List Nat}, Df.By a → Df.By b → Df.str a = Df.str b → a = b := by
  intro a b ha hb h
  have h1 := congrArg (fun s : ByteArray => s.data.toList.map fun x => x.toNat) h
  have key : ∀ {t : List Nat}, Df.By t → (Df.str t).data.toList.map (fun x => x.toNat) = t := by
    intro t ht
    unfold Df.str
    rw [strOfNums_data, List.map_map, List.map_map]
    rw [List.map_congr_left (g := id)]
    · simp
    · intro c hc
      have := ht c hc
      simp
      omega
  rw [← key ha, ← key hb]
  exact h1
def Df.kk (t : List Nat) : Lit := .string (Df.str t).data.toList
theorem Df.kk_inj {a b : List Nat} (ha : Df.By a) (hb : Df.By b) (h : Df.kk a = Df.kk b) : a = b := by
  unfold Df.kk at h
  injection h with h
  refine Df.str_inj ha hb ?_
  cases ea : Df.str a with
  | mk d => cases eb : Df.str b with
    | mk d' =>
      rw [ea, eb] at h
      congr 1
      exact Array.ext' h
theorem Df.str_size (t : List Nat) : (Df.str t).size = t.length := by unfold Df.str; rw [strOfNums_size]; simp
theorem Df.kk_of (t : List Nat) (h : t.length ≤ maxLen) : keyOf Try.prog 9 (.string (Df.str t)) = some (Df.kk t)   := WideMaps.keyOf_string_mk Try.underlying9 (by rw [Df.str_size]; exact h)
theorem Df.kk_lit (t : List Nat) : WideAt.IsKeyLit (Df.kk t) := trivial
theorem Df.keyed : Keyed Try.prog 9 := Maps.string_keyed Try.underlying9
structure Df.NInv (ks : List (List Nat)) (D : DataW Unit) : Prop where
  has : ∀ t, Df.By t → Maps.has D (Df.kk t) = decide (t ∈ ks)
  at' : ∀ t, t ∈ ks → ∀ z, D.atKey (Df.kk t) z = .lit (.int .i64 (Df.idx ks t : Nat))
  size : Maps.size D = ks.length
  by' : ∀ t ∈ ks, Df.By t
theorem Df.ninv_nil : Df.NInv [] (.map []) := ⟨fun t _ => by simp [Maps.has_eq], fun t h => by simp at h, rfl, fun t h => by simp at h⟩
theorem Df.NInv.new {ks : List (List Nat)} {D : DataW Unit} (h : Df.NInv ks D) (hD : Maps.Tidy D) {t : List Nat} (ht : Df.By t) (hn : t ∉ ks) : Df.NInv (ks ++ [t]) (D.put (Df.kk t) (.lit (.int .i64 (ks.length : Nat)))) := by
  have hne : ∀ x, x ∈ ks → Df.kk x ≠ Df.kk t := fun x hx e => hn (by rw [← Df.kk_inj (h.by' x hx) ht e]; exact hx)
  refine ⟨fun x hx => ?_, fun x hx z => ?_, ?_, fun x hx => ?_⟩
  · by_cases e : x = t
    · subst e
      rw [Maps.has_put_same hD.isMap (Df.kk_lit _)]
      simp
    · rw [Maps.has_put_other (fun e2 => e (Df.kk_inj hx ht e2)), h.has x hx]
      simp [e]
  · rw [List.mem_append, List.mem_singleton] at hx
    rcases hx with hx | rfl
    · rw [Maps.atKey_put_other (hne x hx), h.at' x hx, Df.idx_snoc hx]
    · rw [Maps.atKey_put_same hD.isMap (Df.kk_lit _), Df.idx_new hn]
  · have h0 : Maps.has D (Df.kk t) = false := by rw [h.has t ht]; simp [hn]
    rw [Maps.size_put hD, h0, h.size]
    simp
  · rw [List.mem_append, List.mem_singleton] at hx
    rcases hx with hx | rfl
    · exact h.by' x hx
    · exact ht
def Df.Nm (w : World) (b : Nat) (ks : List (List Nat)) : Prop := ∃ D : DataW Unit, w.ownsMap Try.prog 9 (plainElem Try.prog 3) b ks.length D ∧ Df.NInv ks D
theorem Df.zeroInt (w : World) : (zeroValue 3).run Try.prog w = .ok (.int .i64 0) w := by kernel_rfl
theorem Df.wf_i64 {n : Nat} (h : n ≤ 1000000000) : (Lit.int .i64 (n : Int)).wf = true := by
  simp [Lit.wf, IntKind.min, IntKind.max, IntKind.signed, IntKind.bits]
  omega
def Df.NPost (w : World) (b : Nat) (ks : List (List Nat)) (t : List Nat) (e : Ending) (w' : World) : Prop := e = .returned (.int .i64 (Df.idx ks t : Nat)) ∧ Df.Nm w' b (Df.meet ks t) ∧ w.grownBy w' (some b)
set_option maxRecDepth 100000 in
set_option maxHeartbeats 1000000 in
theorem number_any (w : World) (b : Nat) (ks : List (List Nat)) (t : List Nat) (H : Df.Nm w b ks) (ht : Df.By t) (hl : t.length ≤ maxLen) (hk : ks.length ≤ 1000000) : Calls Try.prog 68 #[.map (some b), .string (Df.str t)] w (Df.NPost w b ks t) := by
  obtain ⟨D, hown, hI⟩ := H
  have hkey := Df.kk_of t hl
  have HKEY := Lib.hid hkey
  have HI := Lib.hid hI
  have hsz := hI.size
  have hhas := hI.has t ht
  clear hkey hI
  obtain ⟨s, hs⟩ : ∃ s, Df.str t = s := ⟨_, rfl⟩
  rw [hs] at HKEY ⊢
  clear hs
  go_enter Try.func68, Try.ntmps68
  by_cases hm : t ∈ ks
  · have hh : Maps.has D (Df.kk t) = true := by rw [hhas]; simp [hm]
    have HAT := Lib.hid (HI.out.at' t hm)
    have HM := Lib.hid hm
    have hown2 := hown
    clear hhas hm hsz
    go_wp2_with (at_lookup; refine wpList_lookup_own_ok_int _ rfl _ _ 71 rfl 9 3 .i64 Df.keyed Try.underlying71 Try.underlying3 (Df.zeroInt _) b ks.length D rfl hown _ (Df.kk t) rfl HKEY.out ?_; intro x hat hwx; have HX := Lib.hid hat; clear hat hwx)
    go_ret
    have hx : x = (Df.idx ks t : Nat) := by
      have h1 := HX.out
      rw [HAT.out] at h1
      simpa using h1.symm
    exact ⟨by rw [hx]; rfl, ⟨D, by unfold Df.meet; rw [if_pos HM.out]; exact hown2, by unfold Df.meet; rw [if_pos HM.out]; exact HI.out⟩, ⟨rfl, rfl, rfl, Nat.le_refl _, fun _ _ _ => rfl⟩⟩
  · have hh : Maps.has D (Df.kk t) = false := by rw [hhas]; simp [hm]
    have HM := Lib.hid hm
    have HNEW := Lib.hid (HI.out.new (hown.tidy Df.keyed) ht hm)
    have hcm : ks.length < maxLen := by unfold maxLen; omega
    have HVAL := Lib.hid (plainElem_int (H := Unit) Try.underlying3 (Df.wf_i64 (n := ks.length) (by omega)))
    clear hhas hm
    go_wp2_with (first
      | (at_lookup; refine wpList_lookup_own_ok_int _ rfl _ _ 71 rfl 9 3 .i64 Df.keyed Try.underlying71 Try.underlying3 (Df.zeroInt _) b ks.length D rfl hown _ (Df.kk t) rfl HKEY.out ?_; intro x hat hwx; clear hat hwx)
      | (at_len; refine wpList_len_own _ rfl _ 71 rfl 9 3 Try.underlying71 _ b ks.length D rfl hown ?_)
      | (at_mapUpdate; refine wpList_mapUpdate_own _ rfl _ _ _ 71 rfl 9 3 Df.keyed Try.underlying71 _ b ks.length D rfl hown hcm _ _ (Df.kk t) rfl rfl HKEY.out (.lit (.int .i64 (ks.length : Nat))) [] HVAL.out ?_; intro w1 hown1 hgrow1; have HO1 := Lib.hid hown1; have HG1 := Lib.hid hgrow1; clear hown1 hgrow1))
    go_ret
    have hme : Df.meet ks t = ks ++ [t] := by unfold Df.meet; rw [if_neg HM.out]
    refine ⟨by rw [Df.idx_none HM.out]; rfl, ⟨_, ?_, by rw [hme]; exact HNEW.out⟩, HG1.out⟩
    rw [hme, List.length_append]
    exact HO1.out
end Go.Proofs.Ythapedadnbkgnaa
namespace Go.Proofs.Ythapedadnbkgnaa
set_option linter.unusedVariables false
set_option linter.unusedSimpArgs false
open Go.RowKit
set_option maxRecDepth 100000 in
set_option maxHeartbeats 1000000 in
theorem frontText_any (os rs : List Int) (vo vr vn : Value) (w : World) (ho : Nf.Row w (fun _ => True) vo os) (hr : Nf.Row w (fun _ => True) vr rs) (hn : ∃ a n c, vn = .slice a n c) (hb : Df.Ok (Df.key os rs)) (hl : os.length + rs.length ≤ 50000) :
    Calls Try.prog 69 #[.agg #[vo, vr, vn]] w fun e w' => e = .returned (.string (Df.str (Df.text (Df.key os rs)))) ∧ Below w.heap.size w w' := by
  obtain ⟨a1, n1, c1, rfl⟩ := ho.form
  obtain ⟨a2, n2, c2, rfl⟩ := hr.form
  obtain ⟨a3, n3, c3, rfl⟩ := hn
  have HO := Lib.hid ho
  have HR := Lib.hid hr
  have HB := Lib.hid hb
  have HL := Lib.hid hl
  have B1 := Bs.below1 w (.cells #[.slice a1 n1 c1, .slice a2 n2 c2, .slice a3 n3 c3] 119)
  have B2 := Bs.below_up B1 (Bs.below1 _ (.cells #[.int .i64 (-1)] 3))
  have B3 := Bs.below_up B2 (Bs.below1 _ (.cells #[.slice a1 n1 c1, .slice (some ⟨w.heap.size + 1, 0, none⟩) 1 1, .slice a2 n2 c2] 38))
  have hS : Ng.Sv (((w.alloc (.cells #[.slice a1 n1 c1, .slice a2 n2 c2, .slice a3 n3 c3] 119)).alloc (.cells #[.int .i64 (-1)] 3)).alloc (.cells #[.slice a1 n1 c1, .slice (some ⟨w.heap.size + 1, 0, none⟩) 1 1, .slice a2 n2 c2] 38)) (some ⟨w.heap.size + 1 + 1, 0, none⟩) [.slice a1 n1 c1, .slice (some ⟨w.heap.size + 1, 0, none⟩) 1 1, .slice a2 n2 c2] := by
    intro i hi
    refine ⟨_, rfl, ?_⟩
    match i, hi with
    | 0, _ => simp [go_sem]
    | 1, _ => simp [go_sem]
    | 2, _ => simp [go_sem]
  have hM : Nf.Row (((w.alloc (.cells #[.slice a1 n1 c1, .slice a2 n2 c2, .slice a3 n3 c3] 119)).alloc (.cells #[.int .i64 (-1)] 3)).alloc (.cells #[.slice a1 n1 c1, .slice (some ⟨w.heap.size + 1, 0, none⟩) 1 1, .slice a2 n2 c2] 38)) (fun _ => True) (.slice (some ⟨w.heap.size + 1, 0, none⟩) 1 1) [-1] := by
    refine ⟨_, _, rfl, Nat.le_refl _, (fun e => by cases e), fun i hi => ?_, fun _ _ _ => trivial⟩
    have : i = 0 := by simpa using hi
    subst this
    exact ⟨_, rfl, by simp [go_sem]⟩
  have hR : Df.Rws (((w.alloc (.cells #[.slice a1 n1 c1, .slice a2 n2 c2, .slice a3 n3 c3] 119)).alloc (.cells #[.int .i64 (-1)] 3)).alloc (.cells #[.slice a1 n1 c1, .slice (some ⟨w.heap.size + 1, 0, none⟩) 1 1, .slice a2 n2 c2] 38)) [.slice a1 n1 c1, .slice (some ⟨w.heap.size + 1, 0, none⟩) 1 1, .slice a2 n2 c2] [os, [-1], rs] := by
    refine ⟨rfl, fun i h1 h2 => ?_⟩
    match i, h1, h2 with
    | 0, _, _ => exact ho.up B3
    | 1, _, _ => exact hM
    | 2, _, _ => exact hr.up B3
  have HF := Lib.hid (show ([os, [-1], rs] : List (List Int)).flatten = Df.key os rs by simp [Df.key])
  have HLK := Lib.hid (show (Df.key os rs).length ≤ 100000 by simp [Df.key]; omega)
  have C := Lib.hid (concatI_any _ _ _ 3 3 _ rfl hS hR (by simp; omega) (by omega))
  have A3 := Lib.hid B3
  clear ho hr hb hl B1 B2 B3 hS hM hR HO HR
  go_enter Try.func69, Try.ntmps69
  go_wp2_with fail
  generalize (((w.alloc (.cells #[.slice a1 n1 c1, .slice a2 n2 c2, .slice a3 n3 c3] 119)).alloc (.cells #[.int .i64 (-1)] 3)).alloc (.cells #[.slice a1 n1 c1, .slice (some ⟨w.heap.size + 1, 0, none⟩) 1 1, .slice a2 n2 c2] 38)) = W at *
  refine C.out.mono ?_
  rintro e w1 ⟨v1, rfl, o1, b1⟩
  rw [HF.out] at o1
  have HA1 := Lib.hid (Bs.below_up A3.out b1)
  have C2 := Lib.hid (textOf_any (Df.key os rs) v1 w1 (o1.row (fun _ _ => trivial)) HLK.out HB.out)
  clear o1 b1 C
  go_wp2_with fail
  refine C2.out.mono ?_
  rintro e w2 ⟨rfl, b2⟩
  have HA2 := Lib.hid (Bs.below_up HA1.out b2)
  clear b2 C2
  go_wp2_with fail
  go_ret
  exact ⟨rfl, HA2.out⟩
set_option maxRecDepth 100000 in
set_option maxHeartbeats 1000000 in
theorem frontRule_any (os rs : List Int) (vo vr vn : Value) (w : World) (ho : Nf.Row w (fun _ => True) vo os) (hr : Nf.Row w (fun _ => True) vr rs) (hn : ∃ a n c, vn = .slice a n c) (hl : rs.length ≤ 1000000) :
    Calls Try.prog 55 #[.agg #[vo, vr, vn]] w fun e w' => e = .returned (.int .i64 (if (Nf.rule rs).2 then (Nf.rule rs).1 else -1)) ∧ Below w.heap.size w w' := by
  obtain ⟨a1, n1, c1, rfl⟩ := ho.form
  obtain ⟨a2, n2, c2, rfl⟩ := hr.form
  obtain ⟨a3, n3, c3, rfl⟩ := hn
  have A := Bs.below1 w (.cells #[.slice a1 n1 c1, .slice a2 n2 c2, .slice a3 n3 c3] 119)
  have HO := Lib.hid (ho.up A)
  have HR := Lib.hid (hr.up A)
  have HL := Lib.hid hl
  have HA := Lib.hid A
  clear ho hr hl A
  obtain ⟨⟨x, b⟩, hp⟩ : ∃ p, p = Nf.rule rs := ⟨_, rfl⟩
  have C := Lib.hid (fun (W : World) (h1 : Nf.Row W (fun _ => True) (.slice a1 n1 c1) os) (h2 : Nf.Row W (fun _ => True) (.slice a2 n2 c2) rs) => rule_any rs _ _ W os h1 h2 HL.out)
  rw [← hp] at C ⊢
  clear hp
  go_enter Try.func55, Try.ntmps55
  go_wp2_with fail
  generalize w.alloc (.cells #[.slice a1 n1 c1, .slice a2 n2 c2, .slice a3 n3 c3] 119) = W at *
  refine (C.out _ HO.out HR.out).mono ?_
  rintro e w1 ⟨rfl, b1⟩
  have HA2 := Lib.hid (Bs.below_up HA.out b1)
  clear b1
  clear C
  cases b
  · go_wp2_with fail
    go_ret
    exact ⟨rfl, HA2.out⟩
  · go_wp2_with fail
    go_ret
    exact ⟨rfl, HA2.out⟩
end Go.Proofs.Ythapedadnbkgnaa
