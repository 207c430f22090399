/- The chapter's example of layer 7: plain facts. The chapter's example of layer 7, and Great, walked. The chapter's example of layer 7, walked. The law NfaSteps, walked. -/
import Derived.Test.YtnbbepgjpfhjdaaG25
import Derived.Test.YtnbbepgjpfhjdaaG31
import Derived.Test.YtnbbepgjpfhjdaaG6
import Derived.Test.YtnbbepgjpfhjdaaG27
import Derived.Test.YtnbbepgjpfhjdaaG28
namespace Go.Proofs.Ytnbbepgjpfhjdaa
set_option linter.unusedVariables false
set_option linter.unusedSimpArgs false
open Go.RowKit
def Ng.isAB : Option Rx → Bool
  | some (.node 2 _ [.node 4 _ [.node 1 f2 []], .node 1 f3 []]) => f2 97 && !f2 98 && !f3 97 && f3 98
  | _ => false
def Ng.isA : Option Rx → Bool
  | some (.node 1 f []) => f 97 && !f 98
  | _ => false
theorem Ng.ex_ab : Ng.isAB (Px.parse ⟨#[97, 42, 98]⟩) = true := by decide +kernel
theorem Ng.ex_a : Ng.isA (Px.parse ⟨#[97]⟩) = true := by decide +kernel
theorem Ng.ex_code1 : Px.code ⟨#[97, 42, 98]⟩ = 0 := by decide +kernel
theorem Ng.ex_code2 : Px.code ⟨#[97]⟩ = 0 := by decide +kernel
theorem Ng.isAB_form {x : Rx} (h : Ng.isAB (some x) = true) : ∃ f0 f1 f2 f3, x = .node 2 f0 [.node 4 f1 [.node 1 f2 []], .node 1 f3 []] ∧ f2 97 = true ∧ f2 98 = false ∧ f3 97 = false ∧ f3 98 = true := by
  unfold Ng.isAB at h
  split at h
  · rename_i e
    injection e with e
    simp only [Bool.and_eq_true, Bool.not_eq_true'] at h
    exact ⟨_, _, _, _, e, h.1.1.1, h.1.1.2, h.1.2, h.2⟩
  · simp at h
theorem Ng.isA_form {x : Rx} (h : Ng.isA (some x) = true) : ∃ f, x = .node 1 f [] ∧ f 97 = true ∧ f 98 = false := by
  unfold Ng.isA at h
  split at h
  · rename_i e
    injection e with e
    simp only [Bool.and_eq_true, Bool.not_eq_true'] at h
    exact ⟨_, e, h.1, h.2⟩
  · simp at h
structure Ng.Ex (l : List Rx) : Prop where
  num : Nf.onesL l = 3
  so : ∀ p, (∃ r, Nf.rfst l r p) ↔ p = 0 ∨ p = 1 ∨ p = 2
  sr : ∀ r, ¬ Nf.remp l r
  ao : ∀ p, (∃ k : Nat, (k : Int) ∈ [(0 : Int), 1, 2] ∧ Nf.onL l k 97 ∧ Nf.folA l k p) ↔ p = 0 ∨ p = 1
  ar : ∀ q, (∃ k : Nat, (k : Int) ∈ [(0 : Int), 1, 2] ∧ Nf.onL l k 97 ∧ Nf.rlst l q k) ↔ q = 1
  bo : ∀ p, ¬ ∃ k : Nat, (k : Int) ∈ [(0 : Int), 1] ∧ Nf.onL l k 98 ∧ Nf.folA l k p
  br : ∀ q, (∃ k : Nat, (k : Int) ∈ [(0 : Int), 1] ∧ Nf.onL l k 98 ∧ Nf.rlst l q k) ↔ q = 0
theorem Ng.ex {x y : Rx} (hx : Ng.isAB (some x) = true) (hy : Ng.isA (some y) = true) : Ng.Ex [x, y] := by
  obtain ⟨f0, f1, f2, f3, rfl, h1, h2, h3, h4⟩ := Ng.isAB_form hx
  obtain ⟨f, rfl, h5, h6⟩ := Ng.isA_form hy
  have o1 : ∀ c, Nf.onL [.node 2 f0 [.node 4 f1 [.node 1 f2 []], .node 1 f3 []], .node 1 f []] 0 c ↔ f2 c = true := fun c => by simp [Nf.onL, Rx.setsL, Rx.sets]
  have o2 : ∀ c, Nf.onL [.node 2 f0 [.node 4 f1 [.node 1 f2 []], .node 1 f3 []], .node 1 f []] 1 c ↔ f3 c = true := fun c => by simp [Nf.onL, Rx.setsL, Rx.sets]
  have o3 : ∀ c, Nf.onL [.node 2 f0 [.node 4 f1 [.node 1 f2 []], .node 1 f3 []], .node 1 f []] 2 c ↔ f c = true := fun c => by simp [Nf.onL, Rx.setsL, Rx.sets]
  have w1 : ∀ p, Nf.folA [.node 2 f0 [.node 4 f1 [.node 1 f2 []], .node 1 f3 []], .node 1 f []] 0 p ↔ p = 0 ∨ p = 1 := fun p => by
    simp [Nf.folA, Nf.fol, Nf.folC, Nf.lst, Nf.lstA, Nf.fst, Nf.fstA, Nf.fstC, Nf.ones, Nf.onesL]
  have w2 : ∀ p, ¬ Nf.folA [.node 2 f0 [.node 4 f1 [.node 1 f2 []], .node 1 f3 []], .node 1 f []] 1 p := fun p => by
    simp [Nf.folA, Nf.fol, Nf.folC, Nf.lst, Nf.lstA, Nf.fst, Nf.fstA, Nf.fstC, Nf.ones, Nf.onesL]
  have w3 : ∀ p, ¬ Nf.folA [.node 2 f0 [.node 4 f1 [.node 1 f2 []], .node 1 f3 []], .node 1 f []] 2 p := fun p => by
    simp [Nf.folA, Nf.fol, Nf.folC, Nf.lst, Nf.lstA, Nf.fst, Nf.fstA, Nf.fstC, Nf.ones, Nf.onesL]
  have q0 : ∀ r k, Nf.rlst [.node 2 f0 [.node 4 f1 [.node 1 f2 []], .node 1 f3 []], .node 1 f []] r k ↔ (r = 0 ∧ k = 1) ∨ (r = 1 ∧ k = 2) := fun r k => by
    match r with
    | 0 => simp [Nf.rlst, Nf.lst, Nf.lstC, Nf.lstA, Nf.ones, Nf.onesL, Rx.empC, Rx.emp]
    | 1 => simp [Nf.rlst, Nf.lst, Nf.lstC, Nf.lstA, Nf.ones, Nf.onesL, Rx.empC, Rx.emp]
    | r + 2 => simp [Nf.rlst]
  have g0 : ∀ r p, Nf.rfst [.node 2 f0 [.node 4 f1 [.node 1 f2 []], .node 1 f3 []], .node 1 f []] r p ↔ (r = 0 ∧ (p = 0 ∨ p = 1)) ∨ (r = 1 ∧ p = 2) := fun r p => by
    match r with
    | 0 => simp [Nf.rfst, Nf.fst, Nf.fstC, Nf.fstA, Nf.ones, Nf.onesL, Rx.emp]
    | 1 => simp [Nf.rfst, Nf.fst, Nf.fstC, Nf.fstA, Nf.ones, Nf.onesL, Rx.emp]
    | r + 2 => simp [Nf.rfst]
  have m3 : ∀ k : Nat, (k : Int) ∈ [(0 : Int), 1, 2] ↔ k = 0 ∨ k = 1 ∨ k = 2 := fun k => by simp; omega
  have m2 : ∀ k : Nat, (k : Int) ∈ [(0 : Int), 1] ↔ k = 0 ∨ k = 1 := fun k => by simp; omega
  refine ⟨by simp [Nf.onesL, Nf.ones], fun p => ?_, fun r hr => ?_, fun p => ?_, fun q => ?_, fun p => ?_, fun q => ?_⟩
  · constructor
    · rintro ⟨r, h⟩
      rcases (g0 r p).1 h with ⟨_, h | h⟩ | ⟨_, h⟩ <;> omega
    · rintro (h | h | h)
      · exact ⟨0, (g0 _ _).2 (.inl ⟨rfl, .inl h⟩)⟩
      · exact ⟨0, (g0 _ _).2 (.inl ⟨rfl, .inr h⟩)⟩
      · exact ⟨1, (g0 _ _).2 (.inr ⟨rfl, h⟩)⟩
  · match r, hr with
    | 0, hr => simp [Nf.remp, Rx.emp, Rx.empC] at hr
    | 1, hr => simp [Nf.remp, Rx.emp] at hr
    | r + 2, hr => simp [Nf.remp] at hr
  · constructor
    · rintro ⟨k, hk, ho, hf⟩
      rcases (m3 k).1 hk with rfl | rfl | rfl
      · exact (w1 p).1 hf
      · exact absurd hf (w2 p)
      · exact absurd hf (w3 p)
    · intro h
      exact ⟨0, (m3 0).2 (.inl rfl), (o1 97).2 h1, (w1 p).2 h⟩
  · constructor
    · rintro ⟨k, hk, ho, hf⟩
      rcases (m3 k).1 hk with rfl | rfl | rfl
      · rcases (q0 q 0).1 hf with ⟨_, h⟩ | ⟨_, h⟩ <;> omega
      · rw [(o2 97), h3] at ho; simp at ho
      · rcases (q0 q 2).1 hf with ⟨_, h⟩ | ⟨h, _⟩
        · omega
        · exact h
    · intro h
      exact ⟨2, (m3 2).2 (.inr (.inr rfl)), (o3 97).2 h5, (q0 q 2).2 (.inr ⟨h, rfl⟩)⟩
  · rintro ⟨k, hk, ho, hf⟩
    rcases (m2 k).1 hk with rfl | rfl
    · rw [(o1 98), h2] at ho; simp at ho
    · exact absurd hf (w2 p)
  · constructor
    · rintro ⟨k, hk, ho, hf⟩
      rcases (m2 k).1 hk with rfl | rfl
      · rw [(o1 98), h2] at ho; simp at ho
      · rcases (q0 q 1).1 hf with ⟨h, _⟩ | ⟨_, h⟩
        · exact h
        · omega
    · intro h
      exact ⟨1, (m2 1).2 (.inr rfl), (o2 98).2 h4, (q0 q 1).2 (.inl ⟨h, rfl⟩)⟩
theorem Ng.ex_size {x y : Rx} (hx : Ng.isAB (some x) = true) (hy : Ng.isA (some y) = true) : Rx.sizeL [x, y] = 5 := by
  obtain ⟨f0, f1, f2, f3, rfl, _⟩ := Ng.isAB_form hx
  obtain ⟨f, rfl, _⟩ := Ng.isA_form hy
  simp [Rx.sizeL, Rx.size]
theorem Ng.rise3 : Nf.Rise [0, 1, 2] (fun p => p = 0 ∨ p = 1 ∨ p = 2) := ⟨by simp, fun x hx => by simp at hx; omega, fun p => by simp; omega⟩
theorem Ng.rise2 : Nf.Rise [0, 1] (fun p => p = 0 ∨ p = 1) := ⟨by simp, fun x hx => by simp at hx; omega, fun p => by simp; omega⟩
theorem Ng.riseA : Nf.Rise [1] (fun p => p = 1) := ⟨by simp, fun x hx => by simp at hx; omega, fun p => by simp; omega⟩
theorem Ng.riseB : Nf.Rise [0] (fun p => p = 0) := Nf.rise_zero
open Go.RowKit
theorem Ng.in_of {w w' : World} {x : Rx} {k : Nat} {f : Nat → Bool} {a : Option Addr} {n cap : Nat} {p : Addr} (h : Rx.Is w x (Rx.hdr k f a n cap)) (hb : Below w.heap.size w w') (hc : Rx.Cell w' p k f a n cap) : Rx.In w' x p := by
  cases x with
  | node k' f' l =>
    obtain ⟨hk, a', cap', e, hl⟩ := h
    unfold Rx.hdr at e
    injection e with e
    have e1 := congrArg Array.toList e
    simp only [List.cons.injEq, and_true] at e1
    obtain ⟨e0, e1, e2, e3, e4, e5⟩ := e1
    obtain ⟨c0, c1, c2, c3, c4, c5⟩ := hc
    rw [e0] at c0; rw [e1] at c1; rw [e2] at c2; rw [e3] at c3; rw [e4] at c4; rw [e5] at c5
    exact ⟨hk, a', cap', ⟨c0, c1, c2, c3, c4, c5⟩, hl.up hb⟩
theorem Ng.two_in {w : World} {x y : Rx} {k1 : Nat} {f1 : Nat → Bool} {a1 : Option Addr} {n1 c1 : Nat} {k2 : Nat} {f2 : Nat → Bool} {a2 : Option Addr} {n2 c2 : Nat} (h1 : Rx.Is w x (Rx.hdr k1 f1 a1 n1 c1)) (h2 : Rx.Is w y (Rx.hdr k2 f2 a2 n2 c2)) :
    Rx.InL (w.alloc (.cells #[.int .u8 k1, .int .u64 (Bs.word f1 0), .int .u64 (Bs.word f1 1), .int .u64 (Bs.word f1 2), .int .u64 (Bs.word f1 3), .slice a1 n1 c1, .int .u8 k2, .int .u64 (Bs.word f2 0), .int .u64 (Bs.word f2 1), .int .u64 (Bs.word f2 2), .int .u64 (Bs.word f2 3), .slice a2 n2 c2] 54)) [x, y] (some ⟨w.heap.size, 0, none⟩) 0 := by
  have hb := Bs.below1 w (.cells #[.int .u8 k1, .int .u64 (Bs.word f1 0), .int .u64 (Bs.word f1 1), .int .u64 (Bs.word f1 2), .int .u64 (Bs.word f1 3), .slice a1 n1 c1, .int .u8 k2, .int .u64 (Bs.word f2 0), .int .u64 (Bs.word f2 1), .int .u64 (Bs.word f2 2), .int .u64 (Bs.word f2 3), .slice a2 n2 c2] 54)
  refine ⟨⟨_, rfl, Ng.in_of h1 hb ⟨?_, ?_, ?_, ?_, ?_, ?_⟩⟩, ⟨_, rfl, Ng.in_of h2 hb ⟨?_, ?_, ?_, ?_, ?_, ?_⟩⟩, trivial⟩
  all_goals simp [go_sem, Addr.add]
theorem Ng.row_lit (w : World) (ns : List Int) (cs : Array Value) (hcs : cs = (ns.map (Value.int .i64)).toArray) (n : Nat) (hn : n = ns.length) (b : Nat) (hb : b = w.heap.size) : Nf.Row (w.alloc (.cells cs 3)) (fun _ => True) (.slice (some ⟨b, 0, none⟩) n n) ns := by
  subst hcs; subst hn; subst hb
  refine ⟨some ⟨w.heap.size, 0, none⟩, ns.length, rfl, Nat.le_refl _, fun e => by simp at e, fun i hi => ⟨_, rfl, ?_⟩, fun _ _ _ => trivial⟩
  have := World.news_of_block (heap_alloc_new w (.cells (ns.map (Value.int .i64)).toArray 3)) i (.int .i64 ns[i]) (by simp [hi])
  exact this
def Ng.sum : List Rx → Nat
  | [] => 0
  | x :: r => (x.cnt 1).getD 0 + Ng.sum r
theorem Ng.sum_snoc : ∀ (l : List Rx) (x : Rx), Ng.sum (l ++ [x]) = Ng.sum l + (x.cnt 1).getD 0
  | [], x => by simp [Ng.sum]
  | y :: r, x => by rw [List.cons_append, Ng.sum, Ng.sum, Ng.sum_snoc r]; omega
theorem Ng.cnt_le (x : Rx) : (x.cnt 1).getD 0 ≤ 400 := by
  rw [Rx.cnt_eq x 1 (Nat.le_refl _)]
  split
  · rename_i h
    exact (Rx.may_iff.1 h).2.2
  · simp
theorem Ng.sum_le : ∀ l : List Rx, Ng.sum l ≤ 400 * l.length
  | [] => by simp [Ng.sum]
  | x :: r => by
    have := Ng.cnt_le x
    have := Ng.sum_le r
    simp only [Ng.sum, List.length_cons]
    omega
def Ng.great (l : List Rx) : Bool := decide (40 < l.length) || (decide (120 < Ng.sum l) && decide (Ng.sum l ≤ 2000))
set_option maxRecDepth 100000 in
set_option maxHeartbeats 1000000 in
theorem great_any (l : List Rx) (hln : l.length ≤ maxLen) (al : Option Addr) (cap : Nat) (w : World) (hl : Rx.InL w l al 0) : Calls Try.prog 10 #[.slice al l.length cap] w (Bs.BPost w (Ng.great l)) := by
  unfold maxLen at hln
  have HG := Lib.hid (Ng.great.eq_def l)
  have HL := Lib.hid hl
  have HSL := Lib.hid (Ng.sum_le l)
  obtain ⟨n, hn⟩ : ∃ n, l.length = n := ⟨_, rfl⟩
  have HN := Lib.hid hn
  rw [hn] at hln HG HSL ⊢
  clear hl hn
  go_enter Try.func10, Try.ntmps10
  by_cases h40 : 40 < n
  · have e1 : decide ((40 : Int) < (n : Int)) = true := decide_eq_true (by omega)
    have e2 : decide (40 < n) = true := decide_eq_true h40
    rw [e2, Bool.true_or] at HG
    clear e2
    go_wp2_with fail
    go_ret
    exact ⟨by rw [HG.out]; rfl, Below.refl _ _⟩
  have e1 : decide ((40 : Int) < (n : Int)) = false := decide_eq_false (by omega)
  have e2 : decide (40 < n) = false := decide_eq_false h40
  rw [e2, Bool.false_or] at HG
  clear e2
  go_wp2_with fail
  clear e1
  go_loopw [3, 4] (fun r i wr => ∃ q : Nat, q ≤ n ∧ i = .int .i64 q ∧ r = .int .i64 (Ng.sum (l.take q) : Nat) ∧ Below w.heap.size w wr) (fun _ i _ => n - (intOf i).toNat)
  case atStart => exact ⟨0, by omega, rfl, by simp [Ng.sum], Below.refl _ _⟩
  case round =>
    obtain ⟨q, hq, rfl, rfl, A⟩ := hrel
    by_cases hlt : q < n
    · have hlt' : q < l.length := by rw [HN.out]; exact hlt
      obtain ⟨p, rfl, hp⟩ := HL.out.get q hlt'
      rw [Nat.zero_add] at hp
      have hsl := Ng.sum_le (l.take q)
      rw [List.length_take] at hsl
      have HT := Lib.hid (show Ng.sum (l.take (q + 1)) = Ng.sum (l.take q) + ((l[q]).cnt 1).getD 0 by rw [List.take_succ_eq_append_getElem hlt', Ng.sum_snoc])
      have hcl := Ng.cnt_le l[q]
      generalize l[q] = y at *
      obtain ⟨k1, f1, a1, n1, cap1, ⟨x0, x1, x2, x3, x4, x5⟩, hi⟩ := hp.open
      replace x0 := Bs.cell_up A x0; replace x1 := Bs.cell_up A x1; replace x2 := Bs.cell_up A x2; replace x3 := Bs.cell_up A x3; replace x4 := Bs.cell_up A x4; replace x5 := Bs.cell_up A x5
      have C := Lib.hid (refCount_any y.size y (Nat.le_refl _) _ 1 wr (hi.up A) (by decide) (by decide))
      unfold Rx.hdr at C
      have i1 : (0 : Int) ≤ (q : Int) := by omega
      have i2 : (q : Int) < (n : Int) := by omega
      have e1 : decide ((q : Int) < (n : Int)) = true := decide_eq_true (by omega)
      have e2 : decide (q < n) = true := decide_eq_true hlt
      clear hp hi
      generalize Ng.sum (l.take q) = sm at *
      have hsm : sm ≤ 20000 := by omega
      clear hsl
      go_wp2_with fail
      refine C.out.mono ?_
      rintro e w1 ⟨rfl, b1⟩
      replace A := Bs.below_up A b1
      clear C b1 x0 x1 x2 x3 x4 x5
      cases hy : y.cnt 1 with
      | none =>
        rw [hy] at HT
        simp only [Option.getD_none, Nat.add_zero] at HT
        simp only [Rx.cntI]
        clear hy hcl
        go_wp2_with fail
        go_roundw
        case rel => exact ⟨q + 1, by omega, by go_num, by rw [HT.out], A⟩
        case measure => simp [intOf]; omega
      | some c =>
        rw [hy] at HT hcl
        simp only [Option.getD_some] at HT hcl
        simp only [Rx.cntI]
        clear hy
        have e3 : decide ((c : Int) < 0) = false := decide_eq_false (by omega)
        have i3 : IntKind.i64.wrap ((sm : Int) + (c : Int)) = ((sm + c : Nat) : Int) := by rw [IntWalk.i64_in _ (by omega)]; omega
        go_wp2_with fail
        go_roundw
        case rel => exact ⟨q + 1, by omega, by go_num, by rw [HT.out]; go_num, A⟩
        case measure => simp [intOf]; omega
    · have ht : l.take q = l := List.take_of_length_le (by rw [HN.out]; omega)
      rw [ht]
      have hsl := HSL.out
      generalize Ng.sum l = sm at *
      have e1 : decide ((q : Int) < (n : Int)) = false := decide_eq_false (by omega)
      have e2 : decide (q < n) = false := decide_eq_false hlt
      clear ht
      by_cases h1 : 120 < sm
      · have e3 : decide ((120 : Int) < (sm : Int)) = true := decide_eq_true (by omega)
        have e4 : decide (120 < sm) = true := decide_eq_true h1
        rw [e4, Bool.true_and] at HG
        clear e4
        by_cases h2 : sm ≤ 2000
        · have e5 : decide ((sm : Int) ≤ 2000) = true := decide_eq_true (by omega)
          have e6 : decide (sm ≤ 2000) = true := decide_eq_true h2
          rw [e6] at HG
          go_wp2_with fail
          go_ret
          exact ⟨by rw [HG.out]; rfl, A⟩
        · have e5 : decide ((sm : Int) ≤ 2000) = false := decide_eq_false (by omega)
          have e6 : decide (sm ≤ 2000) = false := decide_eq_false h2
          rw [e6] at HG
          go_wp2_with fail
          go_ret
          exact ⟨by rw [HG.out]; rfl, A⟩
      · have e3 : decide ((120 : Int) < (sm : Int)) = false := decide_eq_false (by omega)
        have e4 : decide (120 < sm) = false := decide_eq_false h1
        rw [e4, Bool.false_and] at HG
        go_wp2_with fail
        go_ret
        exact ⟨by rw [HG.out]; rfl, A⟩
open Go.RowKit
theorem Ng.build_yes {w w' : World} {l : List Rx} {e : Ending} (h : Ng.BuildPost w l e w') (hc : Ng.code l = 0) : ∃ r, e = .returned (.tuple #[.pointer (some ⟨r, 0, none⟩), .int .i64 0]) ∧ Ng.Mc w' w.heap.size r l ∧ Below w.heap.size w w' := by
  rcases h with ⟨_, r, tr, e1, h1, h2, h3⟩ | ⟨h, _⟩
  · exact ⟨r, e1, ⟨Ng.fits_of hc, tr, h1, h2⟩, h3⟩
  · exact absurd hc h
theorem Ng.build_no {w w' : World} {l : List Rx} {e : Ending} (h : Ng.BuildPost w l e w') (hc : Ng.code l ≠ 0) : e = .returned (.tuple #[.pointer none, .int .i64 (Ng.code l)]) ∧ Below w.heap.size w w' := by
  rcases h with ⟨h, _⟩ | ⟨_, h⟩
  · exact absurd h hc
  · exact h
set_option maxRecDepth 100000 in
set_option maxHeartbeats 2000000 in
theorem alive7_any (w : World) : Calls Try.prog 9 #[] w (Bs.BPost w true) := by
  go_enter Try.func9, Try.ntmps9
  have P := Lib.hid (Parse_any ⟨#[97, 42, 98]⟩ (by decide) w)
  go_wp2_with fail
  refine P.out.mono ?_
  rintro e v1 ⟨_, y1, rfl, hy, h1, h2, A⟩
  rw [Ng.ex_code1] at h1 h2 ⊢
  obtain ⟨k1, f1, a1, n1, c1, rfl⟩ := hy.form
  clear P h2
  have B := Bs.below1 v1 (.cells #[.int .u8 k1, .int .u64 (Bs.word f1 0), .int .u64 (Bs.word f1 1), .int .u64 (Bs.word f1 2), .int .u64 (Bs.word f1 3), .slice a1 n1 c1] 54)
  replace A := Bs.below_up A B
  have N1 := Rx.nod_new v1 k1 f1 a1 n1 c1
  have X1 := hy.is.up B
  have hh := h1 rfl
  have hab := Ng.ex_ab
  rw [hh.1] at hab
  have H1 := Lib.hid hab
  have M1 := Lib.hid hh.2
  clear B hy h1 hh hab
  unfold Rx.hdr
  go_wp2_with fail
  generalize v1.alloc (.cells #[.int .u8 k1, .int .u64 (Bs.word f1 0), .int .u64 (Bs.word f1 1), .int .u64 (Bs.word f1 2), .int .u64 (Bs.word f1 3), .slice a1 n1 c1] 54) = W1 at *
  generalize v1.heap.size = b1 at *
  have P := Lib.hid (Parse_any ⟨#[97]⟩ (by decide) W1)
  refine P.out.mono ?_
  rintro e v2 ⟨_, y2, rfl, hy, h1, h2, hb⟩
  rw [Ng.ex_code2] at h1 h2 ⊢
  obtain ⟨k2, f2, a2, n2, c2, rfl⟩ := hy.form
  clear P h2
  replace A := Bs.below_up A hb
  replace N1 := N1.up hb
  replace X1 := X1.up hb
  clear hb
  have B := Bs.below1 v2 (.cells #[.int .u8 k2, .int .u64 (Bs.word f2 0), .int .u64 (Bs.word f2 1), .int .u64 (Bs.word f2 2), .int .u64 (Bs.word f2 3), .slice a2 n2 c2] 54)
  replace A := Bs.below_up A B
  replace N1 := N1.up B
  replace X1 := X1.up B
  have N2 := Rx.nod_new v2 k2 f2 a2 n2 c2
  have X2 := hy.is.up B
  have hh := h1 rfl
  have hab := Ng.ex_a
  rw [hh.1] at hab
  have H2 := Lib.hid hab
  have M2 := Lib.hid hh.2
  clear B hy h1 hh hab
  have EX := Lib.hid (Ng.ex H1.out H2.out)
  have HCO := Lib.hid (show Ng.code [y1, y2] = 0 by
    have hs := Ng.ex_size H1.out H2.out
    have m1 := M1.out
    have m2 := M2.out
    simp [Ng.code, hs, m1, m2])
  have c0 := N1.cell.c0; have c1' := N1.cell.c1; have c2' := N1.cell.c2; have c3 := N1.cell.c3; have c4 := N1.cell.c4; have c5 := N1.cell.c5
  have d0 := N2.cell.c0; have d1 := N2.cell.c1; have d2 := N2.cell.c2; have d3 := N2.cell.c3; have d4 := N2.cell.c4; have d5 := N2.cell.c5
  simp only [Nat.zero_add] at c0 c1' c2' c3 c4 c5 d0 d1 d2 d3 d4 d5
  have HX1 := Lib.hid X1
  have HX2 := Lib.hid X2
  have HA := Lib.hid A
  clear N1 N2 X1 X2 A
  unfold Rx.hdr
  go_upto_region 3 with fail
  generalize v2.alloc (.cells #[.int .u8 k2, .int .u64 (Bs.word f2 0), .int .u64 (Bs.word f2 1), .int .u64 (Bs.word f2 2), .int .u64 (Bs.word f2 3), .slice a2 n2 c2] 54) = W2 at *
  generalize v2.heap.size = b2 at *
  have IL := Ng.two_in HX1.out HX2.out
  have B3 := Bs.below1 W2 (.cells #[.int .u8 k1, .int .u64 (Bs.word f1 0), .int .u64 (Bs.word f1 1), .int .u64 (Bs.word f1 2), .int .u64 (Bs.word f1 3), .slice a1 n1 c1, .int .u8 k2, .int .u64 (Bs.word f2 0), .int .u64 (Bs.word f2 1), .int .u64 (Bs.word f2 2), .int .u64 (Bs.word f2 3), .slice a2 n2 c2] 54)
  have C := Lib.hid (build_any [y1, y2] (by simp) (some ⟨W2.heap.size, 0, none⟩) 2 _ IL)
  have HA3 := Lib.hid (Bs.below_up HA.out B3)
  clear IL B3
  go_wp2_with fail
  refine C.out.mono ?_
  rintro e w3 hpo
  obtain ⟨r, rfl, MC, b3⟩ := Ng.build_yes hpo HCO.out
  have HMC := Lib.hid MC
  have HA4 := Lib.hid (Bs.below_up HA3.out b3)
  clear C MC hpo b3 c0 c1' c2' c3 c4 c5 d0 d1 d2 d3 d4 d5 HX1 HX2 HA HA3
  have C1 := Lib.hid (start_any w3 _ r _ HMC.out (fun _ => True) (fun _ _ => trivial))
  go_wp2_with fail
  refine C1.out.mono ?_
  rintro e w4 ⟨os, rs, ⟨p1, p2, rfl, R1, R2, b4⟩, h4, h5⟩
  obtain rfl := Nf.rise_eq (h4.congr EX.out.so) Ng.rise3
  obtain rfl := Nf.rise_eq h5 (Nf.rise_nil EX.out.sr)
  obtain ⟨q1, q2, q3, rfl⟩ := R1.form
  obtain ⟨q4, q5, q6, rfl⟩ := R2.form
  have C2 := Lib.hid (step_any w4 _ r _ (HMC.out.up b4) _ _ (.slice q4 q5 q6) R1 ⟨_, _, _, rfl⟩ (by simp) 97 (by decide) (fun _ => True) (fun _ _ => trivial))
  have HA5 := Lib.hid (Bs.below_up HA4.out b4)
  have HMC5 := Lib.hid (HMC.out.up b4)
  clear C1 R1 R2 b4 h4 h5 HMC HA4
  go_wp2_with fail
  refine C2.out.mono ?_
  rintro e w5 ⟨os, rs, ⟨p1, p2, rfl, R1, R2, b5⟩, h4, h5⟩
  obtain rfl := Nf.rise_eq (h4.congr EX.out.ao) Ng.rise2
  obtain rfl := Nf.rise_eq (h5.congr EX.out.ar) Ng.riseA
  obtain ⟨q1, q2, q3, rfl⟩ := R1.form
  obtain ⟨q4, q5, q6, rfl⟩ := R2.form
  have B6 := Bs.below1 w5 (.cells #[.slice q1 q2 q3, .slice q4 q5 q6] 37)
  have HA6 := Lib.hid (Bs.below_up (Bs.below_up HA5.out b5) B6)
  have HMC6 := Lib.hid ((HMC5.out.up b5).up B6)
  have HFB := Lib.hid (Nf.fb_new w5 (.slice q1 q2 q3) (.slice q4 q5 q6) 37)
  have HR1 := Lib.hid (R1.up B6)
  have HR2 := Lib.hid (R2.up B6)
  have C3 := Lib.hid (step_any _ _ r _ HMC6.out _ _ (.slice q4 q5 q6) HR1.out ⟨_, _, _, rfl⟩ (by simp) 98 (by decide) (fun _ => True) (fun _ _ => trivial))
  have g0 := HFB.out.c0; have g1 := HFB.out.c1
  clear C2 R1 R2 b5 h4 h5 HMC5 HA5 B6
  go_wp2_with fail
  generalize w5.alloc (.cells #[.slice q1 q2 q3, .slice q4 q5 q6] 37) = W6 at *
  generalize w5.heap.size = b6 at *
  refine C3.out.mono ?_
  rintro e w7 ⟨os, rs, ⟨p1, p2, rfl, R1, R2, b7⟩, h4, h5⟩
  obtain rfl := Nf.rise_eq h4 (Nf.rise_nil EX.out.bo)
  obtain rfl := Nf.rise_eq (h5.congr EX.out.br) Ng.riseB
  obtain ⟨z1, z2, z3, rfl⟩ := R1.form
  obtain ⟨z4, z5, z6, rfl⟩ := R2.form
  have B8 := Bs.below1 w7 (.cells #[.slice z1 z2 z3, .slice z4 z5 z6] 37)
  have HA8 := Lib.hid (Bs.below_up (Bs.below_up HA6.out b7) B8)
  have HMC8 := Lib.hid ((HMC6.out.up b7).up B8)
  have HFB7 := Lib.hid ((HFB.out.up b7).up B8)
  have HFB8 := Lib.hid (Nf.fb_new w7 (.slice z1 z2 z3) (.slice z4 z5 z6) 37)
  have HG1 := Lib.hid ((HR1.out.up b7).up B8)
  have HG2 := Lib.hid ((HR2.out.up b7).up B8)
  have HZ1 := Lib.hid (R1.up B8)
  have HZ2 := Lib.hid (R2.up B8)
  have C4 := Lib.hid (ones_any _ _ r _ HMC8.out)
  have C5 := Lib.hid (start_any _ _ r _ HMC8.out (fun _ => True) (fun _ _ => trivial))
  rw [EX.out.num] at C4
  clear C3 R1 R2 b7 h4 h5 HMC6 HA6 B8 HFB HR1 HR2 g0 g1
  go_wp2_with fail
  generalize w7.alloc (.cells #[.slice z1 z2 z3, .slice z4 z5 z6] 37) = W8 at *
  generalize w7.heap.size = b8 at *
  refine C4.out.mono ?_
  rintro e w9 ⟨rfl, rfl⟩
  clear C4
  go_wp2_with fail
  refine C5.out.mono ?_
  rintro e w10 ⟨os, rs, ⟨p1, p2, rfl, R1, R2, b10⟩, h4, h5⟩
  obtain rfl := Nf.rise_eq (h4.congr EX.out.so) Ng.rise3
  obtain rfl := Nf.rise_eq h5 (Nf.rise_nil EX.out.sr)
  obtain ⟨t1, t2, t3, rfl⟩ := R1.form
  obtain ⟨t4, t5, t6, rfl⟩ := R2.form
  have B11 := Bs.below1 w10 (.cells #[.int .i64 0, .int .i64 1, .int .i64 2] 3)
  have L1 := Ng.row_lit w10 [0, 1, 2] #[.int .i64 0, .int .i64 1, .int .i64 2] rfl 3 rfl w10.heap.size rfl
  have C6 := Lib.hid (refSameF_any [0, 1, 2] [] _ _ _ _ _ (R1.up B11) (R2.up B11) L1 (Ng.row_nil _ _) (by simp) (by simp))
  have HB11 := Lib.hid (Bs.below_up b10 B11)
  clear C5 R1 R2 b10 h4 h5 B11 L1
  go_wp2_with fail
  refine C6.out.mono ?_
  rintro e w11 ⟨rfl, b11⟩
  have bb := Bs.below_up HB11.out b11
  have g0 := (HFB7.out.up bb).c0; have g1 := (HFB7.out.up bb).c1
  have HB12 := Lib.hid bb
  have HW11 := Lib.hid (HFB8.out.up bb)
  clear C6 b11 HB11 bb
  have B13 := Bs.below2 w11 (.cells #[.int .i64 0, .int .i64 1] 3) (.cells #[.int .i64 1] 3)
  have L1 := (Ng.row_lit w11 [0, 1] #[.int .i64 0, .int .i64 1] rfl 2 rfl w11.heap.size rfl).up (Bs.below1 _ (.cells #[.int .i64 1] 3))
  have L2 := Ng.row_lit (w11.alloc (.cells #[.int .i64 0, .int .i64 1] 3)) [1] #[.int .i64 1] rfl 1 rfl (w11.heap.size + 1) (by simp)
  have C7 := Lib.hid (refSameF_any [0, 1] [1] _ _ _ _ _ ((HG1.out.up HB12.out).up B13) ((HG2.out.up HB12.out).up B13) L1 L2 (by simp) (by simp))
  have HB13 := Lib.hid (Bs.below_up HB12.out B13)
  clear L1 L2 B13
  go_wp2_with fail
  refine C7.out.mono ?_
  rintro e w14 ⟨rfl, b14⟩
  have bb := Bs.below_up HB13.out b14
  have g2 := (HFB8.out.up bb).c0; have g3 := (HFB8.out.up bb).c1
  have B15 := Bs.below1 w14 (.cells #[.int .i64 0] 3)
  have L1 := Ng.row_lit w14 [0] #[.int .i64 0] rfl 1 rfl w14.heap.size rfl
  have C8 := Lib.hid (refSameF_any [] [0] _ _ _ _ _ ((HZ1.out.up bb).up B15) ((HZ2.out.up bb).up B15) (Ng.row_nil _ _) L1 (by simp) (by simp))
  have HB15 := Lib.hid (Bs.below_up bb B15)
  clear L1 B15 bb C7 b14 HB13
  go_wp2_with fail
  refine C8.out.mono ?_
  rintro e w16 ⟨rfl, b16⟩
  have HB16 := Lib.hid (Bs.below_up HA8.out (Bs.below_up HB15.out b16))
  clear C8 b16
  go_wp2_with fail
  go_ret
  exact ⟨rfl, HB16.out⟩
end Go.Proofs.Ytnbbepgjpfhjdaa
namespace Go.Proofs.Ytnbbepgjpfhjdaa
set_option linter.unusedVariables false
set_option linter.unusedSimpArgs false
open Go.RowKit
theorem Nr.build_yes {w w' : World} {l : List Rx} {e : Ending} (h : Nr.BPost w l e w') (hc : Ng.code l = 0) : ∃ r vS vA v2 v3 As Ls so sr, e = .returned (.tuple #[.pointer (some ⟨r, 0, none⟩), .int .i64 0]) ∧ Nr.Mc w' r l vS vA v2 v3 As Ls so sr ∧ Below w.heap.size w w' := by
  unfold Nr.BPost at h
  rw [if_pos hc] at h
  exact h
theorem Nr.build_no {w w' : World} {l : List Rx} {e : Ending} (h : Nr.BPost w l e w') (hc : Ng.code l ≠ 0) : e = .returned (.tuple #[.pointer none, .int .i64 (Ng.code l)]) ∧ Below w.heap.size w w' := by
  unfold Nr.BPost at h
  rw [if_neg hc] at h
  exact h
def Nr.SP2 (v : Value) (u : World) (P R : Nat → Prop) : Prop := ∃ x y os rs, v = .agg #[x, y] ∧ Nf.Row u (fun _ => True) x os ∧ Nf.Row u (fun _ => True) y rs ∧ Nf.Rise os P ∧ Nf.Rise rs R
theorem Nr.SP2.up {v : Value} {u u' : World} {P R : Nat → Prop} (h : Nr.SP2 v u P R) (hb : Below u.heap.size u u') : Nr.SP2 v u' P R := by
  obtain ⟨x, y, os, rs, e, h1, h2, h3, h4⟩ := h
  exact ⟨x, y, os, rs, e, h1.up hb, h2.up hb, h3, h4⟩
theorem Nr.rule_le (fr : List Int) : ∀ y ∈ fr, (Nf.rule fr).1 ≤ y := by
  intro y hy
  cases fr with
  | nil => simp at hy
  | cons x r =>
    simp only [Nf.rule]
    have h := Nf.least_le r x
    simp only [List.mem_cons] at hy
    rcases hy with rfl | hy
    · exact h.1
    · exact h.2 y hy
theorem Nr.great_len {l : List Rx} (h : Ng.great l = false) : l.length ≤ 40 := by
  unfold Ng.great at h
  simp at h
  omega
end Go.Proofs.Ytnbbepgjpfhjdaa
