/- The program's expressions: what joined, star and copied answer, walked. What 'Bytes' answers, walked. -/
import Derived.Test.YthapedadnbkgnaaG8
import Derived.Test.YthapedadnbkgnaaG6
import Derived.Laws.BytesArg
import Derived.LoopN
namespace Go.Proofs.Ythapedadnbkgnaa
set_option linter.unusedVariables false
set_option linter.unusedSimpArgs false
open Go.RowKit
def Px.join (k : Nat) : List Rx → Rx
  | [] => Rx.nil
  | [x] => x
  | l => .node k (fun _ => false) l
theorem Rx.InB.open {w : World} {B : Nat → Prop} {x : Rx} {p : Addr} (h : Rx.InB w B x p) : ∃ k f a n cap, Rx.Cell w p k f a n cap ∧ Rx.IsB w B x (Rx.hdr k f a n cap) := by
  obtain ⟨k', f', l'⟩ := x
  simp only [Rx.InB] at h
  obtain ⟨h1, a', cap', h2, h3⟩ := h
  exact ⟨k', f', a', _, cap', h2, h1, a', cap', rfl, h3⟩
theorem Rx.InBL.get {w : World} {B : Nat → Prop} : ∀ {l : List Rx} {a : Option Addr} {i : Nat}, Rx.InBL w B l a i → ∀ j (h : j < l.length), ∃ p, a = some p ∧ B p.block ∧ Rx.InB w B l[j] (p.add ((i + j) * 6))
  | [], _, _, _, j, h => by simp at h
  | y :: r, a, i, hl, j, h => by
    simp only [Rx.InBL] at hl
    cases j with
    | zero => simpa using hl.1
    | succ j =>
      obtain ⟨p, e, hB, hp⟩ := Rx.InBL.get hl.2 j (by simpa using h)
      refine ⟨p, e, hB, ?_⟩
      rw [show i + 1 + j = i + (j + 1) by omega] at hp
      simpa using hp
theorem Rx.InBL.up {w w' : World} {B : Nat → Prop} (hb : Below w.heap.size w w') {l : List Rx} {a : Option Addr} {i : Nat} (h : Rx.InBL w B l a i) : Rx.InBL w' B l a i := h.turn (fun _ _ _ hc => Bs.cell_up hb hc) (fun _ h => h)
theorem Rx.IsB.form {w : World} {B : Nat → Prop} {x : Rx} {v : Value} (h : Rx.IsB w B x v) : ∃ k f a n cap, v = Rx.hdr k f a n cap := by
  cases x
  obtain ⟨_, a, cap, e, _⟩ := h
  exact ⟨_, _, a, _, cap, e⟩
set_option maxRecDepth 100000 in
set_option maxHeartbeats 400000 in
theorem joined_any (k : Nat) (hk : k < 256) (l : List Rx) (a : Option Addr) (cap : Nat) (B : Nat → Prop) (w : World) (hl : Rx.InBL w B l a 0) : Calls Try.prog 64 #[.int .u8 k, .slice a l.length cap] w (Px.XPost w B (Px.join k l)) := by
  have HL := Lib.hid hl
  by_cases h0 : l.length = 0
  · have : l = [] := List.length_eq_zero_iff.1 h0
    subst this
    rw [show ([] : List Rx).length = 0 from rfl]
    clear hl HL h0
    go_enter Try.func64, Try.ntmps64
    go_wp2_with fail
    exact bodyPost_ret (v := Rx.hdr 0 (fun _ => false) none 0 0) (by simp [results, Try.results64, go_sem, Rx.hdr_none]) rfl ⟨_, rfl, Rx.isB_nil _ B, Bs.below1 _ _⟩
  by_cases h1 : l.length = 1
  · obtain ⟨x, rfl⟩ := List.length_eq_one_iff.1 h1
    obtain ⟨p, rfl, _, hp⟩ := hl.get 0 (by simp)
    obtain ⟨k1, f1, a1, n1, cap1, ⟨x0, x1, x2, x3, x4, x5⟩, hi⟩ := hp.open
    have HI := Lib.hid hi
    have e0 : p.add 0 = p := by simp [Addr.add]
    simp only [Nat.add_zero, Nat.zero_mul, e0] at x0 x1 x2 x3 x4 x5
    clear hl hp hi e0
    rw [show [x].length = 1 from rfl]
    go_enter Try.func64, Try.ntmps64
    have A := Bs.below1 w (.cells #[.int .u8 0, .int .u64 0, .int .u64 0, .int .u64 0, .int .u64 0, .slice none 0 0] 28)
    have B := Bs.below1 w (.cells #[.int .u8 k1, .int .u64 (Bs.word f1 0), .int .u64 (Bs.word f1 1), .int .u64 (Bs.word f1 2), .int .u64 (Bs.word f1 3), .slice a1 n1 cap1] 28)
    replace x0 := Bs.cell_up A x0; replace x1 := Bs.cell_up A x1; replace x2 := Bs.cell_up A x2; replace x3 := Bs.cell_up A x3; replace x4 := Bs.cell_up A x4; replace x5 := Bs.cell_up A x5
    go_wp2_with fail
    exact bodyPost_ret (v := Rx.hdr k1 f1 a1 n1 cap1) (by simp [results, Try.results64, go_sem, Rx.hdr]) rfl ⟨_, rfl, HI.out.up B, B⟩
  · have HX := Lib.hid (show Px.join k l = .node k (fun _ => false) l by
      unfold Px.join
      split
      · simp at h0
      · simp at h1
      · rfl)
    clear hl
    have H := Lib.hid (show Rx.IsB w B (Rx.node k (fun _ => false) l) (Rx.hdr k (fun _ => false) a l.length cap) from ⟨hk, a, cap, rfl, HL.out⟩)
    have e0 : ((l.length : Int) == 0) = false := beq_eq_false_iff_ne.2 (by omega)
    have e1 : ((l.length : Int) == 1) = false := beq_eq_false_iff_ne.2 (by omega)
    clear h0 h1
    generalize l.length = n at *
    go_enter Try.func64, Try.ntmps64
    go_wp2_with fail
    exact bodyPost_ret (v := Rx.hdr k (fun _ => false) a n cap) (by simp [results, Try.results64, go_sem, Rx.hdr_none]) rfl ⟨_, rfl, by rw [HX.out]; exact H.out.up (Bs.below1 _ _), Bs.below1 _ _⟩
theorem Rx.Nod.own {w w' : World} {b k : Nat} {f : Nat → Bool} {a : Option Addr} {n cap : Nat} {row : Option Nat} (h : Rx.Nod w b k f a n cap) (hg : w.grownBy w' row) (hn : ∀ j, row = some j → b ≠ j) : Rx.Nod w' b k f a n cap := by
  have hne : some b ≠ row := fun e => hn b e.symm rfl
  have hc := h.cell
  exact ⟨⟨hg.cell hc.c0 hne, hg.cell hc.c1 hne, hg.cell hc.c2 hne, hg.cell hc.c3 hne, hg.cell hc.c4 hne, hg.cell hc.c5 hne⟩, fun i hi => by rw [hg.frozen_far ⟨b, i, none⟩ h.lt hne]; exact h.frz i hi⟩
theorem Rx.isB_star {w : World} {B : Nat → Prop} {x : Rx} {k : Nat} {f : Nat → Bool} {a : Option Addr} {n cap : Nat} {g c : Nat} (hx : Rx.IsB w B x (Rx.hdr k f a n cap)) (hg : B g) (hc : Rx.Cell w ⟨g, 0, none⟩ k f a n cap) : Rx.IsB w B (Rx.star x) (Rx.hdr 4 (fun _ => false) (some ⟨g, 0, none⟩) 1 c) := by
  refine ⟨by omega, _, c, rfl, ?_⟩
  simp only [Rx.InBL, and_true]
  refine ⟨_, rfl, hg, ?_⟩
  have e0 : (⟨g, 0, none⟩ : Addr).add (0 * 6) = ⟨g, 0, none⟩ := by simp [Addr.add]
  rw [e0]
  obtain ⟨k', f', l'⟩ := x
  obtain ⟨hk, a', cap', e, hl⟩ := hx
  simp only [Rx.hdr, Value.agg.injEq, Array.mk.injEq, List.cons.injEq, Value.int.injEq, Value.slice.injEq, true_and, and_true] at e
  obtain ⟨e1, e2, e3, e4, e5, e6, e7, e8⟩ := e
  obtain ⟨c0, c1, c2, c3, c4, c5⟩ := hc
  rw [e1] at c0; rw [e2] at c1; rw [e3] at c2; rw [e4] at c3; rw [e5] at c4; rw [e6, e7, e8] at c5
  exact ⟨hk, a', cap', ⟨c0, c1, c2, c3, c4, c5⟩, hl⟩
set_option maxRecDepth 100000 in
set_option maxHeartbeats 400000 in
theorem star_any (x : Rx) (v : Value) (B : Nat → Prop) (w : World) (hB : ∀ k, w.heap.size ≤ k → B k) (hx : Rx.IsB w B x v) : Calls Try.prog 102 #[v] w (Px.XPost w B (Rx.star x)) := by
  obtain ⟨k, f, a, n, cap, rfl⟩ := hx.form
  have HX := Lib.hid hx
  have HB := Lib.hid hB
  clear hx hB
  unfold Rx.hdr
  go_enter Try.func102, Try.ntmps102
  go_wp2_with fail
  have b3 := Bs.below3 w (.cells #[.int .u8 k, .int .u64 (Bs.word f 0), .int .u64 (Bs.word f 1), .int .u64 (Bs.word f 2), .int .u64 (Bs.word f 3), .slice a n cap] 28) (.cells #[.int .u8 4, .int .u64 0, .int .u64 0, .int .u64 0, .int .u64 0, .slice (some ⟨w.heap.size + 1 + 1, 0, none⟩) 1 1] 28) (.cells #[.int .u8 k, .int .u64 (Bs.word f 0), .int .u64 (Bs.word f 1), .int .u64 (Bs.word f 2), .int .u64 (Bs.word f 3), .slice a n cap] 28)
  refine bodyPost_ret (v := Rx.hdr 4 (fun _ => false) (some ⟨w.heap.size + 1 + 1, 0, none⟩) 1 1) (by simp [results, Try.results102, go_sem, Rx.hdr_none]) rfl ⟨_, rfl, ?_, b3⟩
  have C := Rx.cell_new ((w.alloc (.cells #[.int .u8 k, .int .u64 (Bs.word f 0), .int .u64 (Bs.word f 1), .int .u64 (Bs.word f 2), .int .u64 (Bs.word f 3), .slice a n cap] 28)).alloc (.cells #[.int .u8 4, .int .u64 0, .int .u64 0, .int .u64 0, .int .u64 0, .slice (some ⟨w.heap.size + 1 + 1, 0, none⟩) 1 1] 28)) k f a n cap 28
  rw [show ((w.alloc (.cells #[.int .u8 k, .int .u64 (Bs.word f 0), .int .u64 (Bs.word f 1), .int .u64 (Bs.word f 2), .int .u64 (Bs.word f 3), .slice a n cap] 28)).alloc (.cells #[.int .u8 4, .int .u64 0, .int .u64 0, .int .u64 0, .int .u64 0, .slice (some ⟨w.heap.size + 1 + 1, 0, none⟩) 1 1] 28)).heap.size = w.heap.size + 1 + 1 by simp [go_sem]] at C
  exact Rx.isB_star (HX.out.up b3) (HB.out _ (by omega)) C
set_option maxRecDepth 100000 in
set_option maxHeartbeats 1000000 in
theorem copied_any : ∀ (m : Nat) (x : Rx), x.size ≤ m → m ≤ 100000 → ∀ (v : Value) (w : World), Rx.Is w x v → Calls Try.prog 103 #[v] w (Px.XPost w (w.heap.size ≤ ·) x) := by
  intro m
  induction m with
  | zero => intro x h; have := x.size_pos; omega
  | succ m ih =>
    rintro ⟨k, f, l⟩ hm hm4 v w hx
    obtain ⟨hk, a, cap, rfl, hl⟩ := hx
    simp only [Rx.size] at hm
    have hle := Rx.length_le l
    have IH := Lib.hid ih; clear ih
    have HL := Lib.hid hl; clear hl
    obtain ⟨n, hn⟩ : ∃ n, l.length = n := ⟨_, rfl⟩
    have HN := Lib.hid hn
    unfold Rx.hdr
    rw [hn] at hle ⊢
    clear hn
    have N1 := (Rx.nod_new w k f a n cap).up (Bs.below1 _ (.cells #[.int .u8 0, .int .u64 0, .int .u64 0, .int .u64 0, .int .u64 0, .slice none 0 0] 28))
    have N2 := Rx.nod_zero (w.alloc (.cells #[.int .u8 k, .int .u64 (Bs.word f 0), .int .u64 (Bs.word f 1), .int .u64 (Bs.word f 2), .int .u64 (Bs.word f 3), .slice a n cap] 28))
    have eN : (w.alloc (.cells #[.int .u8 k, .int .u64 (Bs.word f 0), .int .u64 (Bs.word f 1), .int .u64 (Bs.word f 2), .int .u64 (Bs.word f 3), .slice a n cap] 28)).heap.size = w.heap.size + 1 := by simp [go_sem]
    rw [eN] at N2
    have B := Bs.below2 w (.cells #[.int .u8 k, .int .u64 (Bs.word f 0), .int .u64 (Bs.word f 1), .int .u64 (Bs.word f 2), .int .u64 (Bs.word f 3), .slice a n cap] 28) (.cells #[.int .u8 0, .int .u64 0, .int .u64 0, .int .u64 0, .int .u64 0, .slice none 0 0] 28)
    clear eN
    have c5 := N1.cell.c5
    simp only [Nat.zero_add] at c5
    go_enter Try.func103, Try.ntmps103
    go_wp2_with fail
    generalize (w.alloc (.cells #[.int .u8 k, .int .u64 (Bs.word f 0), .int .u64 (Bs.word f 1), .int .u64 (Bs.word f 2), .int .u64 (Bs.word f 3), .slice a n cap] 28)).alloc (.cells #[.int .u8 0, .int .u64 0, .int .u64 0, .int .u64 0, .int .u64 0, .slice none 0 0] 28) = W at *
    clear c5
    go_loopw [3, 9] (fun v i wr => ∃ q : Nat, q ≤ n ∧ i = .int .i64 q ∧ Rx.Own (w.heap.size + 2) v (l.take q) wr ∧ Rx.Nod wr w.heap.size k f a n cap ∧ Rx.Nod wr (w.heap.size + 1) 0 (fun _ => false) none 0 0 ∧ Below w.heap.size w wr) (fun _ i _ => n - (intOf i).toNat)
    case atStart => exact ⟨0, by omega, rfl, Rx.own_nil _ _, N1, N2, B⟩
    case round =>
      clear N1 N2 B
      obtain ⟨q, hq, rfl, O, N1, N2, B⟩ := hrel
      by_cases hlt : q < n
      · have hlt' : q < l.length := by rw [HN.out]; exact hlt
        obtain ⟨p, rfl, hp⟩ := HL.out.get q hlt'
        rw [Nat.zero_add] at hp
        replace hp := hp.up B
        have hs : l[q].size ≤ m := by have := (Rx.part_le (List.getElem_mem hlt')).1; omega
        have HT := Lib.hid (show l.take (q + 1) = l.take q ++ [l[q]] by rw [List.take_succ_eq_append_getElem hlt'])
        have HQ := Lib.hid (show (l.take q).length = q by rw [List.length_take]; omega)
        have IQ := Lib.hid (fun v w => IH.out l[q] hs (by omega) v w)
        generalize l[q] = y at *
        obtain ⟨k1, f1, a1, n1, cap1, ⟨x0, x1, x2, x3, x4, x5⟩, hi⟩ := hp.open
        clear hp
        have A := Bs.below1 wr (.cells #[.int .u8 k1, .int .u64 (Bs.word f1 0), .int .u64 (Bs.word f1 1), .int .u64 (Bs.word f1 2), .int .u64 (Bs.word f1 3), .slice a1 n1 cap1] 28)
        have HI := Lib.hid (hi.up A)
        have hsz : w.heap.size + 2 ≤ wr.heap.size := N2.lt
        unfold Rx.hdr at HI
        clear hi
        replace O := O.up A
        replace N1 := N1.up A
        replace N2 := N2.up A
        replace B := Bs.below_up B A
        clear A
        go_wp2_with fail
        have hsz2 : w.heap.size + 2 ≤ (wr.alloc (.cells #[.int .u8 k1, .int .u64 (Bs.word f1 0), .int .u64 (Bs.word f1 1), .int .u64 (Bs.word f1 2), .int .u64 (Bs.word f1 3), .slice a1 n1 cap1] 28)).heap.size := by simp [go_sem]; omega
        generalize wr.alloc (.cells #[.int .u8 k1, .int .u64 (Bs.word f1 0), .int .u64 (Bs.word f1 1), .int .u64 (Bs.word f1 2), .int .u64 (Bs.word f1 3), .slice a1 n1 cap1] 28) = U at *
        refine (IQ.out _ U HI.out).mono ?_
        rintro e w1 ⟨v1, rfl, hy, hb⟩
        have HO := Lib.hid (O.lt)
        replace O := O.up hb
        replace N1 := N1.up hb
        replace N2 := N2.up hb
        replace B := Bs.below_up B hb
        have hsz3 : U.heap.size ≤ w1.heap.size := hb.size
        clear hb HI IQ
        obtain ⟨k2, f2, a2, n2, cap2, rfl⟩ := hy.form
        have A := Bs.below1 w1 (.cells #[.int .u8 k2, .int .u64 (Bs.word f2 0), .int .u64 (Bs.word f2 1), .int .u64 (Bs.word f2 2), .int .u64 (Bs.word f2 3), .slice a2 n2 cap2] 28)
        have HY := Lib.hid (show Rx.IsB (w1.alloc (.cells #[.int .u8 k2, .int .u64 (Bs.word f2 0), .int .u64 (Bs.word f2 1), .int .u64 (Bs.word f2 2), .int .u64 (Bs.word f2 3), .slice a2 n2 cap2] 28)) (fun j => w.heap.size + 2 ≤ j ∧ some j ≠ u3.ownBlock) y (Rx.hdr k2 f2 a2 n2 cap2) from (hy.up A).mono (fun j hj => ⟨by omega, fun e => by have := (HO.out j e.symm).2; omega⟩))
        clear hy
        replace O := O.up A
        replace N1 := N1.up A
        replace N2 := N2.up A
        replace B := Bs.below_up B A
        have hsz4 : w.heap.size + 2 ≤ (w1.alloc (.cells #[.int .u8 k2, .int .u64 (Bs.word f2 0), .int .u64 (Bs.word f2 1), .int .u64 (Bs.word f2 2), .int .u64 (Bs.word f2 3), .slice a2 n2 cap2] 28)).heap.size := by simp [go_sem]; omega
        clear A
        unfold Rx.hdr
        go_wp2_with (first
          | (at_builtin; refine Rx.append rfl _ _ rfl (w.heap.size + 2) _ (l.take q) rfl O w1.heap.size 1 rfl k2 f2 a2 n2 cap2 (heap_alloc_new w1 _) y HY.out (by rw [HQ.out]; omega) hsz4 ?_; intro v7 w4 O4 g4))
        have N14 := N1.own g4 (fun j hj => by have := (O.lt j hj).1; omega)
        have N24 := N2.own g4 (fun j hj => by have := (O.lt j hj).1; omega)
        have B4 := B.grown g4 B.size (fun j hj => by have := (O.lt j hj).1; omega)
        clear g4 O N1 N2 B
        go_roundw
        case rel => exact ⟨q + 1, by omega, by go_num, by rw [HT.out]; exact O4, N14, N24, B4⟩
        case measure => simp [intOf]; omega
      · have hq' : l.take q = l := List.take_of_length_le (by rw [HN.out]; omega)
        rw [hq'] at O
        obtain ⟨a', cap', rfl, R⟩ := O.slice
        clear hq' O
        have HR := Lib.hid R
        clear R
        rw [HN.out]
        obtain ⟨⟨c0, c1, c2, c3, c4, c5⟩, z⟩ := N1
        have HN2 := Lib.hid N2
        obtain ⟨⟨d0, d1, d2, d3, d4, d5⟩, y⟩ := N2
        simp only [Nat.zero_add] at c0 c1 c2 c3 c4 c5 d0 d1 d2 d3 d4 d5
        have z5 := z 5 (by decide)
        have y0 := y 0 (by decide); have y1 := y 1 (by decide); have y2 := y 2 (by decide); have y3 := y 3 (by decide); have y4 := y 4 (by decide); have y5 := y 5 (by decide)
        clear z y
        go_wp2_with fail
        refine bodyPost_ret (v := Rx.hdr k f a' n cap') (by simp [results, Try.results103, go_sem, Rx.hdr, d0, d1, d2, d3, d4, d5]) rfl ⟨_, rfl, ?_, ?_⟩
        · refine ⟨hk, a', cap', by rw [HN.out], HR.out.turn (fun y u hy hc => ?_) (fun j hj => by omega)⟩
          exact Rx.wr_cell (Bs.cell_set hc (by simp; omega)) (by simp; omega)
        · exact Rx.wr_below (B.setCell (p := ⟨w.heap.size, 5, none⟩) (Nat.le_refl _) _) (by omega) k f a' n cap'
end Go.Proofs.Ythapedadnbkgnaa
namespace Go.Proofs.Ythapedadnbkgnaa
set_option linter.unusedVariables false
set_option linter.unusedSimpArgs false
open Go.RowKit
theorem conv_new (W : World) (b : Nat) (xs : List Int) (k : Nat) (hk : xs.length = k) (hcell : ∀ i, i < k → W.cell? ⟨b, 0 + i, none⟩ = some (.int .u8 (xs.getD i 0))) :
    (convert 72 9 (.slice (some ⟨b, 0, none⟩) k k)).run Try.prog W = .ok (.string (strOfNums xs)) W :=
  run_convert_bytes_arg (P := Try.prog) W 72 5 Try.underlying72 Try.underlying5 b 0 k k xs hk hcell 9 Try.underlying9
theorem below_new (w : World) (o : Obj) : Below w.heap.size w (w.alloc o) := (Below.refl _ _).alloc (Nat.le_refl _) _
theorem cells1 (w : World) (a : Int) (t : TypeId) : ∀ i, i < 1 → (w.alloc (.cells #[.int .u8 a] t)).cell? ⟨w.heap.size, 0 + i, none⟩ = some (.int .u8 ([a].getD i 0)) := by
  intro i hi; obtain rfl : i = 0 := by omega
  simp [go_sem]
theorem cells2 (w : World) (a b : Int) (t : TypeId) : ∀ i, i < 2 → (w.alloc (.cells #[.int .u8 a, .int .u8 b] t)).cell? ⟨w.heap.size, 0 + i, none⟩ = some (.int .u8 ([a, b].getD i 0)) := by
  intro i hi
  match i, hi with
  | 0, _ => simp [go_sem]
  | 1, _ => simp [go_sem]
theorem cells3 (w : World) (a b c : Int) (t : TypeId) : ∀ i, i < 3 → (w.alloc (.cells #[.int .u8 a, .int .u8 b, .int .u8 c] t)).cell? ⟨w.heap.size, 0 + i, none⟩ = some (.int .u8 ([a, b, c].getD i 0)) := by
  intro i hi
  match i, hi with
  | 0, _ => simp [go_sem]
  | 1, _ => simp [go_sem]
  | 2, _ => simp [go_sem]
theorem cells4 (w : World) (a b c d : Int) (t : TypeId) : ∀ i, i < 4 → (w.alloc (.cells #[.int .u8 a, .int .u8 b, .int .u8 c, .int .u8 d] t)).cell? ⟨w.heap.size, 0 + i, none⟩ = some (.int .u8 ([a, b, c, d].getD i 0)) := by
  intro i hi
  match i, hi with
  | 0, _ => simp [go_sem]
  | 1, _ => simp [go_sem]
  | 2, _ => simp [go_sem]
  | 3, _ => simp [go_sem]
set_option maxRecDepth 100000 in
set_option maxHeartbeats 400000 in
theorem bytes_1 (n : Int) (w : World) (h : 0 ≤ n ∧ n < 128) : Calls Try.prog 111 #[.int .i64 n] w fun e w' => e = .returned (.string (strOfNums (Rn.bytesI n))) ∧ Below w.heap.size w w' := by
  obtain ⟨_, hb, hs⟩ := Rn.bytesI_1 n h
  rw [hb]
  have hcv := conv_new _ _ [n] 1 rfl (cells1 w (n) 5)
  clear hb
  have hmk : ∀ w, (Instr.makeSlice 72 (.int .i64 1) (.int .i64 1)).run Try.prog w = .ok (.slice (some ⟨w.heap.size, 0, none⟩) 1 1) (w.alloc (.cells #[.int .u8 0] 5)) := fun _ => by kernel_rfl
  have hl : Rn.leadI 1 = 0 := by decide
  go_enter Try.func111, Try.ntmps111
  go_wp2_with (go_at_call 81; refine (size_any _ _).mono ?_; rintro e w' ⟨rfl, rfl⟩)
  refine wp_loop_rounds 1 ?_

  rw [rounds_succ]
  go_wp2_with (go_at_call 79; refine (lead_any _ _).mono ?_; rintro e w' ⟨rfl, rfl⟩)
  go_ret
  exact ⟨rfl, below_new _ _⟩
set_option maxRecDepth 100000 in
set_option maxHeartbeats 400000 in
theorem bytes_2 (n : Int) (w : World) (h : 128 ≤ n ∧ n < 2048) : Calls Try.prog 111 #[.int .i64 n] w fun e w' => e = .returned (.string (strOfNums (Rn.bytesI n))) ∧ Below w.heap.size w w' := by
  obtain ⟨_, hb, hs⟩ := Rn.bytesI_2 n h
  rw [hb]
  have hcv := conv_new _ _ [192 + n / 64, 128 + n % 64] 2 rfl (cells2 w (192 + n / 64) (128 + n % 64) 5)
  clear hb
  have hmk : ∀ w, (Instr.makeSlice 72 (.int .i64 2) (.int .i64 2)).run Try.prog w = .ok (.slice (some ⟨w.heap.size, 0, none⟩) 2 2) (w.alloc (.cells #[.int .u8 0, .int .u8 0] 5)) := fun _ => by kernel_rfl
  have hl : Rn.leadI 2 = 192 := by decide
  go_enter Try.func111, Try.ntmps111
  go_wp2_with (go_at_call 81; refine (size_any _ _).mono ?_; rintro e w' ⟨rfl, rfl⟩)
  refine wp_loop_rounds 2 ?_
  rw [rounds_succ]
  go_wp2
  rw [rounds_succ]
  go_wp2_with (go_at_call 79; refine (lead_any _ _).mono ?_; rintro e w' ⟨rfl, rfl⟩)
  go_ret
  exact ⟨rfl, below_new _ _⟩
set_option maxRecDepth 100000 in
set_option maxHeartbeats 400000 in
theorem bytes_3 (n : Int) (w : World) (h : 2048 ≤ n ∧ n < 65536) (h2 : ¬ (55296 ≤ n ∧ n ≤ 57343)) : Calls Try.prog 111 #[.int .i64 n] w fun e w' => e = .returned (.string (strOfNums (Rn.bytesI n))) ∧ Below w.heap.size w w' := by
  obtain ⟨_, hb, hs⟩ := Rn.bytesI_3 n h h2
  rw [hb]
  have hcv := conv_new _ _ [224 + n / 4096, 128 + n / 64 % 64, 128 + n % 64] 3 rfl (cells3 w (224 + n / 4096) (128 + n / 64 % 64) (128 + n % 64) 5)
  clear hb
  have hmk : ∀ w, (Instr.makeSlice 72 (.int .i64 3) (.int .i64 3)).run Try.prog w = .ok (.slice (some ⟨w.heap.size, 0, none⟩) 3 3) (w.alloc (.cells #[.int .u8 0, .int .u8 0, .int .u8 0] 5)) := fun _ => by kernel_rfl
  have hl : Rn.leadI 3 = 224 := by decide
  have hd : n / 64 / 64 = n / 4096 := by omega
  go_enter Try.func111, Try.ntmps111
  go_wp2_with (go_at_call 81; refine (size_any _ _).mono ?_; rintro e w' ⟨rfl, rfl⟩)
  refine wp_loop_rounds 3 ?_
  rw [rounds_succ]
  go_wp2
  rw [rounds_succ]
  go_wp2
  rw [rounds_succ]
  go_wp2_with (go_at_call 79; refine (lead_any _ _).mono ?_; rintro e w' ⟨rfl, rfl⟩)
  go_ret
  exact ⟨rfl, below_new _ _⟩
set_option maxRecDepth 100000 in
set_option maxHeartbeats 400000 in
theorem bytes_4 (n : Int) (w : World) (h : 65536 ≤ n ∧ n < 1114112) : Calls Try.prog 111 #[.int .i64 n] w fun e w' => e = .returned (.string (strOfNums (Rn.bytesI n))) ∧ Below w.heap.size w w' := by
  obtain ⟨_, hb, hs⟩ := Rn.bytesI_4 n h
  rw [hb]
  have hcv := conv_new _ _ [240 + n / 262144, 128 + n / 4096 % 64, 128 + n / 64 % 64, 128 + n % 64] 4 rfl (cells4 w (240 + n / 262144) (128 + n / 4096 % 64) (128 + n / 64 % 64) (128 + n % 64) 5)
  clear hb
  have hmk : ∀ w, (Instr.makeSlice 72 (.int .i64 4) (.int .i64 4)).run Try.prog w = .ok (.slice (some ⟨w.heap.size, 0, none⟩) 4 4) (w.alloc (.cells #[.int .u8 0, .int .u8 0, .int .u8 0, .int .u8 0] 5)) := fun _ => by kernel_rfl
  have hl : Rn.leadI 4 = 240 := by decide
  have hd : n / 64 / 64 = n / 4096 := by omega
  have hd2 : n / 4096 / 64 = n / 262144 := by omega
  go_enter Try.func111, Try.ntmps111
  go_wp2_with (go_at_call 81; refine (size_any _ _).mono ?_; rintro e w' ⟨rfl, rfl⟩)
  refine wp_loop_rounds 4 ?_
  rw [rounds_succ]
  go_wp2
  rw [rounds_succ]
  go_wp2
  rw [rounds_succ]
  go_wp2
  rw [rounds_succ]
  go_wp2_with (go_at_call 79; refine (lead_any _ _).mono ?_; rintro e w' ⟨rfl, rfl⟩)
  go_ret
  exact ⟨rfl, below_new _ _⟩
set_option maxRecDepth 100000 in
set_option maxHeartbeats 400000 in
theorem bytes_any (n : Int) (w : World) : Calls Try.prog 111 #[.int .i64 n] w fun e w' => e = .returned (.string (strOfNums (Rn.bytesI n))) ∧ Below w.heap.size w w' := by
  by_cases hA : 0 ≤ n ∧ n < 1114112 ∧ ¬ (55296 ≤ n ∧ n ≤ 57343)
  · by_cases h1 : n < 128
    · exact bytes_1 n w (by omega)
    by_cases h2 : n < 2048
    · exact bytes_2 n w (by omega)
    by_cases h3 : n < 65536
    · exact bytes_3 n w (by omega) (by omega)
    · exact bytes_4 n w (by omega)
  · obtain ⟨_, hb, hs⟩ := Rn.bytesI_0 n hA
    rw [hb]
    clear hb
    go_enter Try.func111, Try.ntmps111
    go_wp2_with (go_at_call 81; refine (size_any _ _).mono ?_; rintro e w' ⟨rfl, rfl⟩)
    go_ret
    exact ⟨rfl, Below.refl _ _⟩
end Go.Proofs.Ythapedadnbkgnaa
