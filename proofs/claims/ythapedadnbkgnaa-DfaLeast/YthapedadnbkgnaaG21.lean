/- The program's expressions: what sign answers, walked. The program's expressions: what repeated answers, walked. The program's expressions: what signBut answers, walked. The program's reader of expressions: what class answers, walked. The program's reader of expressions: what atom answers, walked. -/
import Derived.Test.YthapedadnbkgnaaG20
import Derived.Lib.ConvBytes
import Derived.Test.YthapedadnbkgnaaG8
import Derived.Test.YthapedadnbkgnaaG4
namespace Go.Proofs.Ythapedadnbkgnaa
set_option linter.unusedVariables false
set_option linter.unusedSimpArgs false
open Go.RowKit
theorem Px.join_several {k : Nat} {l : List Rx} (h : l ≠ []) : Px.join k l = Rx.several k l := by
  cases l with
  | nil => simp at h
  | cons x r => cases r <;> rfl
theorem Px.join_cat (l : List Rx) : Px.join 2 l = Rx.catOf l := by
  cases l with
  | nil => rfl
  | cons x r => cases r <;> rfl
theorem Px.of_one (z : Nat) : Bs.ofL [z] = Rx.rng z z := by
  funext c
  rw [Bool.eq_iff_iff]
  simp [Bs.ofL, Rx.rng]
  omega
theorem Px.bytes_cells (w : World) (e : TypeId) (zs : List Int) (hz : ∀ z ∈ zs, 0 ≤ z ∧ z < 256) (j : Nat) (hj : j < zs.length) : (Lib.bytesWorld w e (strOfNums zs)).cell? ⟨w.heap.size, j, none⟩ = some (.int .u8 zs[j]) := by
  have h := hz zs[j] (List.getElem_mem hj)
  rw [Lib.bytesWorld_cell _ _ _ j (by simp [strOfNums, ByteArray.size]; exact hj)]
  simp only [strOfNums, List.getD]
  rw [List.getElem?_map, List.getElem?_eq_getElem hj]
  simp
  omega
theorem Px.bytes_below (w : World) (e : TypeId) (s : ByteArray) : Below w.heap.size w (Lib.bytesWorld w e s) :=
  ⟨rfl, rfl, rfl, by rw [Lib.bytesWorld_size]; omega, fun k hk => Lib.bytesWorld_at_old w e s k hk⟩
theorem Px.num_len (zs : List Int) : (strOfNums zs).size = zs.length := by simp [strOfNums, ByteArray.size]
theorem Px.byt_one (w : World) (z : Nat) (t : TypeId) : Bs.Byt (w.alloc (.cells #[.int .u8 z] t)) (some ⟨w.heap.size, 0, none⟩) [z] := by
  intro i hi
  simp at hi
  subst hi
  refine ⟨_, rfl, ?_⟩
  simp [go_sem, Addr.add]
set_option maxRecDepth 100000 in
set_option maxHeartbeats 1000000 in
theorem psignx_any (n : Int) (hs : Rn.signI n = true) (w : World) : Calls Try.prog 100 #[.int .i64 n] w (Px.XPost w (w.heap.size ≤ ·) (Rx.sign n)) := by
  have HB := Lib.hid (Rn.bytesI_byte n)
  have HF := Lib.hid (Rx.bytes_few n)
  have HZ := Lib.hid (show Rn.bytesI n ≠ [] from fun e => by
    obtain ⟨c, t, hc, _⟩ := Rn.blk_form n hs
    unfold Rn.blk at hc
    rw [e] at hc
    simp at hc)
  clear hs
  have BY := Lib.hid (fun w => bytes_any n w)
  have HX := Lib.hid (show Rx.sign n = Rx.several 2 ((Rn.bytesI n).map fun b => Rx.one (Rx.rng b b)) from rfl)
  generalize Rx.sign n = X at *
  generalize Rn.bytesI n = zs at *
  have N := Rx.nod_zero w
  have A := Bs.below1 w (.cells #[.int .u8 0, .int .u64 0, .int .u64 0, .int .u64 0, .int .u64 0, .slice none 0 0] 28)
  have hcv := fun (w : World) => Lib.run_convert_string_bytes (P := Try.prog) w 9 72 5 (strOfNums zs) Try.underlying9 Try.underlying72 Try.underlying5
  go_enter Try.func100, Try.ntmps100
  go_wp2_with fail
  generalize w.alloc (.cells #[.int .u8 0, .int .u64 0, .int .u64 0, .int .u64 0, .int .u64 0, .slice none 0 0] 28) = W at *
  refine (BY.out W).mono ?_
  rintro e w1 ⟨rfl, hb⟩
  replace N := N.up hb
  replace A := Bs.below_up A hb
  clear hb BY
  go_wp2_with fail
  have hc := Px.bytes_cells w1 5 zs HB.out
  have hb := Px.bytes_below w1 5 (strOfNums zs)
  have hG : w.heap.size < w1.heap.size := N.lt
  replace N := N.up hb
  replace A := Bs.below_up A hb
  rw [Px.num_len]
  have hsz : (Lib.bytesWorld w1 5 (strOfNums zs)).heap.size = w1.heap.size + 1 := Lib.bytesWorld_size _ _ _
  have hl := HF.out
  generalize grownCap w1 zs.length 0 5 = gc at *
  clear hb hcv
  generalize Lib.bytesWorld w1 5 (strOfNums zs) = V at *
  generalize w1.heap.size = G at *
  have HS := Lib.hid hsz
  clear hsz
  go_loopw [3, 10] (fun v i wr => ∃ q : Nat, q ≤ zs.length ∧ i = .int .i64 q ∧ Rx.Own (G + 1) v ((zs.map fun b => Rx.one (Rx.rng b b)).take q) wr ∧ (∀ (j : Nat) (h : j < zs.length), wr.cell? ⟨G, j, none⟩ = some (.int .u8 zs[j])) ∧ Rx.Nod wr w.heap.size 0 (fun _ => false) none 0 0 ∧ Below w.heap.size w wr ∧ G + 1 ≤ wr.heap.size) (fun _ i _ => zs.length - (intOf i).toNat)
  case atStart => exact ⟨0, by omega, rfl, Rx.own_nil _ _, hc, N, A, by rw [HS.out]; exact Nat.le_refl _⟩
  case round =>
    clear N A hc HS
    obtain ⟨q, hq, rfl, O, hc, N, A, hsz⟩ := hrel
    by_cases hlt : q < zs.length
    · have c0 := hc q hlt
      have hz := HB.out zs[q] (List.getElem_mem hlt)
      have HT := Lib.hid (show (zs.map fun b => Rx.one (Rx.rng b b)).take (q + 1) = (zs.map fun b => Rx.one (Rx.rng b b)).take q ++ [Rx.one (Rx.rng zs[q] zs[q])] by rw [List.take_succ_eq_append_getElem (by simpa using hlt)]; simp)
      have HQ := Lib.hid (show ((zs.map fun b => Rx.one (Rx.rng b b)).take q).length = q by simp; omega)
      have HC := Lib.hid hc
      clear hc
      generalize zs[q] = z at *
      obtain ⟨z, rfl⟩ : ∃ m : Nat, z = m := ⟨z.toNat, by omega⟩
      have A1 := Bs.below1 wr (.cells #[.int .u8 z] 5)
      have BT := Px.byt_one wr z 5
      replace N := N.up A1
      replace O := O.up A1
      replace A := Bs.below_up A A1
      replace hsz := Nat.le_trans hsz A1.size
      have HC1 := Lib.hid (show ∀ (j : Nat) (h : j < zs.length), (wr.alloc (.cells #[.int .u8 z] 5)).cell? ⟨G, j, none⟩ = some (.int .u8 zs[j]) from fun j h => Bs.cell_up A1 (HC.out j h))
      clear HC A1
      go_wp2_with fail
      generalize wr.alloc (.cells #[.int .u8 z] 5) = U at *
      have OB := ofB_any (some ⟨wr.heap.size, 0, none⟩) [z] 1 U BT (by simp; omega) (by simp)
      rw [show [z].length = 1 from rfl] at OB
      refine OB.mono ?_
      rintro e w2 ⟨rfl, hb⟩
      replace N := N.up hb
      replace O := O.up hb
      replace A := Bs.below_up A hb
      replace hsz := Nat.le_trans hsz hb.size
      have HC2 := Lib.hid (show ∀ (j : Nat) (h : j < zs.length), w2.cell? ⟨G, j, none⟩ = some (.int .u8 zs[j]) from fun j h => Bs.cell_up hb (HC1.out j h))
      clear HC1 hb OB BT
      go_wp2_with fail
      refine (pone_any (Bs.ofL [z]) (fun _ => False) w2).mono ?_
      rintro e w3 ⟨v3, rfl, hy, hb⟩
      rw [Px.of_one] at hy
      replace N := N.up hb
      replace O := O.up hb
      replace A := Bs.below_up A hb
      replace hsz := Nat.le_trans hsz hb.size
      have HC3 := Lib.hid (show ∀ (j : Nat) (h : j < zs.length), w3.cell? ⟨G, j, none⟩ = some (.int .u8 zs[j]) from fun j h => Bs.cell_up hb (HC2.out j h))
      clear HC2 hb
      obtain ⟨k2, f2, a2, n2, cap2, rfl⟩ := hy.form
      have hb := Bs.below1 w3 (.cells #[.int .u8 k2, .int .u64 (Bs.word f2 0), .int .u64 (Bs.word f2 1), .int .u64 (Bs.word f2 2), .int .u64 (Bs.word f2 3), .slice a2 n2 cap2] 28)
      have HY := Lib.hid ((hy.up hb).mono (B' := fun j => G + 1 ≤ j ∧ some j ≠ u3.ownBlock) (fun j hj => hj.elim))
      replace N := N.up hb
      replace O := O.up hb
      replace A := Bs.below_up A hb
      replace hsz := Nat.le_trans hsz hb.size
      have HC4 := Lib.hid (show ∀ (j : Nat) (h : j < zs.length), (w3.alloc (.cells #[.int .u8 k2, .int .u64 (Bs.word f2 0), .int .u64 (Bs.word f2 1), .int .u64 (Bs.word f2 2), .int .u64 (Bs.word f2 3), .slice a2 n2 cap2] 28)).cell? ⟨G, j, none⟩ = some (.int .u8 zs[j]) from fun j h => Bs.cell_up hb (HC3.out j h))
      clear HC3 hb hy
      unfold Rx.hdr
      go_wp2_with (first
        | (at_builtin; refine Rx.append rfl _ _ rfl (G + 1) _ _ rfl O w3.heap.size 1 rfl k2 f2 a2 n2 cap2 (heap_alloc_new w3 _) _ HY.out (by rw [HQ.out]; omega) hsz ?_; intro v7 w4 O4 g4))
      have N4 := N.own g4 (fun j hj => by have := (O.lt j hj).1; omega)
      have A4 := A.grown g4 A.size (fun j hj => by have := (O.lt j hj).1; omega)
      have HC5 := Lib.hid (show ∀ (j : Nat) (h : j < zs.length), w4.cell? ⟨G, j, none⟩ = some (.int .u8 zs[j]) from fun j h => g4.cell (HC4.out j h) (fun e => by have h9 := (O.lt G e.symm).1; omega))
      have hsz4 : G + 1 ≤ w4.heap.size := Nat.le_trans hsz g4.size
      clear g4 O N A hsz HC4
      go_roundw
      case rel => exact ⟨q + 1, by omega, by go_num, by rw [HT.out]; exact O4, HC5.out, N4, A4, hsz4⟩
      case measure => simp [intOf]; omega
    · have hq' : (zs.map fun b => Rx.one (Rx.rng b b)).take q = zs.map fun b => Rx.one (Rx.rng b b) := List.take_of_length_le (by simp; omega)
      rw [hq'] at O
      obtain ⟨a', cap', rfl, R⟩ := O.slice
      clear hq' O hc
      have J0 := joined_any 2 (by decide) _ a' cap' _ wr R
      rw [List.length_map] at J0
      have J := Lib.hid J0
      clear R J0
      rw [List.length_map]
      go_wp2_with fail
      refine J.out.mono ?_
      rintro e w2 ⟨v2, rfl, hy, hb⟩
      rw [Px.join_several (by simpa using HZ.out), ← HX.out] at hy
      replace N := N.up hb
      replace A := Bs.below_up A hb
      clear hb J
      obtain ⟨k2, f2, a2, n2, cap2, rfl⟩ := hy.form
      have HY := Lib.hid (hy.mono (B' := fun j => w.heap.size + 1 ≤ j) (fun j hj => by omega))
      clear hy
      unfold Rx.hdr
      obtain ⟨⟨d0, d1, d2, d3, d4, d5⟩, y⟩ := N
      simp only [Nat.zero_add] at d0 d1 d2 d3 d4 d5
      have y0 := y 0 (by decide); have y1 := y 1 (by decide); have y2 := y 2 (by decide); have y3 := y 3 (by decide); have y4 := y 4 (by decide); have y5 := y 5 (by decide)
      clear y
      go_wp2_with fail
      refine bodyPost_ret (v := Rx.hdr k2 f2 a2 n2 cap2) (by simp [results, Try.results100, go_sem, Rx.hdr, d0, d1, d2, d3, d4, d5]) rfl ⟨_, rfl, ?_, ?_⟩
      · exact (HY.out.wr (b := w.heap.size) (by omega) k2 f2 a2 n2 cap2).mono (fun j hj => by omega)
      · exact Rx.wr_below A (Nat.le_refl _) k2 f2 a2 n2 cap2
open Go.RowKit
def Px.rept (x : Rx) (c : Int) : Rx := if c = 42 then Rx.star x else if c = 43 then Rx.plus x else Rx.opt x
theorem Rx.built {u : World} {B : Nat → Prop} {xs : List Rx} {cs : List Value} (h : Rx.Hs u B xs cs) (hB : B u.heap.size) {C : Array Value} (hC : C.toList = cs) : Rx.InBL (u.alloc (.cells C 28)) B xs (some ⟨u.heap.size, 0, none⟩) 0 := by
  refine Rx.Hs.inBL hB (h.turn (fun _ _ _ hc => Bs.cell_up (Bs.below1 u _) hc) (fun _ h => h)) ?_
  intro j v hv
  have := World.news_of_block (heap_alloc_new u (.cells C 28)) j v (by rw [hC]; exact hv)
  have e0 : (⟨u.heap.size, 0, none⟩ : Addr).add j = ⟨u.heap.size, j, none⟩ := by unfold Addr.add; split <;> simp_all
  rw [e0] at this
  simpa using this
def Px.relP (x : Rx) (h : Value) (B : Nat → Prop) : List (Value → World → Prop) := [
  fun v _ => v = h,
  fun v _ => v = h,
  fun v w => Rx.IsB w B x v,
  fun v w => Rx.IsB w B (Rx.star x) v,
  fun v w => ∃ g, v = .slice (some ⟨g, 0, none⟩) 2 2 ∧ Rx.InBL w B [x, Rx.star x] (some ⟨g, 0, none⟩) 0,
  fun v w => Rx.IsB w B (Rx.plus x) v]
theorem Px.relP_up (x : Rx) (h : Value) (B : Nat → Prop) : Rg.Ups (Px.relP x h B) := by
  refine ⟨?_, ?_, ?_, ?_, ?_, ?_, trivial⟩
  all_goals intro v w w' h hb
  all_goals (first | exact h | exact Rx.IsB.up hb h | (obtain ⟨g, e, h⟩ := h; exact ⟨g, e, h.up hb⟩))
structure Px.WP (x : Rx) (B : Nat → Prop) (w0 : World) (k : Nat) (f : Nat → Bool) (a : Option Addr) (n cap : Nat) (w : World) : Prop where
  one : Rx.Nod w w0.heap.size k f a n cap
  is : Rx.IsB w B x (Rx.hdr k f a n cap)
  nod : Rx.Nod w (w0.heap.size + 1) 0 (fun _ => false) none 0 0
  bel : Below w0.heap.size w0 w
theorem Px.WP.up {x : Rx} {B : Nat → Prop} {w0 : World} {k : Nat} {f : Nat → Bool} {a : Option Addr} {n cap : Nat} {w w' : World} (h : Px.WP x B w0 k f a n cap w) (hb : Below w.heap.size w w') : Px.WP x B w0 k f a n cap w' := ⟨h.one.up hb, h.is.up hb, h.nod.up hb, Bs.below_up h.bel hb⟩
theorem Px.WP.sz {x : Rx} {B : Nat → Prop} {w0 : World} {k : Nat} {f : Nat → Bool} {a : Option Addr} {n cap : Nat} {w : World} (h : Px.WP x B w0 k f a n cap w) : w0.heap.size + 2 ≤ w.heap.size := h.nod.lt
set_option maxRecDepth 100000 in
set_option maxHeartbeats 2000000 in
theorem repeated_any (x : Rx) (v : Value) (c : Int) (B : Nat → Prop) (w : World) (hB : ∀ k, w.heap.size ≤ k → B k) (hx : Rx.IsB w B x v) (hs : x.size ≤ 100000) : Calls Try.prog 93 #[v, .int .i64 c] w (Px.XPost w B (Px.rept x c)) := by
  obtain ⟨k, f, a, n, cap, rfl⟩ := hx.form
  have A := Bs.below2 w (.cells #[.int .u8 k, .int .u64 (Bs.word f 0), .int .u64 (Bs.word f 1), .int .u64 (Bs.word f 2), .int .u64 (Bs.word f 3), .slice a n cap] 28) (.cells #[.int .u8 0, .int .u64 0, .int .u64 0, .int .u64 0, .int .u64 0, .slice none 0 0] 28)
  have N1 := (Rx.nod_new w k f a n cap).up (Bs.below1 _ (.cells #[.int .u8 0, .int .u64 0, .int .u64 0, .int .u64 0, .int .u64 0, .slice none 0 0] 28))
  have N2 := Rx.nod_zero (w.alloc (.cells #[.int .u8 k, .int .u64 (Bs.word f 0), .int .u64 (Bs.word f 1), .int .u64 (Bs.word f 2), .int .u64 (Bs.word f 3), .slice a n cap] 28))
  have eN : (w.alloc (.cells #[.int .u8 k, .int .u64 (Bs.word f 0), .int .u64 (Bs.word f 1), .int .u64 (Bs.word f 2), .int .u64 (Bs.word f 3), .slice a n cap] 28)).heap.size = w.heap.size + 1 := by simp [go_sem]
  rw [eN] at N2
  have X := hx.lt.mono (B' := fun j => B j ∧ j ≠ w.heap.size + 1) (fun j hj => ⟨hj.1, by omega⟩)
  have HX := Lib.hid (X.up A)
  clear eN hx X
  obtain ⟨c0, c1, c2, c3, c4, c5⟩ := N1.cell
  simp only [Nat.zero_add] at c0 c1 c2 c3 c4 c5
  unfold Rx.hdr at HX ⊢
  go_enter Try.func93, Try.ntmps93
  by_cases h1 : c = 42
  · have e1 : (c == 42) = true := by rw [h1]; rfl
    have HR := Lib.hid (show Px.rept x c = Rx.star x by rw [h1]; rfl)
    clear h1
    go_wp2_with fail
    generalize (w.alloc (.cells #[.int .u8 k, .int .u64 (Bs.word f 0), .int .u64 (Bs.word f 1), .int .u64 (Bs.word f 2), .int .u64 (Bs.word f 3), .slice a n cap] 28)).alloc (.cells #[.int .u8 0, .int .u64 0, .int .u64 0, .int .u64 0, .int .u64 0, .slice none 0 0] 28) = W at *
    have hW : w.heap.size + 2 ≤ W.heap.size := N2.lt
    refine (star_any x _ (fun j => B j ∧ j ≠ w.heap.size + 1) W (fun j hj => ⟨hB _ (by omega), by omega⟩) HX.out).mono ?_
    rintro e w1 ⟨v1, rfl, hy, hb⟩
    replace N2 := N2.up hb
    replace A := Bs.below_up A hb
    clear hb c0 c1 c2 c3 c4 c5 N1 HX
    obtain ⟨k2, f2, a2, n2, cap2, rfl⟩ := hy.form
    have HY := Lib.hid hy
    clear hy
    obtain ⟨⟨d0, d1, d2, d3, d4, d5⟩, y⟩ := N2
    simp only [Nat.zero_add] at d0 d1 d2 d3 d4 d5
    have y0 := y 0 (by decide); have y1 := y 1 (by decide); have y2 := y 2 (by decide); have y3 := y 3 (by decide); have y4 := y 4 (by decide); have y5 := y 5 (by decide)
    clear y
    unfold Rx.hdr
    go_wp2_with fail
    refine bodyPost_ret (v := Rx.hdr k2 f2 a2 n2 cap2) (by simp [results, Try.results93, go_sem, Rx.hdr, d0, d1, d2, d3, d4, d5]) rfl ⟨_, rfl, ?_, ?_⟩
    · rw [HR.out]; exact (HY.out.wr (b := w.heap.size + 1) (by omega) k2 f2 a2 n2 cap2).mono (fun j hj => hj.1)
    · exact Rx.wr_below A (by omega) k2 f2 a2 n2 cap2
  have e1 : (c == 42) = false := beq_eq_false_iff_ne.2 h1
  by_cases h2 : c = 43
  · have e2 : (c == 43) = true := by rw [h2]; rfl
    have HR := Lib.hid (show Px.rept x c = Rx.plus x by rw [h2]; rfl)
    clear h1 h2
    go_upto_region 5 with fail
    generalize (w.alloc (.cells #[.int .u8 k, .int .u64 (Bs.word f 0), .int .u64 (Bs.word f 1), .int .u64 (Bs.word f 2), .int .u64 (Bs.word f 3), .slice a n cap] 28)).alloc (.cells #[.int .u8 0, .int .u64 0, .int .u64 0, .int .u64 0, .int .u64 0, .slice none 0 0] 28) = W at *
    have WP : Px.WP x (fun j => B j ∧ j ≠ w.heap.size + 1) w k f a n cap W := ⟨N1, HX.out, N2, A⟩
    clear c0 c1 c2 c3 c4 c5 N1 N2 A HX
    refine Rg.regionT (by kernel_rfl) (by kernel_rfl) (by kernel_rfl) (by decide) (Rg.rel (Px.relP x (Rx.hdr k f a n cap) (fun j => B j ∧ j ≠ w.heap.size + 1))) (Px.WP x (fun j => B j ∧ j ≠ w.heap.size + 1) w k f a n cap) (fun w w' => Below w.heap.size w w') (fun i v w w' h _ hb => Rg.rel_up (Px.relP_up _ _ _) h hb) (WP.up (Below.refl _ _).drew) ⟨?_, ?_, ?_, ?_, ?_, ?_, trivial⟩ ?_
    · intro f u hw hd
      have HW := Lib.hid hw
      clear hw hd
      simp only [Rg.step, Rg.all, Act.put, List.setIfInBounds_toArray, List.set_cons_zero, List.set_cons_succ]
      have c0 := HW.out.one.cell.c0; have c1 := HW.out.one.cell.c1; have c2 := HW.out.one.cell.c2; have c3 := HW.out.one.cell.c3; have c4 := HW.out.one.cell.c4; have c5 := HW.out.one.cell.c5
      simp only [Nat.zero_add] at c0 c1 c2 c3 c4 c5
      go_simp
      exact ⟨rfl, HW.out, Below.refl _ _⟩
    · intro f u hw hd
      have HW := Lib.hid hw
      clear hw hd
      simp only [Rg.step, Rg.all, Act.put, List.setIfInBounds_toArray, List.set_cons_zero, List.set_cons_succ]
      have c0 := HW.out.one.cell.c0; have c1 := HW.out.one.cell.c1; have c2 := HW.out.one.cell.c2; have c3 := HW.out.one.cell.c3; have c4 := HW.out.one.cell.c4; have c5 := HW.out.one.cell.c5
      simp only [Nat.zero_add] at c0 c1 c2 c3 c4 c5
      go_simp
      exact ⟨rfl, HW.out, Below.refl _ _⟩
    · intro f' u hw hd
      have r1 : f' 1 = Rx.hdr k f a n cap := hd _ (List.mem_cons_self ..)
      have hsz := hw.sz
      have HW := Lib.hid hw
      clear hw hd
      simp only [Rg.step, Rg.all, Act.put, List.setIfInBounds_toArray, List.set_cons_zero, List.set_cons_succ]
      go_simp
      refine (copied_any x.size x (Nat.le_refl _) hs _ u HW.out.is.is).mono ?_
      rintro e u1 ⟨v, rfl, hy, hb⟩
      exact ⟨_, rfl, hy.mono (fun j hj => ⟨hB _ (by omega), by omega⟩), HW.out.up hb, hb⟩
    · intro f' u hw hd
      have r2 : Rx.IsB u (fun j => B j ∧ j ≠ w.heap.size + 1) x (f' 2) := hd _ (List.mem_cons_self ..)
      have R2 := Lib.hid r2
      have hsz := hw.sz
      clear r2
      have HW := Lib.hid hw
      clear hw hd
      simp only [Rg.step, Rg.all, Act.put, List.setIfInBounds_toArray, List.set_cons_zero, List.set_cons_succ]
      go_simp
      refine (star_any x _ (fun j => B j ∧ j ≠ w.heap.size + 1) u (fun j hj => ⟨hB _ (by omega), by omega⟩) R2.out).mono ?_
      rintro e u1 ⟨v, rfl, hy, hb⟩
      exact ⟨_, rfl, hy, HW.out.up hb, hb⟩
    · intro f' u hw hd
      have r0 : f' 0 = Rx.hdr k f a n cap := hd _ (List.mem_cons_self ..)
      have r3 : Rx.IsB u (fun j => B j ∧ j ≠ w.heap.size + 1) (Rx.star x) (f' 3) := hd _ (List.mem_cons_of_mem _ (List.mem_cons_self ..))
      have q := r3.form
      obtain ⟨k3, f3, a3, n3, c3, e3⟩ := q
      rw [e3] at r3
      have R3 := Lib.hid r3
      have hsz := hw.sz
      clear r3
      unfold Rx.hdr at e3 r0
      have HW := Lib.hid hw
      clear hw hd
      simp only [Rg.step, Rg.all, Act.put, List.setIfInBounds_toArray, List.set_cons_zero, List.set_cons_succ]
      go_simp
      exact ⟨⟨_, rfl, Rx.built (B := (fun j => B j ∧ j ≠ w.heap.size + 1)) (xs := [x, Rx.star x]) (cs := Rx.six k f a n cap ++ (Rx.six k3 f3 a3 n3 c3 ++ ([]))) ⟨k, f, a, n, cap, _, rfl, HW.out.is, ⟨k3, f3, a3, n3, c3, _, rfl, R3.out, rfl⟩⟩ ⟨hB _ (by omega), by omega⟩ rfl⟩, HW.out.up (Bs.below1 u _), Bs.below1 u _⟩
    · intro f' u hw hd
      obtain ⟨g5, e5, h5⟩ : ∃ g, f' 4 = .slice (some ⟨g, 0, none⟩) 2 2 ∧ Rx.InBL u (fun j => B j ∧ j ≠ w.heap.size + 1) [x, Rx.star x] (some ⟨g, 0, none⟩) 0 := hd _ (List.mem_cons_self ..)
      have H5 := Lib.hid h5
      clear h5
      have HW := Lib.hid hw
      clear hw hd
      simp only [Rg.step, Rg.all, Act.put, List.setIfInBounds_toArray, List.set_cons_zero, List.set_cons_succ]
      go_simp
      refine (joined_any 2 (by decide) [x, Rx.star x] _ 2 _ u H5.out).mono ?_
      rintro e u1 ⟨v, rfl, hy, hb⟩
      exact ⟨_, rfl, hy, HW.out.up hb, hb⟩
    · intro f' u hw hR o ho
      have r5 : Rx.IsB u (fun j => B j ∧ j ≠ w.heap.size + 1) (Rx.plus x) (f' 5) := hR 5 (by decide)
      simp at ho
      subst ho
      simp only [Rg.step, Rg.all, Act.put, List.setIfInBounds_toArray, List.set_cons_zero, List.set_cons_succ]
      have q := r5.form
      obtain ⟨k9, f9, a9, n9, c9, e9⟩ := q
      rw [e9] at r5
      have R := Lib.hid r5
      have A := Lib.hid hw.bel
      have d0 := hw.nod.cell.c0; have d1 := hw.nod.cell.c1; have d2 := hw.nod.cell.c2; have d3 := hw.nod.cell.c3; have d4 := hw.nod.cell.c4; have d5 := hw.nod.cell.c5
      have y := hw.nod.frz
      simp only [Nat.zero_add] at d0 d1 d2 d3 d4 d5
      have y0 := y 0 (by decide); have y1 := y 1 (by decide); have y2 := y 2 (by decide); have y3 := y 3 (by decide); have y4 := y 4 (by decide); have y5 := y 5 (by decide)
      clear y r5 hw hR
      unfold Rx.hdr at e9
      go_simp
      go_wp2_with fail
      refine bodyPost_ret (v := Rx.hdr k9 f9 a9 n9 c9) (by simp [results, Try.results93, go_sem, Rx.hdr, d0, d1, d2, d3, d4, d5]) rfl ⟨_, rfl, ?_, ?_⟩
      · rw [HR.out]; exact (R.out.wr (b := w.heap.size + 1) (by omega) k9 f9 a9 n9 c9).mono (fun j hj => hj.1)
      · exact Rx.wr_below A.out (by omega) k9 f9 a9 n9 c9
  have e2 : (c == 43) = false := beq_eq_false_iff_ne.2 h2
  have HR := Lib.hid (show Px.rept x c = Rx.opt x by unfold Px.rept; rw [if_neg h1, if_neg h2])
  clear h1 h2
  have hsz : ((w.alloc (.cells #[.int .u8 k, .int .u64 (Bs.word f 0), .int .u64 (Bs.word f 1), .int .u64 (Bs.word f 2), .int .u64 (Bs.word f 3), .slice a n cap] 28)).alloc (.cells #[.int .u8 0, .int .u64 0, .int .u64 0, .int .u64 0, .int .u64 0, .slice none 0 0] 28)).heap.size = w.heap.size + 2 := by simp [go_sem]
  go_wp2_with fail
  generalize (w.alloc (.cells #[.int .u8 k, .int .u64 (Bs.word f 0), .int .u64 (Bs.word f 1), .int .u64 (Bs.word f 2), .int .u64 (Bs.word f 3), .slice a n cap] 28)).alloc (.cells #[.int .u8 0, .int .u64 0, .int .u64 0, .int .u64 0, .int .u64 0, .slice none 0 0] 28) = W at *
  have HI := Lib.hid (Rx.built (C := #[.int .u8 k, .int .u64 (Bs.word f 0), .int .u64 (Bs.word f 1), .int .u64 (Bs.word f 2), .int .u64 (Bs.word f 3), .slice a n cap, .int .u8 0, .int .u64 0, .int .u64 0, .int .u64 0, .int .u64 0, .slice none 0 0]) (B := (fun j => B j ∧ j ≠ w.heap.size + 1)) (xs := [x, Rx.nil]) (cs := Rx.six k f a n cap ++ (Rx.six 0 (fun _ => false) none 0 0 ++ ([]))) ⟨k, f, a, n, cap, _, rfl, HX.out, ⟨0, _, none, 0, 0, _, rfl, Rx.isB_nil _ _, rfl⟩⟩ (by rw [hsz]; exact ⟨hB _ (by omega), by omega⟩) (by simp [Rx.six, Bs.word_none]))
  rw [hsz] at HI
  have hb := Bs.below1 W (.cells #[.int .u8 k, .int .u64 (Bs.word f 0), .int .u64 (Bs.word f 1), .int .u64 (Bs.word f 2), .int .u64 (Bs.word f 3), .slice a n cap, .int .u8 0, .int .u64 0, .int .u64 0, .int .u64 0, .int .u64 0, .slice none 0 0] 28)
  replace N2 := N2.up hb
  replace A := Bs.below_up A hb
  clear hb c0 c1 c2 c3 c4 c5 N1 HX
  refine (joined_any 3 (by decide) [x, Rx.nil] _ 2 _ _ HI.out).mono ?_
  rintro e w1 ⟨v1, rfl, hy, hb⟩
  replace N2 := N2.up hb
  replace A := Bs.below_up A hb
  clear hb HI
  obtain ⟨k2, f2, a2, n2, cap2, rfl⟩ := hy.form
  have HY := Lib.hid hy
  clear hy
  obtain ⟨⟨d0, d1, d2, d3, d4, d5⟩, y⟩ := N2
  simp only [Nat.zero_add] at d0 d1 d2 d3 d4 d5
  have y0 := y 0 (by decide); have y1 := y 1 (by decide); have y2 := y 2 (by decide); have y3 := y 3 (by decide); have y4 := y 4 (by decide); have y5 := y 5 (by decide)
  clear y
  unfold Rx.hdr
  go_wp2_with fail
  refine bodyPost_ret (v := Rx.hdr k2 f2 a2 n2 cap2) (by simp [results, Try.results93, go_sem, Rx.hdr, d0, d1, d2, d3, d4, d5]) rfl ⟨_, rfl, ?_, ?_⟩
  · rw [HR.out]; exact (HY.out.wr (b := w.heap.size + 1) (by omega) k2 f2 a2 n2 cap2).mono (fun j hj => hj.1)
  · exact Rx.wr_below A (by omega) k2 f2 a2 n2 cap2
open Go.RowKit
def Px.rel1 (s : Nat → Bool) (base : Nat) : List (Value → World → Prop) := [
  fun v _ => v = Bs.val (Bs.rng 0 127),
  fun v _ => v = Bs.val s,
  fun v w => ∃ g, v = .slice (some ⟨g, 0, none⟩) 1 1 ∧ Bs.Byt w (some ⟨g, 0, none⟩) [10],
  fun v _ => v = Bs.val (Bs.ofL [10]),
  fun v w => ∃ g, v = .slice (some ⟨g, 0, none⟩) 2 2 ∧ Bs.Row w (some ⟨g, 0, none⟩) [s, Bs.ofL [10]],
  fun v _ => v = Bs.val (Bs.orL [s, Bs.ofL [10]]),
  fun v _ => v = Bs.val (fun c => Bs.rng 0 127 c && !Bs.orL [s, Bs.ofL [10]] c),
  fun v w => ∃ g, v = .pointer (some ⟨g, 0, none⟩) ∧ base ≤ g ∧ Bs.Box w g (fun _ => false)]
theorem Px.rel1_up (s : Nat → Bool) (base : Nat) : Rg.Ups (Px.rel1 s base) := by
  refine ⟨?_, ?_, ?_, ?_, ?_, ?_, ?_, ?_, trivial⟩
  all_goals intro v w w' h hb
  all_goals (first | exact h | (obtain ⟨g, e, h⟩ := h; exact ⟨g, e, h.up hb⟩) | (obtain ⟨g, e, h1, h⟩ := h; exact ⟨g, e, h1, h.up hb⟩))
structure Px.W1 (s : Nat → Bool) (w0 w : World) : Prop where
  box : Bs.Box w w0.heap.size s
  nod : Rx.Nod w (w0.heap.size + 1) 0 (fun _ => false) none 0 0
  bel : Below w0.heap.size w0 w
theorem Px.W1.up {s : Nat → Bool} {w0 w w' : World} (h : Px.W1 s w0 w) (hb : Below w.heap.size w w') : Px.W1 s w0 w' := ⟨h.box.up hb, h.nod.up hb, Bs.below_up h.bel hb⟩
theorem Px.row_two (u : World) (f g : Nat → Bool) : Bs.Row (u.alloc (.cells #[.int .u64 (Bs.word f 0), .int .u64 (Bs.word f 1), .int .u64 (Bs.word f 2), .int .u64 (Bs.word f 3), .int .u64 (Bs.word g 0), .int .u64 (Bs.word g 1), .int .u64 (Bs.word g 2), .int .u64 (Bs.word g 3)] 25)) (some ⟨u.heap.size, 0, none⟩) [f, g] := by
  intro i hi
  simp at hi
  have : i = 0 ∨ i = 1 := by omega
  rcases this with rfl | rfl
  · refine ⟨_, rfl, ⟨?_, ?_, ?_, ?_⟩⟩ <;> simp [go_sem, Addr.add]
  · refine ⟨_, rfl, ⟨?_, ?_, ?_, ?_⟩⟩ <;> simp [go_sem, Addr.add]
def Px.rel3 (L : Nat → Bool) (base : Nat) : List (Value → World → Prop) := [
  fun v _ => v = Bs.val L,
  fun v w => Rx.IsB w (base ≤ ·) (Rx.one L) v,
  fun v w => Rx.IsB w (base ≤ ·) (Rx.one (Rx.rng 194 223)) v,
  fun v w => Rx.IsB w (base ≤ ·) (Rx.one (Rx.rng 128 191)) v,
  fun v w => ∃ g, v = .slice (some ⟨g, 0, none⟩) 2 2 ∧ Rx.InBL w (base ≤ ·) [Rx.one (Rx.rng 194 223), Rx.one (Rx.rng 128 191)] (some ⟨g, 0, none⟩) 0,
  fun v w => Rx.IsB w (base ≤ ·) (.node 2 (fun _ => false) [Rx.one (Rx.rng 194 223), Rx.one (Rx.rng 128 191)]) v,
  fun v w => Rx.IsB w (base ≤ ·) (Rx.one (Rx.rng 224 239)) v,
  fun v w => Rx.IsB w (base ≤ ·) (Rx.one (Rx.rng 128 191)) v,
  fun v w => Rx.IsB w (base ≤ ·) (Rx.one (Rx.rng 128 191)) v,
  fun v w => ∃ g, v = .slice (some ⟨g, 0, none⟩) 3 3 ∧ Rx.InBL w (base ≤ ·) [Rx.one (Rx.rng 224 239), Rx.one (Rx.rng 128 191), Rx.one (Rx.rng 128 191)] (some ⟨g, 0, none⟩) 0,
  fun v w => Rx.IsB w (base ≤ ·) (.node 2 (fun _ => false) [Rx.one (Rx.rng 224 239), Rx.one (Rx.rng 128 191), Rx.one (Rx.rng 128 191)]) v,
  fun v w => Rx.IsB w (base ≤ ·) (Rx.one (Rx.rng 240 244)) v,
  fun v w => Rx.IsB w (base ≤ ·) (Rx.one (Rx.rng 128 191)) v,
  fun v w => Rx.IsB w (base ≤ ·) (Rx.one (Rx.rng 128 191)) v,
  fun v w => Rx.IsB w (base ≤ ·) (Rx.one (Rx.rng 128 191)) v,
  fun v w => ∃ g, v = .slice (some ⟨g, 0, none⟩) 4 4 ∧ Rx.InBL w (base ≤ ·) [Rx.one (Rx.rng 240 244), Rx.one (Rx.rng 128 191), Rx.one (Rx.rng 128 191), Rx.one (Rx.rng 128 191)] (some ⟨g, 0, none⟩) 0,
  fun v w => Rx.IsB w (base ≤ ·) (.node 2 (fun _ => false) [Rx.one (Rx.rng 240 244), Rx.one (Rx.rng 128 191), Rx.one (Rx.rng 128 191), Rx.one (Rx.rng 128 191)]) v,
  fun v w => ∃ g, v = .slice (some ⟨g, 0, none⟩) 4 4 ∧ Rx.InBL w (base ≤ ·) [Rx.one L, (.node 2 (fun _ => false) [Rx.one (Rx.rng 194 223), Rx.one (Rx.rng 128 191)]), (.node 2 (fun _ => false) [Rx.one (Rx.rng 224 239), Rx.one (Rx.rng 128 191), Rx.one (Rx.rng 128 191)]), (.node 2 (fun _ => false) [Rx.one (Rx.rng 240 244), Rx.one (Rx.rng 128 191), Rx.one (Rx.rng 128 191), Rx.one (Rx.rng 128 191)])] (some ⟨g, 0, none⟩) 0,
  fun v w => Rx.IsB w (base ≤ ·) (.node 3 (fun _ => false) [Rx.one L, (.node 2 (fun _ => false) [Rx.one (Rx.rng 194 223), Rx.one (Rx.rng 128 191)]), (.node 2 (fun _ => false) [Rx.one (Rx.rng 224 239), Rx.one (Rx.rng 128 191), Rx.one (Rx.rng 128 191)]), (.node 2 (fun _ => false) [Rx.one (Rx.rng 240 244), Rx.one (Rx.rng 128 191), Rx.one (Rx.rng 128 191), Rx.one (Rx.rng 128 191)])]) v]
theorem Px.rel3_up (L : Nat → Bool) (base : Nat) : Rg.Ups (Px.rel3 L base) := by
  refine ⟨?_, ?_, ?_, ?_, ?_, ?_, ?_, ?_, ?_, ?_, ?_, ?_, ?_, ?_, ?_, ?_, ?_, ?_, ?_, trivial⟩
  all_goals intro v w w' h hb
  all_goals (first | exact h | exact Rx.IsB.up hb h | (obtain ⟨g, e, h⟩ := h; exact ⟨g, e, h.up hb⟩))
structure Px.W3 (L : Nat → Bool) (w0 : World) (g g4 k : Nat) (f : Nat → Bool) (a : Option Addr) (n cap : Nat) (w : World) : Prop where
  low : Bs.Box w g L
  nxt : Rx.Nod w g4 k f a n cap
  is : Rx.IsB w (w0.heap.size + 2 ≤ ·) (Rx.one (Rx.rng 128 191)) (Rx.hdr k f a n cap)
  nod : Rx.Nod w (w0.heap.size + 1) 0 (fun _ => false) none 0 0
  bel : Below w0.heap.size w0 w
theorem Px.W3.up {L : Nat → Bool} {w0 : World} {g g4 k : Nat} {f : Nat → Bool} {a : Option Addr} {n cap : Nat} {w w' : World} (h : Px.W3 L w0 g g4 k f a n cap w) (hb : Below w.heap.size w w') : Px.W3 L w0 g g4 k f a n cap w' := ⟨h.low.up hb, h.nxt.up hb, h.is.up hb, h.nod.up hb, Bs.below_up h.bel hb⟩
theorem Px.W3.sz {L : Nat → Bool} {w0 : World} {g g4 k : Nat} {f : Nat → Bool} {a : Option Addr} {n cap : Nat} {w : World} (h : Px.W3 L w0 g g4 k f a n cap w) : w0.heap.size + 2 ≤ w.heap.size := h.nod.lt
theorem Px.low_is (s : Nat → Bool) : (fun c => Bs.rng 0 127 c && !Bs.orL [s, Bs.ofL [10]] c) = fun c => decide (c < 128) && !(s c || Rx.rng 10 10 c) := by
  funext c
  rw [Bool.eq_iff_iff]
  cases hs : s c <;> simp [Bs.rng, Bs.orL, Bs.ofL, Rx.rng, hs] <;> omega
set_option maxRecDepth 100000 in
set_option maxHeartbeats 8000000 in
theorem signBut_any (s : Nat → Bool) (w : World) : Calls Try.prog 99 #[Bs.val s] w (Px.XPost w (w.heap.size ≤ ·) (Rx.but fun c => s c || Rx.rng 10 10 c)) := by
  have X := (Bs.box_new w s 25).up (Bs.below1 _ (.cells #[.int .u8 0, .int .u64 0, .int .u64 0, .int .u64 0, .int .u64 0, .slice none 0 0] 28))
  have N := Rx.nod_zero (w.alloc (.cells #[.int .u64 (Bs.word s 0), .int .u64 (Bs.word s 1), .int .u64 (Bs.word s 2), .int .u64 (Bs.word s 3)] 25))
  have eN : (w.alloc (.cells #[.int .u64 (Bs.word s 0), .int .u64 (Bs.word s 1), .int .u64 (Bs.word s 2), .int .u64 (Bs.word s 3)] 25)).heap.size = w.heap.size + 1 := by simp [go_sem]
  rw [eN] at N
  have W1 : Px.W1 s w _ := ⟨X, N, Bs.below2 w _ _⟩
  clear X N eN
  unfold Bs.val
  go_enter Try.func99, Try.ntmps99
  go_upto_region 1 with fail
  generalize (w.alloc (.cells #[.int .u64 (Bs.word s 0), .int .u64 (Bs.word s 1), .int .u64 (Bs.word s 2), .int .u64 (Bs.word s 3)] 25)).alloc (.cells #[.int .u8 0, .int .u64 0, .int .u64 0, .int .u64 0, .int .u64 0, .slice none 0 0] 28) = W at *
  refine Rg.regionT (by kernel_rfl) (by kernel_rfl) (by kernel_rfl) (by decide) (Rg.rel (Px.rel1 s (w.heap.size + 2))) (Px.W1 s w) (fun w w' => Below w.heap.size w w') (fun i v w w' h _ hb => Rg.rel_up (Px.rel1_up _ _) h hb) (W1.up (Below.refl _ _).drew) ⟨?_, ?_, ?_, ?_, ?_, ?_, ?_, ?_, trivial⟩ ?_
  · intro f u hw hd
    have HW := Lib.hid hw
    clear hw hd
    simp only [Rg.step, Rg.all, Act.put, List.setIfInBounds_toArray, List.set_cons_zero, List.set_cons_succ]
    go_simp
    refine (rangeB_any 0 127 u).mono ?_
    rintro e u1 ⟨rfl, hb⟩
    exact ⟨_, rfl, rfl, HW.out.up hb, hb⟩
  · intro f u hw hd
    have c0 := hw.box.cell 0 (by decide); have c1 := hw.box.cell 1 (by decide); have c2 := hw.box.cell 2 (by decide); have c3 := hw.box.cell 3 (by decide)
    have HW := Lib.hid hw
    clear hw hd
    simp only [Rg.step, Rg.all, Act.put, List.setIfInBounds_toArray, List.set_cons_zero, List.set_cons_succ]
    go_simp
    first | exact ⟨rfl, HW.out, Below.refl _ _⟩ | exact ⟨HW.out, Below.refl _ _⟩
  · intro f u hw hd
    have HW := Lib.hid hw
    clear hw hd
    simp only [Rg.step, Rg.all, Act.put, List.setIfInBounds_toArray, List.set_cons_zero, List.set_cons_succ]
    go_simp
    exact ⟨⟨_, rfl, Px.byt_one u 10 _⟩, HW.out.up (Bs.below1 u _), Bs.below1 u _⟩
  · intro f u hw hd
    obtain ⟨g, e2, hb2⟩ : Rg.rel (Px.rel1 s (w.heap.size + 2)) 2 (f 2) u := hd _ (List.mem_cons_self ..)
    have HW := Lib.hid hw
    clear hw hd
    simp only [Rg.step, Rg.all, Act.put, List.setIfInBounds_toArray, List.set_cons_zero, List.set_cons_succ]
    go_simp
    refine (ofB_any _ [10] 1 u hb2 (by simp) (by simp)).mono ?_
    rintro e u1 ⟨rfl, hb⟩
    exact ⟨_, rfl, rfl, HW.out.up hb, hb⟩
  · intro f u hw hd
    have e1 : f 1 = Bs.val s := hd _ (List.mem_cons_self ..)
    have e3 : f 3 = Bs.val (Bs.ofL [10]) := hd _ (List.mem_cons_of_mem _ (List.mem_cons_self ..))
    unfold Bs.val at e1 e3
    have HW := Lib.hid hw
    clear hw hd
    simp only [Rg.step, Rg.all, Act.put, List.setIfInBounds_toArray, List.set_cons_zero, List.set_cons_succ]
    go_simp
    exact ⟨⟨_, rfl, Px.row_two u s (Bs.ofL [10])⟩, HW.out.up (Bs.below1 u _), Bs.below1 u _⟩
  · intro f u hw hd
    obtain ⟨g, e4, hb4⟩ : Rg.rel (Px.rel1 s (w.heap.size + 2)) 4 (f 4) u := hd _ (List.mem_cons_self ..)
    have HW := Lib.hid hw
    clear hw hd
    simp only [Rg.step, Rg.all, Act.put, List.setIfInBounds_toArray, List.set_cons_zero, List.set_cons_succ]
    go_simp
    refine (orB_any _ [s, Bs.ofL [10]] 2 u hb4 (by simp)).mono ?_
    rintro e u1 ⟨rfl, hb⟩
    exact ⟨_, rfl, rfl, HW.out.up hb, hb⟩
  · intro f u hw hd
    have e0 : f 0 = Bs.val (Bs.rng 0 127) := hd _ (List.mem_cons_self ..)
    have e5 : f 5 = Bs.val (Bs.orL [s, Bs.ofL [10]]) := hd _ (List.mem_cons_of_mem _ (List.mem_cons_self ..))
    have HW := Lib.hid hw
    clear hw hd
    simp only [Rg.step, Rg.all, Act.put, List.setIfInBounds_toArray, List.set_cons_zero, List.set_cons_succ]
    go_simp
    refine (lessB_any _ _ u).mono ?_
    rintro e u1 ⟨rfl, hb⟩
    exact ⟨_, rfl, rfl, HW.out.up hb, hb⟩
  · intro f u hw hd
    have hsz : w.heap.size + 2 ≤ u.heap.size := hw.nod.lt
    have HW := Lib.hid hw
    clear hw hd
    simp only [Rg.step, Rg.all, Act.put, List.setIfInBounds_toArray, List.set_cons_zero, List.set_cons_succ]
    go_simp
    exact ⟨⟨_, rfl, hsz, Bs.box_zero u _⟩, HW.out.up (Bs.below1 u _), Bs.below1 u _⟩
  · intro f u hw hR o ho
    have e6 : f 6 = _ := hR 6 (by decide)
    obtain ⟨g, e7, hg, Bx⟩ : Rg.rel (Px.rel1 s (w.heap.size + 2)) 7 (f 7) u := hR 7 (by decide)
    simp at ho
    subst ho
    have z0 := Bx.cell 0 (by decide); have z1 := Bx.cell 1 (by decide); have z2 := Bx.cell 2 (by decide); have z3 := Bx.cell 3 (by decide)
    have g0 := Bx.frz 0 (by decide); have g1 := Bx.frz 1 (by decide); have g2 := Bx.frz 2 (by decide); have g3 := Bx.frz 3 (by decide)
    unfold Bs.val at e6
    simp only [Rg.step, Rg.all, Act.put, List.setIfInBounds_toArray, List.set_cons_zero, List.set_cons_succ]
    go_simp
    have B1 := Bx.write (fun c => Bs.rng 0 127 c && !Bs.orL [s, Bs.ofL [10]] c)
    have n1 : g ≠ w.heap.size + 1 := by omega
    have N1 : Rx.Nod ((((u.setCell ⟨g, 0, none⟩ (.int .u64 (Bs.word (fun c => Bs.rng 0 127 c && !Bs.orL [s, Bs.ofL [10]] c) 0))).setCell ⟨g, 1, none⟩ (.int .u64 (Bs.word (fun c => Bs.rng 0 127 c && !Bs.orL [s, Bs.ofL [10]] c) 1))).setCell ⟨g, 2, none⟩ (.int .u64 (Bs.word (fun c => Bs.rng 0 127 c && !Bs.orL [s, Bs.ofL [10]] c) 2))).setCell ⟨g, 3, none⟩ (.int .u64 (Bs.word (fun c => Bs.rng 0 127 c && !Bs.orL [s, Bs.ofL [10]] c) 3))) (w.heap.size + 1) 0 (fun _ => false) none 0 0 :=
      hw.nod.grown (Rx.grown_set (Rx.grown_set (Rx.grown_set (Rx.grown_set (Rx.grown_of g (Below.refl _ _)) _ _) _ _) _ _) _ _) (Ne.symm n1)
    have L1 := Bs.set4 hw.bel (b := g) (by omega) (.int .u64 (Bs.word (fun c => Bs.rng 0 127 c && !Bs.orL [s, Bs.ofL [10]] c) 0)) (.int .u64 (Bs.word (fun c => Bs.rng 0 127 c && !Bs.orL [s, Bs.ofL [10]] c) 1)) (.int .u64 (Bs.word (fun c => Bs.rng 0 127 c && !Bs.orL [s, Bs.ofL [10]] c) 2)) (.int .u64 (Bs.word (fun c => Bs.rng 0 127 c && !Bs.orL [s, Bs.ofL [10]] c) 3))
    have HL := Lib.hid (Px.low_is s)
    generalize (fun c => Bs.rng 0 127 c && !Bs.orL [s, Bs.ofL [10]] c) = L at *
    clear z0 z1 z2 z3 g0 g1 g2 g3 Bx hw hR e6 W1
    generalize (((u.setCell ⟨g, 0, none⟩ (.int .u64 (Bs.word L 0))).setCell ⟨g, 1, none⟩ (.int .u64 (Bs.word L 1))).setCell ⟨g, 2, none⟩ (.int .u64 (Bs.word L 2))).setCell ⟨g, 3, none⟩ (.int .u64 (Bs.word L 3)) = V at *
    generalize f 0 = v0 at *
    generalize f 1 = v1 at *
    generalize f 2 = v2 at *
    generalize f 3 = v3 at *
    generalize f 4 = v4 at *
    generalize f 5 = v5 at *
    clear e7
    clear f
    go_wp2_with fail
    refine (pspan_any 128 191 (w.heap.size + 2 ≤ ·) V).mono ?_
    rintro e u1 ⟨v12, rfl, hx, hb⟩
    replace B1 := B1.up hb
    replace N1 := N1.up hb
    replace L1 := Bs.below_up L1 hb
    clear hb
    obtain ⟨k, fk, a, n, cap, rfl⟩ := hx.form
    have A := Bs.below1 u1 (.cells #[.int .u8 k, .int .u64 (Bs.word fk 0), .int .u64 (Bs.word fk 1), .int .u64 (Bs.word fk 2), .int .u64 (Bs.word fk 3), .slice a n cap] 28)
    have W3 : Px.W3 L w g u1.heap.size k fk a n cap _ := ⟨B1.up A, Rx.nod_new u1 k fk a n cap, hx.up A, N1.up A, Bs.below_up L1 A⟩
    clear B1 N1 L1 A hx
    unfold Rx.hdr
    go_upto_region 3 with fail
    generalize u1.alloc (.cells #[.int .u8 k, .int .u64 (Bs.word fk 0), .int .u64 (Bs.word fk 1), .int .u64 (Bs.word fk 2), .int .u64 (Bs.word fk 3), .slice a n cap] 28) = V1 at *
    generalize u1.heap.size = G at *
    refine Rg.regionT (by kernel_rfl) (by kernel_rfl) (by kernel_rfl) (by decide) (Rg.rel (Px.rel3 L (w.heap.size + 2))) (Px.W3 L w g G k fk a n cap) (fun w w' => Below w.heap.size w w') (fun i v w w' h _ hb => Rg.rel_up (Px.rel3_up _ _) h hb) (W3.up (Below.refl _ _).drew) ⟨?_, ?_, ?_, ?_, ?_, ?_, ?_, ?_, ?_, ?_, ?_, ?_, ?_, ?_, ?_, ?_, ?_, ?_, ?_, trivial⟩ ?_
    · intro f u hw hd
      have c0 := hw.low.cell 0 (by decide); have c1 := hw.low.cell 1 (by decide); have c2 := hw.low.cell 2 (by decide); have c3 := hw.low.cell 3 (by decide)
      have HW := Lib.hid hw
      clear hw hd
      simp only [Rg.step, Rg.all, Act.put, List.setIfInBounds_toArray, List.set_cons_zero, List.set_cons_succ]
      go_simp
      first | exact ⟨rfl, HW.out, Below.refl _ _⟩ | exact ⟨HW.out, Below.refl _ _⟩
    · intro f u hw hd
      have e0 : f 0 = Bs.val L := hd _ (List.mem_cons_self ..)
      have HW := Lib.hid hw
      clear hw hd
      simp only [Rg.step, Rg.all, Act.put, List.setIfInBounds_toArray, List.set_cons_zero, List.set_cons_succ]
      go_simp
      refine (pone_any L (w.heap.size + 2 ≤ ·) u).mono ?_
      rintro e u1 ⟨v, rfl, hx, hb⟩
      exact ⟨_, rfl, hx, HW.out.up hb, hb⟩
    · intro f u hw hd
      have HW := Lib.hid hw
      clear hw hd
      simp only [Rg.step, Rg.all, Act.put, List.setIfInBounds_toArray, List.set_cons_zero, List.set_cons_succ]
      go_simp
      refine (pspan_any 194 223 (w.heap.size + 2 ≤ ·) u).mono ?_
      rintro e u1 ⟨v, rfl, hx, hb⟩
      exact ⟨_, rfl, hx, HW.out.up hb, hb⟩
    · intro f u hw hd
      have HW := Lib.hid hw
      clear hw hd
      simp only [Rg.step, Rg.all, Act.put, List.setIfInBounds_toArray, List.set_cons_zero, List.set_cons_succ]
      have c0 := HW.out.nxt.cell.c0; have c1 := HW.out.nxt.cell.c1; have c2 := HW.out.nxt.cell.c2; have c3 := HW.out.nxt.cell.c3; have c4 := HW.out.nxt.cell.c4; have c5 := HW.out.nxt.cell.c5
      simp only [Nat.zero_add] at c0 c1 c2 c3 c4 c5
      go_simp
      exact ⟨HW.out.is, HW.out, Below.refl _ _⟩
    · intro f u hw hd
      have r2 : Rx.IsB u (w.heap.size + 2 ≤ ·) (Rx.one (Rx.rng 194 223)) (f 2) := hd _ (List.mem_cons_self ..)
      have r3 : Rx.IsB u (w.heap.size + 2 ≤ ·) (Rx.one (Rx.rng 128 191)) (f 3) := hd _ (List.mem_cons_of_mem _ (List.mem_cons_self ..))
      have q := r2.form
      obtain ⟨k2, f2, a2, n2, c2, e2⟩ := q
      rw [e2] at r2
      have R2 := Lib.hid r2
      clear r2
      unfold Rx.hdr at e2
      have q := r3.form
      obtain ⟨k3, f3, a3, n3, c3, e3⟩ := q
      rw [e3] at r3
      have R3 := Lib.hid r3
      clear r3
      unfold Rx.hdr at e3
      have hsz := hw.sz
      have HW := Lib.hid hw
      clear hw hd
      simp only [Rg.step, Rg.all, Act.put, List.setIfInBounds_toArray, List.set_cons_zero, List.set_cons_succ]
      go_simp
      exact ⟨⟨_, rfl, Rx.built (B := (w.heap.size + 2 ≤ ·)) (xs := [(Rx.one (Rx.rng 194 223)), (Rx.one (Rx.rng 128 191))]) (cs := Rx.six k2 f2 a2 n2 c2 ++ (Rx.six k3 f3 a3 n3 c3 ++ ([]))) ⟨k2, f2, a2, n2, c2, _, rfl, R2.out, ⟨k3, f3, a3, n3, c3, _, rfl, R3.out, rfl⟩⟩ hsz rfl⟩, HW.out.up (Bs.below1 u _), Bs.below1 u _⟩
    · intro f u hw hd
      obtain ⟨g5, e5, h5⟩ : ∃ g, f 4 = .slice (some ⟨g, 0, none⟩) 2 2 ∧ Rx.InBL u (w.heap.size + 2 ≤ ·) [Rx.one (Rx.rng 194 223), Rx.one (Rx.rng 128 191)] (some ⟨g, 0, none⟩) 0 := hd _ (List.mem_cons_self ..)
      have H5 := Lib.hid h5
      clear h5
      have HW := Lib.hid hw
      clear hw hd
      simp only [Rg.step, Rg.all, Act.put, List.setIfInBounds_toArray, List.set_cons_zero, List.set_cons_succ]
      go_simp
      refine (joined_any 2 (by decide) [Rx.one (Rx.rng 194 223), Rx.one (Rx.rng 128 191)] _ 2 _ u H5.out).mono ?_
      rintro e u1 ⟨v, rfl, hx, hb⟩
      exact ⟨_, rfl, hx, HW.out.up hb, hb⟩
    · intro f u hw hd
      have HW := Lib.hid hw
      clear hw hd
      simp only [Rg.step, Rg.all, Act.put, List.setIfInBounds_toArray, List.set_cons_zero, List.set_cons_succ]
      go_simp
      refine (pspan_any 224 239 (w.heap.size + 2 ≤ ·) u).mono ?_
      rintro e u1 ⟨v, rfl, hx, hb⟩
      exact ⟨_, rfl, hx, HW.out.up hb, hb⟩
    · intro f u hw hd
      have HW := Lib.hid hw
      clear hw hd
      simp only [Rg.step, Rg.all, Act.put, List.setIfInBounds_toArray, List.set_cons_zero, List.set_cons_succ]
      have c0 := HW.out.nxt.cell.c0; have c1 := HW.out.nxt.cell.c1; have c2 := HW.out.nxt.cell.c2; have c3 := HW.out.nxt.cell.c3; have c4 := HW.out.nxt.cell.c4; have c5 := HW.out.nxt.cell.c5
      simp only [Nat.zero_add] at c0 c1 c2 c3 c4 c5
      go_simp
      exact ⟨HW.out.is, HW.out, Below.refl _ _⟩
    · intro f u hw hd
      have HW := Lib.hid hw
      clear hw hd
      simp only [Rg.step, Rg.all, Act.put, List.setIfInBounds_toArray, List.set_cons_zero, List.set_cons_succ]
      have c0 := HW.out.nxt.cell.c0; have c1 := HW.out.nxt.cell.c1; have c2 := HW.out.nxt.cell.c2; have c3 := HW.out.nxt.cell.c3; have c4 := HW.out.nxt.cell.c4; have c5 := HW.out.nxt.cell.c5
      simp only [Nat.zero_add] at c0 c1 c2 c3 c4 c5
      go_simp
      exact ⟨HW.out.is, HW.out, Below.refl _ _⟩
    · intro f u hw hd
      have r6 : Rx.IsB u (w.heap.size + 2 ≤ ·) (Rx.one (Rx.rng 224 239)) (f 6) := hd _ (List.mem_cons_self ..)
      have r7 : Rx.IsB u (w.heap.size + 2 ≤ ·) (Rx.one (Rx.rng 128 191)) (f 7) := hd _ (List.mem_cons_of_mem _ (List.mem_cons_self ..))
      have r8 : Rx.IsB u (w.heap.size + 2 ≤ ·) (Rx.one (Rx.rng 128 191)) (f 8) := hd _ (List.mem_cons_of_mem _ (List.mem_cons_of_mem _ (List.mem_cons_self ..)))
      have q := r6.form
      obtain ⟨k6, f6, a6, n6, c6, e6⟩ := q
      rw [e6] at r6
      have R6 := Lib.hid r6
      clear r6
      unfold Rx.hdr at e6
      have q := r7.form
      obtain ⟨k7, f7, a7, n7, c7, e7⟩ := q
      rw [e7] at r7
      have R7 := Lib.hid r7
      clear r7
      unfold Rx.hdr at e7
      have q := r8.form
      obtain ⟨k8, f8, a8, n8, c8, e8⟩ := q
      rw [e8] at r8
      have R8 := Lib.hid r8
      clear r8
      unfold Rx.hdr at e8
      have hsz := hw.sz
      have HW := Lib.hid hw
      clear hw hd
      simp only [Rg.step, Rg.all, Act.put, List.setIfInBounds_toArray, List.set_cons_zero, List.set_cons_succ]
      go_simp
      exact ⟨⟨_, rfl, Rx.built (B := (w.heap.size + 2 ≤ ·)) (xs := [(Rx.one (Rx.rng 224 239)), (Rx.one (Rx.rng 128 191)), (Rx.one (Rx.rng 128 191))]) (cs := Rx.six k6 f6 a6 n6 c6 ++ (Rx.six k7 f7 a7 n7 c7 ++ (Rx.six k8 f8 a8 n8 c8 ++ ([])))) ⟨k6, f6, a6, n6, c6, _, rfl, R6.out, ⟨k7, f7, a7, n7, c7, _, rfl, R7.out, ⟨k8, f8, a8, n8, c8, _, rfl, R8.out, rfl⟩⟩⟩ hsz rfl⟩, HW.out.up (Bs.below1 u _), Bs.below1 u _⟩
    · intro f u hw hd
      obtain ⟨g5, e5, h5⟩ : ∃ g, f 9 = .slice (some ⟨g, 0, none⟩) 3 3 ∧ Rx.InBL u (w.heap.size + 2 ≤ ·) [Rx.one (Rx.rng 224 239), Rx.one (Rx.rng 128 191), Rx.one (Rx.rng 128 191)] (some ⟨g, 0, none⟩) 0 := hd _ (List.mem_cons_self ..)
      have H5 := Lib.hid h5
      clear h5
      have HW := Lib.hid hw
      clear hw hd
      simp only [Rg.step, Rg.all, Act.put, List.setIfInBounds_toArray, List.set_cons_zero, List.set_cons_succ]
      go_simp
      refine (joined_any 2 (by decide) [Rx.one (Rx.rng 224 239), Rx.one (Rx.rng 128 191), Rx.one (Rx.rng 128 191)] _ 3 _ u H5.out).mono ?_
      rintro e u1 ⟨v, rfl, hx, hb⟩
      exact ⟨_, rfl, hx, HW.out.up hb, hb⟩
    · intro f u hw hd
      have HW := Lib.hid hw
      clear hw hd
      simp only [Rg.step, Rg.all, Act.put, List.setIfInBounds_toArray, List.set_cons_zero, List.set_cons_succ]
      go_simp
      refine (pspan_any 240 244 (w.heap.size + 2 ≤ ·) u).mono ?_
      rintro e u1 ⟨v, rfl, hx, hb⟩
      exact ⟨_, rfl, hx, HW.out.up hb, hb⟩
    · intro f u hw hd
      have HW := Lib.hid hw
      clear hw hd
      simp only [Rg.step, Rg.all, Act.put, List.setIfInBounds_toArray, List.set_cons_zero, List.set_cons_succ]
      have c0 := HW.out.nxt.cell.c0; have c1 := HW.out.nxt.cell.c1; have c2 := HW.out.nxt.cell.c2; have c3 := HW.out.nxt.cell.c3; have c4 := HW.out.nxt.cell.c4; have c5 := HW.out.nxt.cell.c5
      simp only [Nat.zero_add] at c0 c1 c2 c3 c4 c5
      go_simp
      exact ⟨HW.out.is, HW.out, Below.refl _ _⟩
    · intro f u hw hd
      have HW := Lib.hid hw
      clear hw hd
      simp only [Rg.step, Rg.all, Act.put, List.setIfInBounds_toArray, List.set_cons_zero, List.set_cons_succ]
      have c0 := HW.out.nxt.cell.c0; have c1 := HW.out.nxt.cell.c1; have c2 := HW.out.nxt.cell.c2; have c3 := HW.out.nxt.cell.c3; have c4 := HW.out.nxt.cell.c4; have c5 := HW.out.nxt.cell.c5
      simp only [Nat.zero_add] at c0 c1 c2 c3 c4 c5
      go_simp
      exact ⟨HW.out.is, HW.out, Below.refl _ _⟩
    · intro f u hw hd
      have HW := Lib.hid hw
      clear hw hd
      simp only [Rg.step, Rg.all, Act.put, List.setIfInBounds_toArray, List.set_cons_zero, List.set_cons_succ]
      have c0 := HW.out.nxt.cell.c0; have c1 := HW.out.nxt.cell.c1; have c2 := HW.out.nxt.cell.c2; have c3 := HW.out.nxt.cell.c3; have c4 := HW.out.nxt.cell.c4; have c5 := HW.out.nxt.cell.c5
      simp only [Nat.zero_add] at c0 c1 c2 c3 c4 c5
      go_simp
      exact ⟨HW.out.is, HW.out, Below.refl _ _⟩
    · intro f u hw hd
      have r11 : Rx.IsB u (w.heap.size + 2 ≤ ·) (Rx.one (Rx.rng 240 244)) (f 11) := hd _ (List.mem_cons_self ..)
      have r12 : Rx.IsB u (w.heap.size + 2 ≤ ·) (Rx.one (Rx.rng 128 191)) (f 12) := hd _ (List.mem_cons_of_mem _ (List.mem_cons_self ..))
      have r13 : Rx.IsB u (w.heap.size + 2 ≤ ·) (Rx.one (Rx.rng 128 191)) (f 13) := hd _ (List.mem_cons_of_mem _ (List.mem_cons_of_mem _ (List.mem_cons_self ..)))
      have r14 : Rx.IsB u (w.heap.size + 2 ≤ ·) (Rx.one (Rx.rng 128 191)) (f 14) := hd _ (List.mem_cons_of_mem _ (List.mem_cons_of_mem _ (List.mem_cons_of_mem _ (List.mem_cons_self ..))))
      have q := r11.form
      obtain ⟨k11, f11, a11, n11, c11, e11⟩ := q
      rw [e11] at r11
      have R11 := Lib.hid r11
      clear r11
      unfold Rx.hdr at e11
      have q := r12.form
      obtain ⟨k12, f12, a12, n12, c12, e12⟩ := q
      rw [e12] at r12
      have R12 := Lib.hid r12
      clear r12
      unfold Rx.hdr at e12
      have q := r13.form
      obtain ⟨k13, f13, a13, n13, c13, e13⟩ := q
      rw [e13] at r13
      have R13 := Lib.hid r13
      clear r13
      unfold Rx.hdr at e13
      have q := r14.form
      obtain ⟨k14, f14, a14, n14, c14, e14⟩ := q
      rw [e14] at r14
      have R14 := Lib.hid r14
      clear r14
      unfold Rx.hdr at e14
      have hsz := hw.sz
      have HW := Lib.hid hw
      clear hw hd
      simp only [Rg.step, Rg.all, Act.put, List.setIfInBounds_toArray, List.set_cons_zero, List.set_cons_succ]
      go_simp
      exact ⟨⟨_, rfl, Rx.built (B := (w.heap.size + 2 ≤ ·)) (xs := [(Rx.one (Rx.rng 240 244)), (Rx.one (Rx.rng 128 191)), (Rx.one (Rx.rng 128 191)), (Rx.one (Rx.rng 128 191))]) (cs := Rx.six k11 f11 a11 n11 c11 ++ (Rx.six k12 f12 a12 n12 c12 ++ (Rx.six k13 f13 a13 n13 c13 ++ (Rx.six k14 f14 a14 n14 c14 ++ ([]))))) ⟨k11, f11, a11, n11, c11, _, rfl, R11.out, ⟨k12, f12, a12, n12, c12, _, rfl, R12.out, ⟨k13, f13, a13, n13, c13, _, rfl, R13.out, ⟨k14, f14, a14, n14, c14, _, rfl, R14.out, rfl⟩⟩⟩⟩ hsz rfl⟩, HW.out.up (Bs.below1 u _), Bs.below1 u _⟩
    · intro f u hw hd
      obtain ⟨g5, e5, h5⟩ : ∃ g, f 15 = .slice (some ⟨g, 0, none⟩) 4 4 ∧ Rx.InBL u (w.heap.size + 2 ≤ ·) [Rx.one (Rx.rng 240 244), Rx.one (Rx.rng 128 191), Rx.one (Rx.rng 128 191), Rx.one (Rx.rng 128 191)] (some ⟨g, 0, none⟩) 0 := hd _ (List.mem_cons_self ..)
      have H5 := Lib.hid h5
      clear h5
      have HW := Lib.hid hw
      clear hw hd
      simp only [Rg.step, Rg.all, Act.put, List.setIfInBounds_toArray, List.set_cons_zero, List.set_cons_succ]
      go_simp
      refine (joined_any 2 (by decide) [Rx.one (Rx.rng 240 244), Rx.one (Rx.rng 128 191), Rx.one (Rx.rng 128 191), Rx.one (Rx.rng 128 191)] _ 4 _ u H5.out).mono ?_
      rintro e u1 ⟨v, rfl, hx, hb⟩
      exact ⟨_, rfl, hx, HW.out.up hb, hb⟩
    · intro f u hw hd
      have r1 : Rx.IsB u (w.heap.size + 2 ≤ ·) (Rx.one L) (f 1) := hd _ (List.mem_cons_self ..)
      have r5 : Rx.IsB u (w.heap.size + 2 ≤ ·) (.node 2 (fun _ => false) [Rx.one (Rx.rng 194 223), Rx.one (Rx.rng 128 191)]) (f 5) := hd _ (List.mem_cons_of_mem _ (List.mem_cons_self ..))
      have r10 : Rx.IsB u (w.heap.size + 2 ≤ ·) (.node 2 (fun _ => false) [Rx.one (Rx.rng 224 239), Rx.one (Rx.rng 128 191), Rx.one (Rx.rng 128 191)]) (f 10) := hd _ (List.mem_cons_of_mem _ (List.mem_cons_of_mem _ (List.mem_cons_self ..)))
      have r16 : Rx.IsB u (w.heap.size + 2 ≤ ·) (.node 2 (fun _ => false) [Rx.one (Rx.rng 240 244), Rx.one (Rx.rng 128 191), Rx.one (Rx.rng 128 191), Rx.one (Rx.rng 128 191)]) (f 16) := hd _ (List.mem_cons_of_mem _ (List.mem_cons_of_mem _ (List.mem_cons_of_mem _ (List.mem_cons_self ..))))
      have q := r1.form
      obtain ⟨k1, f1, a1, n1, c1, e1⟩ := q
      rw [e1] at r1
      have R1 := Lib.hid r1
      clear r1
      unfold Rx.hdr at e1
      have q := r5.form
      obtain ⟨k5, f5, a5, n5, c5, e5⟩ := q
      rw [e5] at r5
      have R5 := Lib.hid r5
      clear r5
      unfold Rx.hdr at e5
      have q := r10.form
      obtain ⟨k10, f10, a10, n10, c10, e10⟩ := q
      rw [e10] at r10
      have R10 := Lib.hid r10
      clear r10
      unfold Rx.hdr at e10
      have q := r16.form
      obtain ⟨k16, f16, a16, n16, c16, e16⟩ := q
      rw [e16] at r16
      have R16 := Lib.hid r16
      clear r16
      unfold Rx.hdr at e16
      have hsz := hw.sz
      have HW := Lib.hid hw
      clear hw hd
      simp only [Rg.step, Rg.all, Act.put, List.setIfInBounds_toArray, List.set_cons_zero, List.set_cons_succ]
      go_simp
      exact ⟨⟨_, rfl, Rx.built (B := (w.heap.size + 2 ≤ ·)) (xs := [(Rx.one L), (.node 2 (fun _ => false) [Rx.one (Rx.rng 194 223), Rx.one (Rx.rng 128 191)]), (.node 2 (fun _ => false) [Rx.one (Rx.rng 224 239), Rx.one (Rx.rng 128 191), Rx.one (Rx.rng 128 191)]), (.node 2 (fun _ => false) [Rx.one (Rx.rng 240 244), Rx.one (Rx.rng 128 191), Rx.one (Rx.rng 128 191), Rx.one (Rx.rng 128 191)])]) (cs := Rx.six k1 f1 a1 n1 c1 ++ (Rx.six k5 f5 a5 n5 c5 ++ (Rx.six k10 f10 a10 n10 c10 ++ (Rx.six k16 f16 a16 n16 c16 ++ ([]))))) ⟨k1, f1, a1, n1, c1, _, rfl, R1.out, ⟨k5, f5, a5, n5, c5, _, rfl, R5.out, ⟨k10, f10, a10, n10, c10, _, rfl, R10.out, ⟨k16, f16, a16, n16, c16, _, rfl, R16.out, rfl⟩⟩⟩⟩ hsz rfl⟩, HW.out.up (Bs.below1 u _), Bs.below1 u _⟩
    · intro f u hw hd
      obtain ⟨g5, e5, h5⟩ : ∃ g, f 17 = .slice (some ⟨g, 0, none⟩) 4 4 ∧ Rx.InBL u (w.heap.size + 2 ≤ ·) [Rx.one L, (.node 2 (fun _ => false) [Rx.one (Rx.rng 194 223), Rx.one (Rx.rng 128 191)]), (.node 2 (fun _ => false) [Rx.one (Rx.rng 224 239), Rx.one (Rx.rng 128 191), Rx.one (Rx.rng 128 191)]), (.node 2 (fun _ => false) [Rx.one (Rx.rng 240 244), Rx.one (Rx.rng 128 191), Rx.one (Rx.rng 128 191), Rx.one (Rx.rng 128 191)])] (some ⟨g, 0, none⟩) 0 := hd _ (List.mem_cons_self ..)
      have H5 := Lib.hid h5
      clear h5
      have HW := Lib.hid hw
      clear hw hd
      simp only [Rg.step, Rg.all, Act.put, List.setIfInBounds_toArray, List.set_cons_zero, List.set_cons_succ]
      go_simp
      refine (joined_any 3 (by decide) [Rx.one L, (.node 2 (fun _ => false) [Rx.one (Rx.rng 194 223), Rx.one (Rx.rng 128 191)]), (.node 2 (fun _ => false) [Rx.one (Rx.rng 224 239), Rx.one (Rx.rng 128 191), Rx.one (Rx.rng 128 191)]), (.node 2 (fun _ => false) [Rx.one (Rx.rng 240 244), Rx.one (Rx.rng 128 191), Rx.one (Rx.rng 128 191), Rx.one (Rx.rng 128 191)])] _ 4 _ u H5.out).mono ?_
      rintro e u1 ⟨v, rfl, hx, hb⟩
      exact ⟨_, rfl, hx, HW.out.up hb, hb⟩
    · intro f u hw hR o ho
      have r18 : Rx.IsB u (w.heap.size + 2 ≤ ·) (.node 3 (fun _ => false) [Rx.one L, (.node 2 (fun _ => false) [Rx.one (Rx.rng 194 223), Rx.one (Rx.rng 128 191)]), (.node 2 (fun _ => false) [Rx.one (Rx.rng 224 239), Rx.one (Rx.rng 128 191), Rx.one (Rx.rng 128 191)]), (.node 2 (fun _ => false) [Rx.one (Rx.rng 240 244), Rx.one (Rx.rng 128 191), Rx.one (Rx.rng 128 191), Rx.one (Rx.rng 128 191)])]) (f 18) := hR 18 (by decide)
      simp at ho
      subst ho
      simp only [Rg.step, Rg.all, Act.put, List.setIfInBounds_toArray, List.set_cons_zero, List.set_cons_succ]
      have q := r18.form
      obtain ⟨k9, f9, a9, n9, c9, e9⟩ := q
      rw [e9] at r18
      have R := Lib.hid r18
      have A := Lib.hid hw.bel
      have d0 := hw.nod.cell.c0; have d1 := hw.nod.cell.c1; have d2 := hw.nod.cell.c2; have d3 := hw.nod.cell.c3; have d4 := hw.nod.cell.c4; have d5 := hw.nod.cell.c5
      have y := hw.nod.frz
      simp only [Nat.zero_add] at d0 d1 d2 d3 d4 d5
      have y0 := y 0 (by decide); have y1 := y 1 (by decide); have y2 := y 2 (by decide); have y3 := y 3 (by decide); have y4 := y 4 (by decide); have y5 := y 5 (by decide)
      clear y r18 hw hR
      unfold Rx.hdr at e9
      go_simp
      go_wp2_with fail
      refine bodyPost_ret (v := Rx.hdr k9 f9 a9 n9 c9) (by simp [results, Try.results99, go_sem, Rx.hdr, d0, d1, d2, d3, d4, d5]) rfl ⟨_, rfl, ?_, ?_⟩
      · have R2 := (R.out.wr (b := w.heap.size + 1) (by omega) k9 f9 a9 n9 c9).mono (B' := (w.heap.size ≤ ·)) (fun j hj => by omega)
        rw [HL.out] at R2
        exact R2
      · exact Rx.wr_below A.out (by omega) k9 f9 a9 n9 c9
open Go.RowKit
def Px.VPost (w : World) (r : Nat) (big : Bool) (o : Option (Rx × List Int)) (e : Ending) (w' : World) : Prop :=
  (match o with
  | some (x, t) => (∃ v, e = .returned v ∧ Rx.IsB w' (w.heap.size ≤ ·) x v) ∧ Px.St w' r t big
  | none => e = Px.up 20) ∧ w.grownBy w' (some r)
def Px.rest (g : Nat → Bool) (u : List Int) : Option ((Nat → Bool) × List Int) := if u.head? = some 93 then some (g, u.drop 1) else Rx.items g u
theorem Px.items_rest (g : Nat → Bool) (u : List Int) : Rx.items g u = match Rx.item u with
    | none => none
    | some ((lo, hi), r) => Px.rest (fun c => g c || Rx.rng lo hi c) r := by
  rw [Rx.items_eq]; rfl
theorem Px.or_is (g f : Nat → Bool) : Bs.orL [g, f] = fun c => g c || f c := by
  funext c; simp [Bs.orL]
def Px.relC (r : Nat) (g : Nat → Bool) (lo hi : Int) : List (Value → World → Prop) := [
  fun v _ => v = Bs.val g,
  fun v _ => v = .pointer (some ⟨r, 0, none⟩),
  fun v _ => v = Bs.val (Rx.rng lo hi),
  fun v w => ∃ b, v = .slice (some ⟨b, 0, none⟩) 2 2 ∧ b ≠ r ∧ Bs.Row w (some ⟨b, 0, none⟩) [g, Rx.rng lo hi],
  fun v _ => v = Bs.val (Bs.orL [g, Rx.rng lo hi])]
structure Px.WC (w0 : World) (r : Nat) (big : Bool) (G : Nat) (g : Nat → Bool) (lo hi : Int) (u u' : List Int) (L : Nat → Bool) (w : World) : Prop where
  box : Bs.Box w G g
  nod : Rx.Nod w w0.heap.size 0 (fun _ => false) none 0 0
  gr : w0.grownBy w (some r)
  st : Px.St w r (if L 2 then u' else u) big
  ok : L 2 = true → Rx.item u = some ((lo, hi), u')
theorem Px.WC.up {w0 : World} {r : Nat} {big : Bool} {G : Nat} {g : Nat → Bool} {lo hi : Int} {u u' : List Int} {L : Nat → Bool} {w w' : World} (h : Px.WC w0 r big G g lo hi u u' L w) (hb : Below w.heap.size w w') : Px.WC w0 r big G g lo hi u u' L w' := ⟨h.box.up hb, h.nod.up hb, Px.grown_up h.gr hb, h.st.up hb, h.ok⟩
theorem Px.WC.on {w0 : World} {r : Nat} {big : Bool} {G : Nat} {g : Nat → Bool} {lo hi : Int} {u u' : List Int} {L : Nat → Bool} {w : World} (i : Nat) (hi2 : i ≠ 2) (h : Px.WC w0 r big G g lo hi u u' L w) : Px.WC w0 r big G g lo hi u u' (fun k => decide (k = i) || L k) w := ⟨h.box, h.nod, h.gr, by simpa [Ne.symm hi2] using h.st, by simpa [Ne.symm hi2] using h.ok⟩
theorem Px.row_grown {w w' : World} {r b : Nat} {fs : List (Nat → Bool)} (h : Bs.Row w (some ⟨b, 0, none⟩) fs) (hn : b ≠ r) (hg : w.grownBy w' (some r)) : Bs.Row w' (some ⟨b, 0, none⟩) fs := fun i hi => by
  obtain ⟨x, e, h⟩ := h i hi
  injection e with e
  subst e
  have hx : ∀ (y : Addr) (v : Value), y.block = b → w.cell? y = some v → w'.cell? y = some v := fun y v e hv => hg.cell hv (by rw [e]; simpa using hn)
  have e1 : ((⟨b, 0, none⟩ : Addr).add (i * 4)).block = b := Rx.add_block _ _
  exact ⟨_, rfl, ⟨hx _ _ e1 h.c0, hx _ _ e1 h.c1, hx _ _ e1 h.c2, hx _ _ e1 h.c3⟩⟩
theorem Px.relC_up {r : Nat} {g : Nat → Bool} {lo hi : Int} {i : Nat} {v : Value} {w w' : World} (h : Rg.rel (Px.relC r g lo hi) i v w) (hg : w.grownBy w' (some r)) : Rg.rel (Px.relC r g lo hi) i v w' := by
  match i, h with
  | 0, h => exact h
  | 1, h => exact h
  | 2, h => exact h
  | 3, ⟨b, e, hn, h⟩ => exact ⟨b, e, hn, Px.row_grown h hn hg⟩
  | 4, h => exact h
  | _ + 5, _ => trivial
theorem Px.St.wr {w : World} {r : Nat} {t : List Int} {big : Bool} (h : Px.St w r t big) {b : Nat} (hd : b ≠ r) (k : Nat) (f : Nat → Bool) (a : Option Addr) (n cap : Nat) : Px.St (Rx.wr w b k f a n cap) r t big := (((((h.far hd 0 _).far hd 1 _).far hd 2 _).far hd 3 _).far hd 4 _).far hd 5 _
set_option maxRecDepth 100000 in
set_option maxHeartbeats 2000000 in
theorem class_any (r : Nat) (t : List Int) (big : Bool) (w : World) (h : Px.St w r t big) : Calls Try.prog 98 #[.pointer (some ⟨r, 0, none⟩)] w (Px.VPost w r big (Rx.cls t)) := by
  have hr := h.lt
  have nr : w.heap.size ≠ r := by omega
  have N := Rx.nod_zero w
  have A := Bs.below1 w (.cells #[.int .u8 0, .int .u64 0, .int .u64 0, .int .u64 0, .int .u64 0, .slice none 0 0] 28)
  have G0 := Rx.grown_of r A
  replace h := h.up A
  clear A
  -- the sign ^ is passed, or isn't there
  obtain ⟨but, t1, hbut, ht1, hcls⟩ : ∃ (but : Bool) (t1 : List Int), but = decide (t.head? = some 94) ∧ t1 = Px.passed 94 t ∧ Rx.cls t = (Rx.items (fun _ => false) t1).map fun p => (if but then Rx.but (fun c => p.1 c || Rx.rng 10 10 c) else Rx.one p.1, p.2) := by
    refine ⟨_, _, rfl, rfl, ?_⟩
    unfold Rx.cls Px.passed
    by_cases e : t.head? = some 94
    · simp [e]
    · simp [e]
  have HC := Lib.hid hcls
  have P := pass_any r t big 94 (by decide) (w.alloc (.cells #[.int .u8 0, .int .u64 0, .int .u64 0, .int .u64 0, .int .u64 0, .slice none 0 0] 28)) h
  unfold Px.PassPost at P
  rw [show ((94 : Nat) : Int) = 94 from rfl, ← hbut, ← ht1] at P
  clear hbut ht1 hcls h
  go_enter Try.func98, Try.ntmps98
  go_wp2_with fail
  generalize w.alloc (.cells #[.int .u8 0, .int .u64 0, .int .u64 0, .int .u64 0, .int .u64 0, .slice none 0 0] 28) = W at *
  refine P.mono ?_
  rintro e w1 ⟨rfl, h, g1⟩
  replace N := N.grown g1 nr
  replace G0 := G0.trans g1
  clear P g1
  have HI := Lib.hid (Px.items_rest (fun _ => false) t1)
  go_wp2_with fail
  refine (item_any r t1 big w1 h).mono ?_
  intro e w2 hP
  clear h
  generalize Rx.item t1 = o at *
  rcases o with _ | ⟨⟨lo, hi⟩, u0⟩
  · obtain ⟨rfl, g⟩ := hP
    exact ⟨rfl, by rw [HC.out, HI.out]; exact rfl, G0.trans g⟩
  obtain ⟨⟨rfl, h⟩, g⟩ := hP
  replace N := N.grown g nr
  replace G0 := G0.trans g
  clear g
  have HI2 := Lib.hid (show Rx.items (fun _ => false) t1 = Px.rest (Rx.rng lo hi) u0 by
    rw [HI.out]; simp)
  clear HI
  have A := Bs.below1 w2 (.cells #[.int .u64 (Bs.word (Rx.rng lo hi) 0), .int .u64 (Bs.word (Rx.rng lo hi) 1), .int .u64 (Bs.word (Rx.rng lo hi) 2), .int .u64 (Bs.word (Rx.rng lo hi) 3)] 25)
  have X := Bs.box_new w2 (Rx.rng lo hi) 25
  have hG : w.heap.size < w2.heap.size := N.lt
  have hGr : w2.heap.size ≠ r := by have := h.lt; omega
  replace N := N.up A
  replace G0 := Px.grown_up G0 A
  replace h := h.up A
  clear A
  unfold Bs.val
  go_wp2_with fail
  generalize w2.alloc (.cells #[.int .u64 (Bs.word (Rx.rng lo hi) 0), .int .u64 (Bs.word (Rx.rng lo hi) 1), .int .u64 (Bs.word (Rx.rng lo hi) 2), .int .u64 (Bs.word (Rx.rng lo hi) 3)] 25) = V at *
  generalize w2.heap.size = G at *
  go_loopg [] u0.length (fun gg wr => ∃ (g : Nat → Bool) (u : List Int), gg = u.length ∧ Rx.items (fun _ => false) t1 = Px.rest g u ∧ Bs.Box wr G g ∧ Rx.Nod wr w.heap.size 0 (fun _ => false) none 0 0 ∧ w.grownBy wr (some r) ∧ Px.St wr r u big)
  case atStart => exact ⟨_, u0, rfl, HI2.out, X, N, G0, h⟩
  case round =>
    clear N G0 h X HI2
    obtain ⟨g, u, hgu, hI, X, N, G0, h⟩ := hrel
    have HI2 := Lib.hid hI
    clear hI
    by_cases hd : u.head? = some (93 : Int)
    · obtain ⟨u1, rfl⟩ := Px.head_is hd
      have HI3 := Lib.hid (show Rx.items (fun _ => false) t1 = some (g, u1) by rw [HI2.out]; simp [Px.rest])
      have P := Lib.hid (pass_yes r u1 big 93 (by decide) wr h)
      clear h hd HI2
      go_wp2_with fail
      refine P.out.mono ?_
      rintro e w3 ⟨rfl, h, g3⟩
      replace N := N.grown g3 nr
      replace X := Px.box_grown g3 X hGr
      replace G0 := G0.trans g3
      clear g3 P
      have x0 := X.cell 0 (by decide); have x1 := X.cell 1 (by decide); have x2 := X.cell 2 (by decide); have x3 := X.cell 3 (by decide)
      cases but
      · have HC2 := Lib.hid (show Rx.cls t = some (Rx.one g, u1) by rw [HC.out, HI3.out]; rfl)
        clear HC HI3
        go_wp2_with fail
        refine (pone_any g (w.heap.size + 1 ≤ ·) w3).mono ?_
        rintro e w4 ⟨v4, rfl, hy, hb⟩
        replace N := N.up hb
        replace G0 := Px.grown_up G0 hb
        replace h := h.up hb
        clear hb x0 x1 x2 x3 X
        obtain ⟨k2, f2, a2, n2, cap2, rfl⟩ := hy.form
        have HY := Lib.hid hy
        have H := Lib.hid h
        clear hy h
        obtain ⟨⟨d0, d1, d2, d3, d4, d5⟩, y⟩ := N
        simp only [Nat.zero_add] at d0 d1 d2 d3 d4 d5
        have y0 := y 0 (by decide); have y1 := y 1 (by decide); have y2 := y 2 (by decide); have y3 := y 3 (by decide); have y4 := y 4 (by decide); have y5 := y 5 (by decide)
        clear y
        unfold Rx.hdr
        go_wp2_with fail
        refine bodyPost_ret (v := Rx.hdr k2 f2 a2 n2 cap2) (by simp [results, Try.results98, go_sem, Rx.hdr, d0, d1, d2, d3, d4, d5]) rfl ⟨?_, ?_⟩
        · rw [HC2.out]
          exact ⟨⟨_, rfl, (HY.out.wr (b := w.heap.size) (by omega) k2 f2 a2 n2 cap2).mono (fun j hj => by omega)⟩, H.out.wr nr k2 f2 a2 n2 cap2⟩
        · exact Rx.wr_far G0 (Nat.le_refl _) k2 f2 a2 n2 cap2
      · have HC2 := Lib.hid (show Rx.cls t = some (Rx.but (fun c => g c || Rx.rng 10 10 c), u1) by rw [HC.out, HI3.out]; rfl)
        clear HC HI3
        go_wp2_with fail
        have hsz : w.heap.size + 1 ≤ w3.heap.size := N.lt
        refine (signBut_any g w3).mono ?_
        rintro e w4 ⟨v4, rfl, hy, hb⟩
        replace N := N.up hb
        replace G0 := Px.grown_up G0 hb
        replace h := h.up hb
        clear hb x0 x1 x2 x3 X
        replace hy := hy.mono (B' := (w.heap.size + 1 ≤ ·)) (fun j hj => by omega)
        obtain ⟨k2, f2, a2, n2, cap2, rfl⟩ := hy.form
        have HY := Lib.hid hy
        have H := Lib.hid h
        clear hy h
        obtain ⟨⟨d0, d1, d2, d3, d4, d5⟩, y⟩ := N
        simp only [Nat.zero_add] at d0 d1 d2 d3 d4 d5
        have y0 := y 0 (by decide); have y1 := y 1 (by decide); have y2 := y 2 (by decide); have y3 := y 3 (by decide); have y4 := y 4 (by decide); have y5 := y 5 (by decide)
        clear y
        unfold Rx.hdr
        go_wp2_with fail
        refine bodyPost_ret (v := Rx.hdr k2 f2 a2 n2 cap2) (by simp [results, Try.results98, go_sem, Rx.hdr, d0, d1, d2, d3, d4, d5]) rfl ⟨?_, ?_⟩
        · rw [HC2.out]
          exact ⟨⟨_, rfl, (HY.out.wr (b := w.heap.size) (by omega) k2 f2 a2 n2 cap2).mono (fun j hj => by omega)⟩, H.out.wr nr k2 f2 a2 n2 cap2⟩
        · exact Rx.wr_far G0 (Nat.le_refl _) k2 f2 a2 n2 cap2
    have P := Lib.hid (pass_no r u big 93 (by decide) hd wr h)
    have HI3 := Lib.hid (show Rx.items (fun _ => false) t1 = match Rx.item u with
        | none => none
        | some ((lo, hi), r) => Px.rest (fun c => g c || Rx.rng lo hi c) r by rw [HI2.out, Px.rest, if_neg hd, Px.items_rest])
    clear h hd HI2
    go_wp2_with fail
    refine P.out.mono ?_
    rintro e w3 ⟨rfl, h, g3⟩
    replace N := N.grown g3 nr
    replace X := Px.box_grown g3 X hGr
    replace G0 := G0.trans g3
    clear g3 P
    obtain ⟨a, b, u', hit⟩ : ∃ (a b : Int) (u' : List Int), ∀ p, Rx.item u = some p → p = ((a, b), u') := by
      cases ho : Rx.item u with
      | none => exact ⟨0, 0, [], fun p hp => by simp at hp⟩
      | some p =>
        obtain ⟨⟨a, b⟩, u'⟩ := p
        exact ⟨a, b, u', fun p hp => by injection hp with hp; exact hp.symm⟩
    have HIT := Lib.hid hit
    clear hit
    go_upto_region 4 with fail
    have WC : Px.WC w r big G g a b u u' (fun _ => false) w3 := ⟨X, N, G0, h, fun e => by simp at e⟩
    clear X N G0 h
    refine Rg.regionZ (by kernel_rfl) (by kernel_rfl) (by kernel_rfl) (by decide) (Rg.rel (Px.relC r g a b)) (Px.WC w r big G g a b u u') (fun _ w w' => w.grownBy w' (some r)) (fun c x => Ending.panicked c = Px.up 20 ∧ w.grownBy x (some r) ∧ Rx.item u = none) ?_ (fun i j v w w' _ h hb => Px.relC_up h hb) (WC.up (Below.refl _ _).drew) ⟨?_, ?_, ?_, ?_, ?_, trivial⟩ ?_
    · rintro c b' x hbd ⟨hc, hg, hn⟩
      have HC2 := Lib.hid (show Rx.cls t = none by rw [HC.out, HI3.out, hn]; rfl)
      exact ⟨hbd, by rw [HC2.out]; exact hc, hg⟩
    · intro L f x hL hw hd
      have HW := Lib.hid hw
      clear hw hd
      simp only [Rg.stepZ, Rg.all, Act.put, List.setIfInBounds_toArray, List.set_cons_zero, List.set_cons_succ]
      have c0 := HW.out.box.cell 0 (by decide); have c1 := HW.out.box.cell 1 (by decide); have c2 := HW.out.box.cell 2 (by decide); have c3 := HW.out.box.cell 3 (by decide)
      go_simp
      exact ⟨rfl, HW.out.on 0 (by decide), World.grownBy.refl _ _⟩
    · intro L f x hL hw hd
      have HW := Lib.hid hw
      clear hw hd
      simp only [Rg.stepZ, Rg.all, Act.put, List.setIfInBounds_toArray, List.set_cons_zero, List.set_cons_succ]
      go_simp
      exact ⟨rfl, HW.out.on 1 (by decide), World.grownBy.refl _ _⟩
    · intro L f x hL hw hd
      have r1 : f 1 = .pointer (some ⟨r, 0, none⟩) := (hd _ (List.mem_cons_self ..)).2
      have HW := Lib.hid hw
      clear hw hd
      simp only [Rg.stepZ, Rg.all, Act.put, List.setIfInBounds_toArray, List.set_cons_zero, List.set_cons_succ]
      go_simp
      have hst := HW.out.st
      rw [hL] at hst
      refine (item_any r u big x hst).mono ?_
      intro e x1 hP
      cases ho : Rx.item u with
      | none =>
        rw [ho] at hP
        exact .inr ⟨_, hP.1, rfl, HW.out.gr.trans hP.2, rfl⟩
      | some p =>
        have hp := HIT.out p ho
        subst hp
        rw [ho] at hP
        obtain ⟨⟨rfl, h⟩, hg⟩ := hP
        exact .inl ⟨_, rfl, rfl, ⟨Px.box_grown hg HW.out.box hGr, HW.out.nod.grown hg nr, HW.out.gr.trans hg, by simpa using h, fun _ => ho⟩, hg⟩
    · intro L f x hL hw hd
      have r0 : f 0 = Bs.val g := (hd _ (List.mem_cons_self ..)).2
      have r2 : f 2 = Bs.val (Rx.rng a b) := (hd _ (List.mem_cons_of_mem _ (List.mem_cons_self ..))).2
      unfold Bs.val at r0 r2
      have hx : x.heap.size ≠ r := by have := hw.st.lt; omega
      have HW := Lib.hid hw
      clear hw hd
      simp only [Rg.stepZ, Rg.all, Act.put, List.setIfInBounds_toArray, List.set_cons_zero, List.set_cons_succ]
      go_simp
      exact ⟨⟨_, rfl, hx, Px.row_two x g (Rx.rng a b)⟩, (HW.out.up (Bs.below1 x _)).on 3 (by decide), Rx.grown_of r (Bs.below1 x _)⟩
    · intro L f x hL hw hd
      obtain ⟨bb, e3, hn3, h3⟩ : ∃ b', f 3 = .slice (some ⟨b', 0, none⟩) 2 2 ∧ b' ≠ r ∧ Bs.Row x (some ⟨b', 0, none⟩) [g, Rx.rng a b] := (hd _ (List.mem_cons_self ..)).2
      have H3 := Lib.hid h3
      clear h3
      have HW := Lib.hid hw
      clear hw hd
      simp only [Rg.stepZ, Rg.all, Act.put, List.setIfInBounds_toArray, List.set_cons_zero, List.set_cons_succ]
      go_simp
      refine (orB_any _ [g, Rx.rng a b] 2 x H3.out (by simp)).mono ?_
      rintro e x1 ⟨rfl, hb⟩
      exact .inl ⟨_, rfl, rfl, (HW.out.up hb).on 4 (by decide), Rx.grown_of r hb⟩
    · intro L f x hall hw hR o ho
      have r4 : f 4 = Bs.val (Bs.orL [g, Rx.rng a b]) := hR 4 (by decide)
      have hok := hw.ok (hall 2 (by decide))
      have hst := hw.st
      rw [if_pos (hall 2 (by decide))] at hst
      have X := hw.box
      have N := hw.nod
      have G1 := hw.gr
      simp at ho
      subst ho
      simp only [Rg.stepZ, Rg.all, Act.put, List.setIfInBounds_toArray, List.set_cons_zero, List.set_cons_succ]
      have z0 := X.cell 0 (by decide); have z1 := X.cell 1 (by decide); have z2 := X.cell 2 (by decide); have z3 := X.cell 3 (by decide)
      have g0 := X.frz 0 (by decide); have g1 := X.frz 1 (by decide); have g2 := X.frz 2 (by decide); have g3 := X.frz 3 (by decide)
      rw [Px.or_is] at r4
      unfold Bs.val at r4
      have HX := Lib.hid X
      have HN := Lib.hid N
      have HG := Lib.hid G1
      have HS := Lib.hid hst
      have HI4 := Lib.hid (show Rx.items (fun _ => false) t1 = Px.rest (fun c => g c || Rx.rng a b c) u' by rw [HI3.out, hok])
      have hlen := Rx.item_len hok
      clear X N G1 hst hw hR hall HI3 hok WC HIT
      go_simp
      go_wp2_with fail
      go_roundg (u'.length)
      case measure => omega
      have nG : G ≠ w.heap.size := by omega
      exact ⟨_, u', rfl, HI4.out, HX.out.write _, HN.out.grown (Rx.grown_set (Rx.grown_set (Rx.grown_set (Rx.grown_set (Rx.grown_of G (Below.refl _ _)) _ _) _ _) _ _) _ _) (Ne.symm nG), Rx.grown_far (Rx.grown_far (Rx.grown_far (Rx.grown_far HG.out (by omega) _ _) (by omega) _ _) (by omega) _ _) (by omega) _ _, HS.out.far4 hGr _ _ _ _⟩
open Go.RowKit
def Px.atom : List Int → Option (Rx × List Int)
  | [] => none
  | c :: r =>
    if c = 40 then
      match Rx.alt r with
      | none => none
      | some (xs, t) => if t.head? = some 41 then some (Rx.several 3 xs, t.drop 1) else none
    else if c = 91 then Rx.cls r
    else if c = 46 then some (Rx.but (Rx.rng 10 10), r)
    else if c = 92 then (Rx.esc r).map fun p => (Rx.sign p.1, p.2)
    else if Rx.special c = true then none
    else some (Rx.sign c, r)
theorem Px.rep_atom (t : List Int) : Rx.rep t = (Px.atom t).map fun p => Rx.post p.1 p.2 := by
  cases t with
  | nil => rw [Rx.rep_nil]; rfl
  | cons c r =>
    rw [Rx.rep_cons, Px.atom]
    split
    · cases h : Rx.alt r with
      | none => rfl
      | some p =>
        obtain ⟨xs, u⟩ := p
        simp only
        split <;> rfl
    · split
      · rfl
      · split
        · rfl
        · split
          · cases h : Rx.esc r with
            | none => rfl
            | some p => rfl
          · split <;> rfl
def Px.AP (w : World) (r : Nat) (big : Bool) (n K : Nat) (o : Option (Rx × List Int)) (e : Ending) (w' : World) : Prop :=
  (match o with
  | some (x, t) => ∃ (y : Rx) (β : Bool), (∃ v, e = .returned v ∧ Rx.IsB w' (w.heap.size ≤ ·) y v) ∧ (β = false → y = x) ∧ (β = true → x.may 1 = false) ∧ y.size + 500 * t.length ≤ 500 * n + K ∧ Px.St w' r t (big || β)
  | none => e = Px.up 20) ∧ w.grownBy w' (some r)
theorem Px.atom_len {t : List Int} {x : Rx} {u : List Int} (h : Px.atom t = some (x, u)) : u.length < t.length := by
  cases t with
  | nil => simp [Px.atom] at h
  | cons c r =>
    rw [Px.atom] at h
    split at h
    · split at h
      · simp at h
      · rename_i xs t' ha
        have := Rx.alt_len ha
        split at h
        · simp only [Option.some.injEq, Prod.mk.injEq] at h; rw [← h.2]; simp; omega
        · simp at h
    · split at h
      · have := Rx.cls_len h; simp; omega
      · split at h
        · simp only [Option.some.injEq, Prod.mk.injEq] at h; rw [← h.2]; simp
        · split at h
          · simp only [Option.map_eq_some_iff, Prod.mk.injEq] at h
            obtain ⟨p, h1, _, h2⟩ := h
            have := Rx.esc_len (c := p.1) (r := p.2) h1
            rw [← h2]; simp; omega
          · split at h
            · simp at h
            · simp only [Option.some.injEq, Prod.mk.injEq] at h; rw [← h.2]; simp
def Px.outS : ByteArray := ⟨#[124, 42, 43, 63, 40, 41, 91, 93, 46, 92]⟩
theorem Px.out_one (c : Int) (u : List Int) : Px.oneOf Px.outS.data.toList (c :: u) = Rx.special c := by
  rw [Bool.eq_iff_iff]
  simp [Px.oneOf, Px.outS, Rx.special]
  omega
theorem Px.size_may {x : Rx} (h : x.may 1 = true) : x.size ≤ 400 := (Rx.may_iff.1 h).2.2
theorem Px.mean_sign {S : ByteArray} {t : List Int} {c : Int} {u : List Int} (ht : Rn.Signs t) (h : Px.mean S t = some (c, u)) : Rn.signI c = true := by
  cases t with
  | nil => simp [Px.mean] at h
  | cons a v =>
    simp only [Px.mean] at h
    split at h
    · have := Px.esc_low h
      simp [Rn.signI]; omega
    · split at h
      · simp at h
      · simp only [Option.some.injEq, Prod.mk.injEq] at h
        rw [← h.1]; exact ht a (by simp)
set_option maxRecDepth 100000 in
set_option maxHeartbeats 2000000 in
theorem atom_any (r : Nat) (t : List Int) (big : Bool) (w : World) (h : Px.St w r t big)
    (halt : ∀ (u : List Int) (b : Bool) (w : World), u.length < t.length → Px.St w r u b → Calls Try.prog 41 #[.pointer (some ⟨r, 0, none⟩)] w (Px.AP w r b u.length 2 ((Rx.alt u).map fun p => (Rx.several 3 p.1, p.2)))) :
    Calls Try.prog 92 #[.pointer (some ⟨r, 0, none⟩)] w (Px.AP w r big t.length 0 (Px.atom t)) := by
  have hr := h.lt
  have nr : w.heap.size ≠ r := by omega
  have N := Rx.nod_zero w
  have A := Bs.below1 w (.cells #[.int .u8 0, .int .u64 0, .int .u64 0, .int .u64 0, .int .u64 0, .slice none 0 0] 28)
  have G0 := Rx.grown_of r A
  replace h := h.up A
  clear A
  have HALT := Lib.hid halt
  clear halt
  go_enter Try.func92, Try.ntmps92
  by_cases h0 : t.head? = some (40 : Int)
  · obtain ⟨u, rfl⟩ := Px.head_is h0
    have P := Lib.hid (pass_yes r u big 40 (by decide) _ h)
    have HA := Lib.hid (show Px.atom (40 :: u) = match Rx.alt u with
      | none => none
      | some (xs, t) => if t.head? = some 41 then some (Rx.several 3 xs, t.drop 1) else none by rw [Px.atom, if_pos rfl])
    clear h0 h
    go_wp2_with fail
    generalize w.alloc (.cells #[.int .u8 0, .int .u64 0, .int .u64 0, .int .u64 0, .int .u64 0, .slice none 0 0] 28) = W at *
    refine P.out.mono ?_
    rintro e w1 ⟨rfl, h, g⟩
    replace N := N.grown g nr
    replace G0 := G0.trans g
    clear g P
    have hsz : w.heap.size + 1 ≤ w1.heap.size := N.lt
    go_wp2_with fail
    refine (HALT.out u big w1 (by simp) h).mono ?_
    intro e w2 hP
    clear h HALT
    cases ha : Rx.alt u with
    | none =>
      rw [ha] at hP HA
      obtain ⟨rfl, g⟩ := hP
      exact ⟨rfl, by rw [HA.out]; exact rfl, G0.trans g⟩
    | some p =>
      obtain ⟨xs, u1⟩ := p
      rw [ha] at hP HA
      obtain ⟨⟨y, β, ⟨v, rfl, hy⟩, hb1, hb2, hs, h⟩, g⟩ := hP
      replace N := N.grown g nr
      replace G0 := G0.trans g
      obtain ⟨k, f, a, n, cap, rfl⟩ := hy.form
      have X := hy.lt.mono (B' := fun j => w.heap.size + 1 ≤ j ∧ j < w2.heap.size) (fun j hj => ⟨by omega, hj.2⟩)
      clear hy g ha
      have A := Bs.below1 w2 (.cells #[.int .u8 k, .int .u64 (Bs.word f 0), .int .u64 (Bs.word f 1), .int .u64 (Bs.word f 2), .int .u64 (Bs.word f 3), .slice a n cap] 28)
      have N2 := Rx.nod_new w2 k f a n cap
      have hG : w.heap.size < w2.heap.size := N.lt
      have hGr : w2.heap.size ≠ r := by have := h.lt; omega
      replace N := N.up A
      replace G0 := Px.grown_up G0 A
      replace h := h.up A
      replace X := X.up A
      have HX := Lib.hid X
      clear A X
      unfold Rx.hdr at HX ⊢
      by_cases h1 : u1.head? = some (41 : Int)
      · obtain ⟨u2, rfl⟩ := Px.head_is h1
        have HA2 := Lib.hid (show Px.atom (40 :: u) = some (Rx.several 3 xs, u2) by rw [HA.out]; rfl)
        have P := Lib.hid (pass_yes r u2 (big || β) 41 (by decide) _ h)
        clear h HA h1
        go_wp2_with fail
        generalize w2.alloc (.cells #[.int .u8 k, .int .u64 (Bs.word f 0), .int .u64 (Bs.word f 1), .int .u64 (Bs.word f 2), .int .u64 (Bs.word f 3), .slice a n cap] 28) = V at *
        generalize w2.heap.size = G at *
        refine P.out.mono ?_
        rintro e w3 ⟨rfl, h, g⟩
        replace N := N.grown g nr
        replace N2 := N2.grown g hGr
        replace G0 := G0.trans g
        have HX2 := Lib.hid (HX.out.grown g (fun j hj e => by injection e with e; omega))
        clear g P HX
        have NY := Lib.hid (need_yes 20 w3)
        go_wp2_with fail
        refine NY.out.mono ?_
        rintro e w4 ⟨rfl, rfl⟩
        obtain ⟨⟨c0, c1, c2, c3, c4, c5⟩, _⟩ := N2
        obtain ⟨⟨d0, d1, d2, d3, d4, d5⟩, z⟩ := N
        simp only [Nat.zero_add] at c0 c1 c2 c3 c4 c5 d0 d1 d2 d3 d4 d5
        have y0 := z 0 (by decide); have y1 := z 1 (by decide); have y2 := z 2 (by decide); have y3 := z 3 (by decide); have y4 := z 4 (by decide); have y5 := z 5 (by decide)
        have H := Lib.hid h
        clear z NY h
        go_wp2_with fail
        refine bodyPost_ret (v := Rx.hdr k f a n cap) (by simp [results, Try.results92, go_sem, Rx.hdr, d0, d1, d2, d3, d4, d5]) rfl ⟨?_, ?_⟩
        · rw [HA2.out]
          exact ⟨y, β, ⟨_, rfl, (HX2.out.wr (b := w.heap.size) (by omega) k f a n cap).mono (fun j hj => by omega)⟩, hb1, hb2, by simp at hs ⊢; omega, H.out.wr nr k f a n cap⟩
        · exact Rx.wr_far G0 (Nat.le_refl _) k f a n cap
      · have HA2 := Lib.hid (show Px.atom (40 :: u) = none by rw [HA.out]; exact if_neg h1)
        have P := Lib.hid (pass_no r u1 (big || β) 41 (by decide) h1 _ h)
        clear h HA h1
        go_wp2_with fail
        refine P.out.mono ?_
        rintro e w3 ⟨rfl, h, g⟩
        have NN := Lib.hid (need_no 20 w3)
        go_wp2_with fail
        refine NN.out.mono ?_
        rintro e w4 ⟨rfl, rfl⟩
        exact ⟨rfl, by rw [HA2.out]; exact rfl, G0.trans g⟩
  have P := Lib.hid (pass_no r t big 40 (by decide) h0 _ h)
  clear h HALT
  go_wp2_with fail
  generalize w.alloc (.cells #[.int .u8 0, .int .u64 0, .int .u64 0, .int .u64 0, .int .u64 0, .slice none 0 0] 28) = W at *
  refine P.out.mono ?_
  rintro e w1 ⟨rfl, h, g⟩
  replace N := N.grown g nr
  replace G0 := G0.trans g
  clear g P
  by_cases h1 : t.head? = some (91 : Int)
  · obtain ⟨u, rfl⟩ := Px.head_is h1
    have HA := Lib.hid (show Px.atom (91 :: u) = Rx.cls u by simp [Px.atom])
    have P := Lib.hid (pass_yes r u big 91 (by decide) _ h)
    clear h0 h1 h
    go_wp2_with fail
    refine P.out.mono ?_
    rintro e w2 ⟨rfl, h, g⟩
    replace N := N.grown g nr
    replace G0 := G0.trans g
    clear g P
    have hsz : w.heap.size + 1 ≤ w2.heap.size := N.lt
    go_wp2_with fail
    refine (class_any r u big w2 h).mono ?_
    intro e w3 hP
    cases hc : Rx.cls u with
    | none =>
      rw [hc] at hP HA
      obtain ⟨rfl, g⟩ := hP
      exact ⟨rfl, by rw [HA.out]; exact rfl, G0.trans g⟩
    | some p =>
      obtain ⟨x, u1⟩ := p
      rw [hc] at hP HA
      have hs1 := Px.size_may (Rx.may_cls hc)
      have hs2 := Rx.cls_len hc
      obtain ⟨⟨⟨v, rfl, hy⟩, h2⟩, g⟩ := hP
      replace N := N.grown g nr
      replace G0 := G0.trans g
      replace hy := hy.mono (B' := (w.heap.size + 1 ≤ ·)) (fun j hj => by omega)
      obtain ⟨k, f, a, n, cap, rfl⟩ := hy.form
      have HX := Lib.hid hy
      have H := Lib.hid h2
      clear hy g hc h h2
      obtain ⟨⟨d0, d1, d2, d3, d4, d5⟩, z⟩ := N
      simp only [Nat.zero_add] at d0 d1 d2 d3 d4 d5
      have y0 := z 0 (by decide); have y1 := z 1 (by decide); have y2 := z 2 (by decide); have y3 := z 3 (by decide); have y4 := z 4 (by decide); have y5 := z 5 (by decide)
      clear z
      unfold Rx.hdr
      go_wp2_with fail
      refine bodyPost_ret (v := Rx.hdr k f a n cap) (by simp [results, Try.results92, go_sem, Rx.hdr, d0, d1, d2, d3, d4, d5]) rfl ⟨?_, ?_⟩
      · rw [HA.out]
        exact ⟨x, false, ⟨_, rfl, (HX.out.wr (b := w.heap.size) (by omega) k f a n cap).mono (fun j hj => by omega)⟩, fun _ => rfl, fun e => by simp at e, by simp; omega, by rw [Bool.or_false]; exact H.out.wr nr k f a n cap⟩
      · exact Rx.wr_far G0 (Nat.le_refl _) k f a n cap
  have P := Lib.hid (pass_no r t big 91 (by decide) h1 _ h)
  clear h
  go_wp2_with fail
  refine P.out.mono ?_
  rintro e w2 ⟨rfl, h, g⟩
  replace N := N.grown g nr
  replace G0 := G0.trans g
  clear g P
  by_cases h2 : t.head? = some (46 : Int)
  · obtain ⟨u, rfl⟩ := Px.head_is h2
    have HA := Lib.hid (show Px.atom (46 :: u) = some (Rx.but (Rx.rng 10 10), u) by simp [Px.atom])
    have P := Lib.hid (pass_yes r u big 46 (by decide) _ h)
    clear h0 h1 h2 h
    go_wp2_with fail
    refine P.out.mono ?_
    rintro e w3 ⟨rfl, h, g⟩
    replace N := N.grown g nr
    replace G0 := G0.trans g
    clear g P
    have hsz : w.heap.size + 1 ≤ w3.heap.size := N.lt
    have SB := signBut_any (fun _ => false) w3
    rw [Bs.val_none, show (fun c => (fun _ => false) c || Rx.rng 10 10 c) = Rx.rng 10 10 by funext c; simp] at SB
    have SB := Lib.hid SB
    go_wp2_with fail
    refine SB.out.mono ?_
    rintro e w4 ⟨v, rfl, hy, hb⟩
    replace N := N.up hb
    replace G0 := Px.grown_up G0 hb
    replace h := h.up hb
    replace hy := hy.mono (B' := (w.heap.size + 1 ≤ ·)) (fun j hj => by omega)
    obtain ⟨k, f, a, n, cap, rfl⟩ := hy.form
    have hs1 := Px.size_may (Rx.may_but (Rx.rng 10 10))
    have HX := Lib.hid hy
    have H := Lib.hid h
    clear hy h hb
    obtain ⟨⟨d0, d1, d2, d3, d4, d5⟩, z⟩ := N
    simp only [Nat.zero_add] at d0 d1 d2 d3 d4 d5
    have y0 := z 0 (by decide); have y1 := z 1 (by decide); have y2 := z 2 (by decide); have y3 := z 3 (by decide); have y4 := z 4 (by decide); have y5 := z 5 (by decide)
    clear z
    unfold Rx.hdr
    go_wp2_with fail
    refine bodyPost_ret (v := Rx.hdr k f a n cap) (by simp [results, Try.results92, go_sem, Rx.hdr, d0, d1, d2, d3, d4, d5]) rfl ⟨?_, ?_⟩
    · rw [HA.out]
      exact ⟨_, false, ⟨_, rfl, (HX.out.wr (b := w.heap.size) (by omega) k f a n cap).mono (fun j hj => by omega)⟩, fun _ => rfl, fun e => by simp at e, by simp; omega, by rw [Bool.or_false]; exact H.out.wr nr k f a n cap⟩
    · exact Rx.wr_far G0 (Nat.le_refl _) k f a n cap
  have P := Lib.hid (pass_no r t big 46 (by decide) h2 _ h)
  clear h
  go_wp2_with fail
  refine P.out.mono ?_
  rintro e w3 ⟨rfl, h, g⟩
  replace N := N.grown g nr
  replace G0 := G0.trans g
  clear g P
  have HA := Lib.hid (show Px.atom t = (Px.mean Px.outS t).map fun p => (Rx.sign p.1, p.2) by
    cases t with
    | nil => rfl
    | cons c u =>
      simp only [List.head?_cons, Option.some.injEq] at h0 h1 h2
      rw [Px.atom, if_neg h0, if_neg h1, if_neg h2, Px.mean, Px.out_one]
      split
      · rfl
      · split <;> rfl)
  have HS := Lib.hid (show ∀ c u, Px.mean Px.outS t = some (c, u) → Rn.signI c = true from fun c u e => Px.mean_sign (by obtain ⟨s, _, hs⟩ := h.c0; exact hs.sg) e)
  have HL := Lib.hid (show ∀ c u, Px.mean Px.outS t = some (c, u) → u.length < t.length from fun c u e => Px.atom_len (x := Rx.sign c) (by rw [HA.out, e]; rfl))
  have M := Lib.hid (meant_any r t big Px.outS (by decide) w3 h)
  clear h h0 h1 h2
  go_wp2_with fail
  refine M.out.mono ?_
  intro e w4 hP
  clear M
  cases hm : Px.mean Px.outS t with
  | none =>
    rw [hm] at hP HA
    obtain ⟨rfl, g⟩ := hP
    exact ⟨rfl, by rw [HA.out]; exact rfl, G0.trans g⟩
  | some p =>
    obtain ⟨c, u⟩ := p
    have hsg := HS.out c u hm
    have hln := HL.out c u hm
    rw [hm] at hP HA
    obtain ⟨⟨rfl, h⟩, g⟩ := hP
    replace N := N.grown g nr
    replace G0 := G0.trans g
    have hsz : w.heap.size + 1 ≤ w4.heap.size := N.lt
    clear g hm HS HL
    go_wp2_with fail
    refine (psignx_any c hsg w4).mono ?_
    rintro e w5 ⟨v, rfl, hy, hb⟩
    replace N := N.up hb
    replace G0 := Px.grown_up G0 hb
    replace h := h.up hb
    replace hy := hy.mono (B' := (w.heap.size + 1 ≤ ·)) (fun j hj => by omega)
    obtain ⟨k, f, a, n, cap, rfl⟩ := hy.form
    have hs1 := Px.size_may (Rx.may_sign c)
    have HX := Lib.hid hy
    have H := Lib.hid h
    clear hy h hb
    obtain ⟨⟨d0, d1, d2, d3, d4, d5⟩, z⟩ := N
    simp only [Nat.zero_add] at d0 d1 d2 d3 d4 d5
    have y0 := z 0 (by decide); have y1 := z 1 (by decide); have y2 := z 2 (by decide); have y3 := z 3 (by decide); have y4 := z 4 (by decide); have y5 := z 5 (by decide)
    clear z
    unfold Rx.hdr
    go_wp2_with fail
    refine bodyPost_ret (v := Rx.hdr k f a n cap) (by simp [results, Try.results92, go_sem, Rx.hdr, d0, d1, d2, d3, d4, d5]) rfl ⟨?_, ?_⟩
    · rw [HA.out]
      exact ⟨_, false, ⟨_, rfl, (HX.out.wr (b := w.heap.size) (by omega) k f a n cap).mono (fun j hj => by omega)⟩, fun _ => rfl, fun e => by simp at e, by simp only; omega, by rw [Bool.or_false]; exact H.out.wr nr k f a n cap⟩
    · exact Rx.wr_far G0 (Nat.le_refl _) k f a n cap
end Go.Proofs.Ythapedadnbkgnaa
