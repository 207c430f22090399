/- The program's expressions: what sign answers, walked. -/
import Derived.Test.YtigdelfoipcilaaRyF
import Derived.Lib.ConvBytes
import Derived.Test.YtigdelfoipcilaaRnE
namespace Go.Proofs.Ytigdelfoipcilaa
set_option linter.unusedVariables false
set_option linter.unusedSimpArgs false
open Go.RowKit
theorem Px.join_several {k : Nat} {l : List Rx} (h : l ≠ []) : Px.join k l = Rx.several k l := by
  cases l with
  | nil => simp at h
  | cons x r => cases r <;> rfl
theorem Px.join_cat (l : List Rx) : Px.join 2 l = Rx.catOf l := by
  cases l with
  | nil => rfl
  | cons x r => cases r <;> rfl
theorem Px.of_one (z : Nat) : Bs.ofL [z] = Rx.rng z z := by
  funext c
  rw [Bool.eq_iff_iff]
  simp [Bs.ofL, Rx.rng]
  omega
theorem Px.bytes_cells (w : World) (e : TypeId) (zs : List Int) (hz : ∀ z ∈ zs, 0 ≤ z ∧ z < 256) (j : Nat) (hj : j < zs.length) : (Lib.bytesWorld w e (strOfNums zs)).cell? ⟨w.heap.size, j, none⟩ = some (.int .u8 zs[j]) := by
  have h := hz zs[j] (List.getElem_mem hj)
  rw [Lib.bytesWorld_cell _ _ _ j (by simp [strOfNums, ByteArray.size]; exact hj)]
  simp only [strOfNums, List.getD]
  rw [List.getElem?_map, List.getElem?_eq_getElem hj]
  simp
  omega
theorem Px.bytes_below (w : World) (e : TypeId) (s : ByteArray) : Below w.heap.size w (Lib.bytesWorld w e s) :=
  ⟨rfl, rfl, rfl, by rw [Lib.bytesWorld_size]; omega, fun k hk => Lib.bytesWorld_at_old w e s k hk⟩
theorem Px.num_len (zs : List Int) : (strOfNums zs).size = zs.length := by simp [strOfNums, ByteArray.size]
theorem Px.byt_one (w : World) (z : Nat) (t : TypeId) : Bs.Byt (w.alloc (.cells #[.int .u8 z] t)) (some ⟨w.heap.size, 0, none⟩) [z] := by
  intro i hi
  simp at hi
  subst hi
  refine ⟨_, rfl, ?_⟩
  simp [go_sem, Addr.add]
set_option maxRecDepth 100000 in
set_option maxHeartbeats 1000000 in
theorem psignx_any (n : Int) (hs : Rn.signI n = true) (w : World) : Calls Try.prog 109 #[.int .i64 n] w (Px.XPost w (w.heap.size ≤ ·) (Rx.sign n)) := by
  have HB := Lib.hid (Rn.bytesI_byte n)
  have HF := Lib.hid (Rx.bytes_few n)
  have HZ := Lib.hid (show Rn.bytesI n ≠ [] from fun e => by
    obtain ⟨c, t, hc, _⟩ := Rn.blk_form n hs
    unfold Rn.blk at hc
    rw [e] at hc
    simp at hc)
  clear hs
  have BY := Lib.hid (fun w => bytes_any n w)
  have HX := Lib.hid (show Rx.sign n = Rx.several 2 ((Rn.bytesI n).map fun b => Rx.one (Rx.rng b b)) from rfl)
  generalize Rx.sign n = X at *
  generalize Rn.bytesI n = zs at *
  have N := Rx.nod_zero w
  have A := Bs.below1 w (.cells #[.int .u8 0, .int .u64 0, .int .u64 0, .int .u64 0, .int .u64 0, .slice none 0 0] 28)
  have hcv := fun (w : World) => Lib.run_convert_string_bytes (P := Try.prog) w 9 128 5 (strOfNums zs) Try.underlying9 Try.underlying128 Try.underlying5
  go_enter Try.func109, Try.ntmps109
  go_wp2_with fail
  generalize w.alloc (.cells #[.int .u8 0, .int .u64 0, .int .u64 0, .int .u64 0, .int .u64 0, .slice none 0 0] 28) = W at *
  refine (BY.out W).mono ?_
  rintro e w1 ⟨rfl, hb⟩
  replace N := N.up hb
  replace A := Bs.below_up A hb
  clear hb BY
  go_wp2_with fail
  have hc := Px.bytes_cells w1 5 zs HB.out
  have hb := Px.bytes_below w1 5 (strOfNums zs)
  have hG : w.heap.size < w1.heap.size := N.lt
  replace N := N.up hb
  replace A := Bs.below_up A hb
  rw [Px.num_len]
  have hsz : (Lib.bytesWorld w1 5 (strOfNums zs)).heap.size = w1.heap.size + 1 := Lib.bytesWorld_size _ _ _
  have hl := HF.out
  generalize grownCap w1 zs.length 0 5 = gc at *
  clear hb hcv
  generalize Lib.bytesWorld w1 5 (strOfNums zs) = V at *
  generalize w1.heap.size = G at *
  have HS := Lib.hid hsz
  clear hsz
  go_loopw [3, 10] (fun v i wr => ∃ q : Nat, q ≤ zs.length ∧ i = .int .i64 q ∧ Rx.Own (G + 1) v ((zs.map fun b => Rx.one (Rx.rng b b)).take q) wr ∧ (∀ (j : Nat) (h : j < zs.length), wr.cell? ⟨G, j, none⟩ = some (.int .u8 zs[j])) ∧ Rx.Nod wr w.heap.size 0 (fun _ => false) none 0 0 ∧ Below w.heap.size w wr ∧ G + 1 ≤ wr.heap.size) (fun _ i _ => zs.length - (intOf i).toNat)
  case atStart => exact ⟨0, by omega, rfl, Rx.own_nil _ _, hc, N, A, by rw [HS.out]; exact Nat.le_refl _⟩
  case round =>
    clear N A hc HS
    obtain ⟨q, hq, rfl, O, hc, N, A, hsz⟩ := hrel
    by_cases hlt : q < zs.length
    · have c0 := hc q hlt
      have hz := HB.out zs[q] (List.getElem_mem hlt)
      have HT := Lib.hid (show (zs.map fun b => Rx.one (Rx.rng b b)).take (q + 1) = (zs.map fun b => Rx.one (Rx.rng b b)).take q ++ [Rx.one (Rx.rng zs[q] zs[q])] by rw [List.take_succ_eq_append_getElem (by simpa using hlt)]; simp)
      have HQ := Lib.hid (show ((zs.map fun b => Rx.one (Rx.rng b b)).take q).length = q by simp; omega)
      have HC := Lib.hid hc
      clear hc
      generalize zs[q] = z at *
      obtain ⟨z, rfl⟩ : ∃ m : Nat, z = m := ⟨z.toNat, by omega⟩
      have A1 := Bs.below1 wr (.cells #[.int .u8 z] 5)
      have BT := Px.byt_one wr z 5
      replace N := N.up A1
      replace O := O.up A1
      replace A := Bs.below_up A A1
      replace hsz := Nat.le_trans hsz A1.size
      have HC1 := Lib.hid (show ∀ (j : Nat) (h : j < zs.length), (wr.alloc (.cells #[.int .u8 z] 5)).cell? ⟨G, j, none⟩ = some (.int .u8 zs[j]) from fun j h => Bs.cell_up A1 (HC.out j h))
      clear HC A1
      go_wp2_with fail
      generalize wr.alloc (.cells #[.int .u8 z] 5) = U at *
      have OB := ofB_any (some ⟨wr.heap.size, 0, none⟩) [z] 1 U BT (by simp; omega) (by simp)
      rw [show [z].length = 1 from rfl] at OB
      refine OB.mono ?_
      rintro e w2 ⟨rfl, hb⟩
      replace N := N.up hb
      replace O := O.up hb
      replace A := Bs.below_up A hb
      replace hsz := Nat.le_trans hsz hb.size
      have HC2 := Lib.hid (show ∀ (j : Nat) (h : j < zs.length), w2.cell? ⟨G, j, none⟩ = some (.int .u8 zs[j]) from fun j h => Bs.cell_up hb (HC1.out j h))
      clear HC1 hb OB BT
      go_wp2_with fail
      refine (pone_any (Bs.ofL [z]) (fun _ => False) w2).mono ?_
      rintro e w3 ⟨v3, rfl, hy, hb⟩
      rw [Px.of_one] at hy
      replace N := N.up hb
      replace O := O.up hb
      replace A := Bs.below_up A hb
      replace hsz := Nat.le_trans hsz hb.size
      have HC3 := Lib.hid (show ∀ (j : Nat) (h : j < zs.length), w3.cell? ⟨G, j, none⟩ = some (.int .u8 zs[j]) from fun j h => Bs.cell_up hb (HC2.out j h))
      clear HC2 hb
      obtain ⟨k2, f2, a2, n2, cap2, rfl⟩ := hy.form
      have hb := Bs.below1 w3 (.cells #[.int .u8 k2, .int .u64 (Bs.word f2 0), .int .u64 (Bs.word f2 1), .int .u64 (Bs.word f2 2), .int .u64 (Bs.word f2 3), .slice a2 n2 cap2] 28)
      have HY := Lib.hid ((hy.up hb).mono (B' := fun j => G + 1 ≤ j ∧ some j ≠ u3.ownBlock) (fun j hj => hj.elim))
      replace N := N.up hb
      replace O := O.up hb
      replace A := Bs.below_up A hb
      replace hsz := Nat.le_trans hsz hb.size
      have HC4 := Lib.hid (show ∀ (j : Nat) (h : j < zs.length), (w3.alloc (.cells #[.int .u8 k2, .int .u64 (Bs.word f2 0), .int .u64 (Bs.word f2 1), .int .u64 (Bs.word f2 2), .int .u64 (Bs.word f2 3), .slice a2 n2 cap2] 28)).cell? ⟨G, j, none⟩ = some (.int .u8 zs[j]) from fun j h => Bs.cell_up hb (HC3.out j h))
      clear HC3 hb hy
      unfold Rx.hdr
      go_wp2_with (first
        | (at_builtin; refine Rx.append rfl _ _ rfl (G + 1) _ _ rfl O w3.heap.size 1 rfl k2 f2 a2 n2 cap2 (heap_alloc_new w3 _) _ HY.out (by rw [HQ.out]; omega) hsz ?_; intro v7 w4 O4 g4))
      have N4 := N.own g4 (fun j hj => by have := (O.lt j hj).1; omega)
      have A4 := A.grown g4 A.size (fun j hj => by have := (O.lt j hj).1; omega)
      have HC5 := Lib.hid (show ∀ (j : Nat) (h : j < zs.length), w4.cell? ⟨G, j, none⟩ = some (.int .u8 zs[j]) from fun j h => g4.cell (HC4.out j h) (fun e => by have h9 := (O.lt G e.symm).1; omega))
      have hsz4 : G + 1 ≤ w4.heap.size := Nat.le_trans hsz g4.size
      clear g4 O N A hsz HC4
      go_roundw
      case rel => exact ⟨q + 1, by omega, by go_num, by rw [HT.out]; exact O4, HC5.out, N4, A4, hsz4⟩
      case measure => simp [intOf]; omega
    · have hq' : (zs.map fun b => Rx.one (Rx.rng b b)).take q = zs.map fun b => Rx.one (Rx.rng b b) := List.take_of_length_le (by simp; omega)
      rw [hq'] at O
      obtain ⟨a', cap', rfl, R⟩ := O.slice
      clear hq' O hc
      have J0 := joined_any 2 (by decide) _ a' cap' _ wr R
      rw [List.length_map] at J0
      have J := Lib.hid J0
      clear R J0
      rw [List.length_map]
      go_wp2_with fail
      refine J.out.mono ?_
      rintro e w2 ⟨v2, rfl, hy, hb⟩
      rw [Px.join_several (by simpa using HZ.out), ← HX.out] at hy
      replace N := N.up hb
      replace A := Bs.below_up A hb
      clear hb J
      obtain ⟨k2, f2, a2, n2, cap2, rfl⟩ := hy.form
      have HY := Lib.hid (hy.mono (B' := fun j => w.heap.size + 1 ≤ j) (fun j hj => by omega))
      clear hy
      unfold Rx.hdr
      obtain ⟨⟨d0, d1, d2, d3, d4, d5⟩, y⟩ := N
      simp only [Nat.zero_add] at d0 d1 d2 d3 d4 d5
      have y0 := y 0 (by decide); have y1 := y 1 (by decide); have y2 := y 2 (by decide); have y3 := y 3 (by decide); have y4 := y 4 (by decide); have y5 := y 5 (by decide)
      clear y
      go_wp2_with fail
      refine bodyPost_ret (v := Rx.hdr k2 f2 a2 n2 cap2) (by simp [results, Try.results109, go_sem, Rx.hdr, d0, d1, d2, d3, d4, d5]) rfl ⟨_, rfl, ?_, ?_⟩
      · exact (HY.out.wr (b := w.heap.size) (by omega) k2 f2 a2 n2 cap2).mono (fun j hj => by omega)
      · exact Rx.wr_below A (Nat.le_refl _) k2 f2 a2 n2 cap2
end Go.Proofs.Ytigdelfoipcilaa
