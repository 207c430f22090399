/- What the document's several and sign answer, walked, with the blocks that their answers lie in. -/
import Derived.Test.YtigdelfoipcilaaRxI
import Derived.Test.YtigdelfoipcilaaRyF
import Derived.Test.YtigdelfoipcilaaRgE
import Derived.Test.YtigdelfoipcilaaRnE
namespace Go.Proofs.Ytigdelfoipcilaa
set_option linter.unusedVariables false
set_option linter.unusedSimpArgs false
open Go.RowKit
set_option maxRecDepth 100000 in
set_option maxHeartbeats 400000 in
theorem refSeveralB_any (k : Nat) (hk : k < 256) (l : List Rx) (a : Option Addr) (cap : Nat) (B : Nat → Prop) (w : World) (hl : Rx.InBL w B l a 0) : Calls Try.prog 70 #[.int .u8 k, .slice a l.length cap] w (Px.XPost w B (Rx.several k l)) := by
  have HL := Lib.hid hl
  by_cases h1 : l.length = 1
  · obtain ⟨x, rfl⟩ := List.length_eq_one_iff.1 h1
    obtain ⟨p, rfl, _, hp⟩ := hl.get 0 (by simp)
    obtain ⟨k1, f1, a1, n1, cap1, ⟨x0, x1, x2, x3, x4, x5⟩, hi⟩ := hp.open
    have HI := Lib.hid hi
    have e0 : p.add 0 = p := by simp [Addr.add]
    simp only [Nat.add_zero, Nat.zero_mul, e0] at x0 x1 x2 x3 x4 x5
    clear hl hp hi e0
    rw [show [x].length = 1 from rfl]
    go_enter Try.func70, Try.ntmps70
    have A := Bs.below1 w (.cells #[.int .u8 0, .int .u64 0, .int .u64 0, .int .u64 0, .int .u64 0, .slice none 0 0] 28)
    have B := Bs.below1 w (.cells #[.int .u8 k1, .int .u64 (Bs.word f1 0), .int .u64 (Bs.word f1 1), .int .u64 (Bs.word f1 2), .int .u64 (Bs.word f1 3), .slice a1 n1 cap1] 28)
    replace x0 := Bs.cell_up A x0; replace x1 := Bs.cell_up A x1; replace x2 := Bs.cell_up A x2; replace x3 := Bs.cell_up A x3; replace x4 := Bs.cell_up A x4; replace x5 := Bs.cell_up A x5
    go_wp2_with fail
    exact bodyPost_ret (v := Rx.hdr k1 f1 a1 n1 cap1) (by simp [results, Try.results70, go_sem, Rx.hdr]) rfl ⟨_, rfl, HI.out.up B, B⟩
  · have HX := Lib.hid (show Rx.several k l = .node k (fun _ => false) l by
      unfold Rx.several
      split
      · simp at h1
      · rfl)
    clear hl
    have H := Lib.hid (show Rx.IsB w B (Rx.node k (fun _ => false) l) (Rx.hdr k (fun _ => false) a l.length cap) from ⟨hk, a, cap, rfl, HL.out⟩)
    have e1 : ((l.length : Int) == 1) = false := by simp; omega
    generalize l.length = n at *
    go_enter Try.func70, Try.ntmps70
    go_wp2_with fail
    exact bodyPost_ret (v := Rx.hdr k (fun _ => false) a n cap) (by simp [results, Try.results70, go_sem, Rx.hdr_none]) rfl ⟨_, rfl, by rw [HX.out]; exact H.out.up (Bs.below1 _ _), Bs.below1 _ _⟩
/-- what the operations of sign's round yield -/
def Rx.relS (rv : Value) (s : ByteArray) (q z G : Nat) (xs : List Rx) : List (Value → World → Prop) := [
  fun v _ => v = rv,
  fun v _ => v = .string s,
  fun v _ => v = .int .i64 q,
  fun v _ => v = .int .u8 z,
  fun v _ => v = .int .i64 z,
  fun v _ => v = .string s,
  fun v _ => v = .int .i64 q,
  fun v _ => v = .int .u8 z,
  fun v _ => v = .int .i64 z,
  fun v _ => v = Bs.val (Rx.rng z z),
  fun v _ => ∃ a cap, v = Rx.hdr 1 (Rx.rng z z) a 0 cap,
  fun v w => ∃ (B : Nat) (a : Option Addr) (cap : Nat), v = .slice (some ⟨B, 0, none⟩) 1 1 ∧ w.heap[B]? = some (.cells #[.int .u8 (1 : Nat), .int .u64 (Bs.word (Rx.rng z z) 0), .int .u64 (Bs.word (Rx.rng z z) 1), .int .u64 (Bs.word (Rx.rng z z) 2), .int .u64 (Bs.word (Rx.rng z z) 3), .slice a 0 cap] 28) ∧ some B ≠ rv.ownBlock,
  fun v w => Rx.Own G v (xs ++ [Rx.one (Rx.rng z z)]) w]
def Rx.MS (rv : Value) (i : Nat) (w w' : World) : Prop := if i = 12 then w.grownBy w' rv.ownBlock else Below w.heap.size w w'
theorem Rx.relS_up {rv : Value} {s : ByteArray} {q z G : Nat} {xs : List Rx} {i j : Nat} {v : Value} {w w' : World} (hij : j ≠ i) (hR : Rg.rel (Rx.relS rv s q z G xs) j v w) (hM : Rx.MS rv i w w') : Rg.rel (Rx.relS rv s q z G xs) j v w' := by
  have hg : w.grownBy w' rv.ownBlock := by
    unfold Rx.MS at hM
    split at hM
    · exact hM
    · exact ⟨hM.os, hM.tape, hM.output, hM.size, fun k hk _ => hM.block k hk⟩
  match j, hR with
  | 0, h => exact h
  | 1, h => exact h
  | 2, h => exact h
  | 3, h => exact h
  | 4, h => exact h
  | 5, h => exact h
  | 6, h => exact h
  | 7, h => exact h
  | 8, h => exact h
  | 9, h => exact h
  | 10, h => exact h
  | 11, ⟨B, a, cap, h0, h1, h2⟩ => exact ⟨B, a, cap, h0, by rw [hg.block B (Array.getElem?_eq_some_iff.1 h1).1 h2]; exact h1, h2⟩
  | 12, h =>
    unfold Rx.MS at hM
    rw [if_neg (Ne.symm hij)] at hM
    exact Rx.Own.up h hM
  | _ + 13, _ => trivial
structure Rx.WS (w0 : World) (rv : Value) (G R0 : Nat) (xs : List Rx) (L : Nat → Bool) (w : World) : Prop where
  nod : Rx.Nod w w0.heap.size 0 (fun _ => false) none 0 0
  bel : Below w0.heap.size w0 w
  own : L 12 = false → Rx.Own G rv xs w
  sz : G ≤ w.heap.size
  szr : R0 ≤ w.heap.size
theorem Rx.WS.up {w0 : World} {rv : Value} {G R0 : Nat} {xs : List Rx} {L : Nat → Bool} {w w' : World} (h : Rx.WS w0 rv G R0 xs L w) (hb : Below w.heap.size w w') : Rx.WS w0 rv G R0 xs L w' := ⟨h.nod.up hb, Bs.below_up h.bel hb, fun e => (h.own e).up hb, Nat.le_trans h.sz hb.size, Nat.le_trans h.szr hb.size⟩
theorem Rx.WS.on {w0 : World} {rv : Value} {G R0 : Nat} {xs : List Rx} {L : Nat → Bool} {w : World} (i : Nat) (hi : i ≠ 12) (h : Rx.WS w0 rv G R0 xs L w) : Rx.WS w0 rv G R0 xs (fun k => decide (k = i) || L k) w := ⟨h.nod, h.bel, by simpa [Ne.symm hi] using h.own, h.sz, h.szr⟩
theorem Rx.ms_refl (rv : Value) (i : Nat) (hi : i ≠ 12) (w : World) : Rx.MS rv i w w := by unfold Rx.MS; rw [if_neg hi]; exact Below.refl _ _
theorem Rx.ms_below (rv : Value) (i : Nat) (hi : i ≠ 12) {w w' : World} (h : Below w.heap.size w w') : Rx.MS rv i w w' := by unfold Rx.MS; rw [if_neg hi]; exact h
theorem Rx.num_at (zs : List Int) (hz : ∀ z ∈ zs, 0 ≤ z ∧ z < 256) (q : Nat) (h : q < zs.length) (h' : q < (strOfNums zs).size) : (strOfNums zs)[q].toNat = zs[q].toNat := by
  have h0 := hz zs[q] (List.getElem_mem h)
  have : (strOfNums zs)[q] = UInt8.ofNat (zs[q].toNat) := by
    simp [strOfNums, ByteArray.getElem_eq_getElem_data]
  rw [this]
  simp
  omega
set_option maxRecDepth 100000 in
set_option maxHeartbeats 4000000 in
theorem refSign_any (n : Int) (w : World) : Calls Try.prog 96 #[.int .i64 n] w (Px.XPost w (w.heap.size ≤ ·) (Rx.sign n)) := by
  have HB := Lib.hid (Rn.bytesI_byte n)
  have HF := Lib.hid (Rx.bytes_few n)
  have BY := Lib.hid (fun w => refBytes_any n w)
  have HX := Lib.hid (show Rx.sign n = Rx.several 2 ((Rn.bytesI n).map fun b => Rx.one (Rx.rng b b)) from rfl)
  generalize Rx.sign n = X at *
  generalize Rn.bytesI n = zs at *
  have N := Rx.nod_zero w
  have A := Bs.below1 w (.cells #[.int .u8 0, .int .u64 0, .int .u64 0, .int .u64 0, .int .u64 0, .slice none 0 0] 28)
  go_enter Try.func96, Try.ntmps96
  go_wp2_with fail
  generalize w.alloc (.cells #[.int .u8 0, .int .u64 0, .int .u64 0, .int .u64 0, .int .u64 0, .slice none 0 0] 28) = W at *
  refine (BY.out W).mono ?_
  rintro e w1 ⟨rfl, hb⟩
  replace N := N.up hb
  replace A := Bs.below_up A hb
  clear hb BY
  have HA := Lib.hid (fun q h h' => Rx.num_at zs HB.out q h h')
  have hss : (strOfNums zs).size = zs.length := by simp [strOfNums, ByteArray.size]
  have hl := HF.out
  generalize strOfNums zs = s at *
  have HSS := Lib.hid hss
  have hls : s.size ≤ 4 := by omega
  clear hss
  go_wp2_with fail
  go_loopw [4, 5] (fun v i wr => ∃ q : Nat, q ≤ s.size ∧ i = .int .i64 q ∧ Rx.Own (w.heap.size + 1) v ((zs.map fun b => Rx.one (Rx.rng b b)).take q) wr ∧ Rx.Nod wr w.heap.size 0 (fun _ => false) none 0 0 ∧ Below w.heap.size w wr) (fun _ i _ => s.size - (intOf i).toNat)
  case atStart => exact ⟨0, by omega, rfl, Rx.own_nil _ _, N, A⟩
  case round =>
    clear N A
    obtain ⟨q, hq, rfl, O, N, A⟩ := hrel
    by_cases hlt : q < s.size
    · have hlt' : q < zs.length := by rw [← HSS.out]; exact hlt
      have hz9 := HB.out zs[q] (List.getElem_mem hlt')
      have hzz : s[q].toNat = zs[q].toNat := HA.out q hlt' hlt
      have HT := Lib.hid (show (zs.map fun b => Rx.one (Rx.rng b b)).take (q + 1) = (zs.map fun b => Rx.one (Rx.rng b b)).take q ++ [Rx.one (Rx.rng zs[q] zs[q])] by rw [List.take_succ_eq_append_getElem (by simpa using hlt')]; simp)
      have HQ := Lib.hid (show ((zs.map fun b => Rx.one (Rx.rng b b)).take q).length = q by simp; omega)
      generalize zs[q] = z at *
      obtain ⟨z, rfl⟩ : ∃ m : Nat, z = m := ⟨z.toNat, by omega⟩
      simp only [Int.toNat_natCast] at hzz
      replace hz9 : z < 256 := by omega
      have hwz : IntKind.i64.wrap (z : Int) = z := IntWalk.i64_in _ (by omega)
      have HOl : ∀ k, u4.ownBlock = some k → k < wr.heap.size := fun k hk => (O.lt k hk).2
      have hszr : w.heap.size + 1 ≤ wr.heap.size := N.lt
      have W0 : Rx.WS w u4 (w.heap.size + 1) wr.heap.size ((zs.map fun b => Rx.one (Rx.rng b b)).take q) (fun _ => false) wr := ⟨N, A, fun _ => O, hszr, Nat.le_refl _⟩
      clear N A O
      go_upto_region 6 with fail
      refine Rg.regionB (by kernel_rfl) (by kernel_rfl) (by kernel_rfl) (by decide) (Rg.rel (Rx.relS u4 s q z (w.heap.size + 1) ((zs.map fun b => Rx.one (Rx.rng b b)).take q))) (Rx.WS w u4 (w.heap.size + 1) wr.heap.size ((zs.map fun b => Rx.one (Rx.rng b b)).take q)) (Rx.MS u4) (fun _ _ => False) (fun c b x _ h => h.elim) (fun i j v w w' hij h hb => Rx.relS_up hij h hb) (W0.up (Below.refl _ _).drew) ⟨?_, ?_, ?_, ?_, ?_, ?_, ?_, ?_, ?_, ?_, ?_, ?_, ?_, trivial⟩ ?_
      · intro L f' x hL hw hd
        have HW := Lib.hid hw
        clear hw hd
        simp only [Rg.stepZ, Rg.but, Act.put, List.setIfInBounds_toArray, List.set_cons_zero, List.set_cons_succ]
        go_simp
        exact ⟨rfl, HW.out.on 0 (by decide), Rx.ms_refl _ 0 (by decide) _⟩
      · intro L f' x hL hw hd
        have HW := Lib.hid hw
        clear hw hd
        simp only [Rg.stepZ, Rg.but, Act.put, List.setIfInBounds_toArray, List.set_cons_zero, List.set_cons_succ]
        go_simp
        exact ⟨rfl, HW.out.on 1 (by decide), Rx.ms_refl _ 1 (by decide) _⟩
      · intro L f' x hL hw hd
        have HW := Lib.hid hw
        clear hw hd
        simp only [Rg.stepZ, Rg.but, Act.put, List.setIfInBounds_toArray, List.set_cons_zero, List.set_cons_succ]
        go_simp
        exact ⟨rfl, HW.out.on 2 (by decide), Rx.ms_refl _ 2 (by decide) _⟩
      · intro L f' x hL hw hd
        have r1 : f' 1 = .string s := (hd _ (List.mem_cons_self ..)).2
        have r2 : f' 2 = .int .i64 q := (hd _ (List.mem_cons_of_mem _ (List.mem_cons_self ..))).2
        have HW := Lib.hid hw
        clear hw hd
        simp only [Rg.stepZ, Rg.but, Act.put, List.setIfInBounds_toArray, List.set_cons_zero, List.set_cons_succ]
        go_simp
        exact ⟨rfl, HW.out.on 3 (by decide), Rx.ms_refl _ 3 (by decide) _⟩
      · intro L f' x hL hw hd
        have r3 : f' 3 = .int .u8 z := (hd _ (List.mem_cons_self ..)).2
        have HW := Lib.hid hw
        clear hw hd
        simp only [Rg.stepZ, Rg.but, Act.put, List.setIfInBounds_toArray, List.set_cons_zero, List.set_cons_succ]
        go_simp
        exact ⟨rfl, HW.out.on 4 (by decide), Rx.ms_refl _ 4 (by decide) _⟩
      · intro L f' x hL hw hd
        have HW := Lib.hid hw
        clear hw hd
        simp only [Rg.stepZ, Rg.but, Act.put, List.setIfInBounds_toArray, List.set_cons_zero, List.set_cons_succ]
        go_simp
        exact ⟨rfl, HW.out.on 5 (by decide), Rx.ms_refl _ 5 (by decide) _⟩
      · intro L f' x hL hw hd
        have HW := Lib.hid hw
        clear hw hd
        simp only [Rg.stepZ, Rg.but, Act.put, List.setIfInBounds_toArray, List.set_cons_zero, List.set_cons_succ]
        go_simp
        exact ⟨rfl, HW.out.on 6 (by decide), Rx.ms_refl _ 6 (by decide) _⟩
      · intro L f' x hL hw hd
        have r5 : f' 5 = .string s := (hd _ (List.mem_cons_self ..)).2
        have r6 : f' 6 = .int .i64 q := (hd _ (List.mem_cons_of_mem _ (List.mem_cons_self ..))).2
        have HW := Lib.hid hw
        clear hw hd
        simp only [Rg.stepZ, Rg.but, Act.put, List.setIfInBounds_toArray, List.set_cons_zero, List.set_cons_succ]
        go_simp
        exact ⟨rfl, HW.out.on 7 (by decide), Rx.ms_refl _ 7 (by decide) _⟩
      · intro L f' x hL hw hd
        have r7 : f' 7 = .int .u8 z := (hd _ (List.mem_cons_self ..)).2
        have HW := Lib.hid hw
        clear hw hd
        simp only [Rg.stepZ, Rg.but, Act.put, List.setIfInBounds_toArray, List.set_cons_zero, List.set_cons_succ]
        go_simp
        exact ⟨rfl, HW.out.on 8 (by decide), Rx.ms_refl _ 8 (by decide) _⟩
      · intro L f' x hL hw hd
        have r4 : f' 4 = .int .i64 z := (hd _ (List.mem_cons_self ..)).2
        have r8 : f' 8 = .int .i64 z := (hd _ (List.mem_cons_of_mem _ (List.mem_cons_self ..))).2
        have HW := Lib.hid hw
        clear hw hd
        simp only [Rg.stepZ, Rg.but, Act.put, List.setIfInBounds_toArray, List.set_cons_zero, List.set_cons_succ]
        go_simp
        refine (refSet_any z z (Nat.le_refl _) hz9 x).mono ?_
        rintro e x1 ⟨rfl, hb⟩
        exact ⟨_, rfl, rfl, (HW.out.up hb).on 9 (by decide), Rx.ms_below _ 9 (by decide) hb⟩
      · intro L f' x hL hw hd
        have r9 : f' 9 = Bs.val (Rx.rng z z) := (hd _ (List.mem_cons_self ..)).2
        have HW := Lib.hid hw
        clear hw hd
        simp only [Rg.stepZ, Rg.but, Act.put, List.setIfInBounds_toArray, List.set_cons_zero, List.set_cons_succ]
        go_simp
        refine (refOne_any (Rx.rng z z) x).mono ?_
        rintro e x1 ⟨v, rfl, ⟨_, a9, c9, e9, _⟩, hb⟩
        exact ⟨_, rfl, ⟨a9, c9, e9⟩, (HW.out.up hb).on 10 (by decide), Rx.ms_below _ 10 (by decide) hb⟩
      · intro L f' x hL hw hd
        have r10 : ∃ a cap, f' 10 = Rx.hdr 1 (Rx.rng z z) a 0 cap := (hd _ (List.mem_cons_self ..)).2
        obtain ⟨a9, c9, e9⟩ := r10
        have hsz := hw.sz
        have hol : ∀ k, u4.ownBlock = some k → k < x.heap.size := fun k hk => Nat.lt_of_lt_of_le (HOl k hk) (hw.szr)
        have HW := Lib.hid hw
        clear hw hd
        unfold Rx.hdr at e9
        simp only [Rg.stepZ, Rg.but, Act.put, List.setIfInBounds_toArray, List.set_cons_zero, List.set_cons_succ]
        go_simp
        exact ⟨⟨x.heap.size, a9, c9, rfl, heap_alloc_new x _, fun e => by have := hol _ e.symm; omega⟩, (HW.out.up (Bs.below1 x _)).on 11 (by decide), Rx.ms_below _ 11 (by decide) (Bs.below1 x _)⟩
      · intro L f' x hL hw hd
        have r0 : f' 0 = u4 := (hd _ (List.mem_cons_self ..)).2
        have r11' := (hd _ (List.mem_cons_of_mem _ (List.mem_cons_self ..))).2
        simp only [Rg.but, Act.put, List.setIfInBounds_toArray, List.set_cons_zero, List.set_cons_succ]
        obtain ⟨B, a9, c9, r11, hB, hne⟩ := r11'
        clear hd
        have O := hw.own hL
        obtain ⟨iE, hiE⟩ : ∃ i, Try.prog.info? 28 = some i := by
          have := Rx.infoR
          cases h : Try.prog.info? 28 with
          | none => rw [h] at this; simp at this
          | some i => exact ⟨i, rfl⟩
        have hzz := Rx.infoR
        rw [hiE] at hzz
        simp at hzz
        obtain ⟨hz0, hz1, hz2⟩ := hzz
        have q0 := O.1
        obtain ⟨cs, O1, O2⟩ := q0
        have hOx := O.lt
        have hbx := hw.sz
        rw [HQ.out] at O1
        refine Rg.stepZ_append _ _ 26 rfl (w.heap.size + 1) 28 iE _ 6 64 Try.underlying26 hiE hz0 hz1 hz2 rfl (by decide) u4 q cs r0 O1 ⟨B, 0, none⟩ 1 1 (Rx.six 1 (Rx.rng z z) a9 0 c9) r11 rfl (World.news_of_block hB) (by simp [Rx.six, Value.oneCell']) (by decide) (by unfold maxLen; omega) (by omega) hbx ?_
        intro gg c x1 o1 o2 o3 o4
        have hO5 : Rx.Own (w.heap.size + 1) (.slice (some ⟨gg, 0, none⟩) (q + 1) c) (((zs.map fun b => Rx.one (Rx.rng b b)).take q) ++ [Rx.one (Rx.rng z z)]) x1 := by
          have := Rx.Own.push (base := w.heap.size + 1) (v := u4) (c := c) (g := gg) O2 (y := Rx.one (Rx.rng z z)) (k := 1) (f := Rx.rng z z) (a := a9) (n := 0) (cap := c9) ⟨by omega, a9, c9, rfl, trivial⟩ (by rw [HQ.out]; exact o1) o2 o3
          rw [HQ.out] at this
          exact this
        refine ⟨hO5, ⟨hw.nod.own o2 (fun j hj => by have := (hOx j hj).1; omega), hw.bel.grown o2 hw.bel.size (fun j hj => by have := (hOx j hj).1; omega), fun e => by simp at e, Nat.le_trans hw.sz o2.size, Nat.le_trans hw.szr o2.size⟩, ?_⟩
        unfold Rx.MS
        rw [if_pos rfl]
        exact o2
      · intro L f' x hall hw hR o ho
        have r12 : Rx.Own (w.heap.size + 1) (f' 12) (((zs.map fun b => Rx.one (Rx.rng b b)).take q) ++ [Rx.one (Rx.rng z z)]) x := hR 12 (by decide)
        simp at ho
        subst ho
        simp only [Rg.stepZ, Rg.but, Act.put, List.setIfInBounds_toArray, List.set_cons_zero, List.set_cons_succ]
        have HW := Lib.hid hw
        have H := Lib.hid r12
        clear hw hR r12 W0
        go_simp
        generalize f' 12 = v12 at *
        obtain ⟨a9, c9, e9, _⟩ := H.out.slice
        generalize f' 0 = z0 at *
        generalize f' 1 = z1 at *
        generalize f' 2 = z2 at *
        generalize f' 3 = z3 at *
        generalize f' 4 = z4 at *
        generalize f' 5 = z5 at *
        generalize f' 6 = z6 at *
        generalize f' 7 = z7 at *
        generalize f' 8 = z8 at *
        generalize f' 9 = z9 at *
        generalize f' 10 = z10 at *
        generalize f' 11 = z11 at *
        go_wp2_with fail
        go_roundw
        case rel => exact ⟨q + 1, by omega, by go_num, by rw [HT.out]; exact H.out, HW.out.nod, HW.out.bel⟩
        case measure => simp [intOf]; omega
    · have hq' : (zs.map fun b => Rx.one (Rx.rng b b)).take q = zs.map fun b => Rx.one (Rx.rng b b) := List.take_of_length_le (by have := HSS.out; simp; omega)
      rw [hq'] at O
      obtain ⟨a', cap', rfl, R⟩ := O.slice
      clear hq' O
      have J0 := refSeveralB_any 2 (by decide) _ a' cap' _ wr R
      rw [← HX.out, List.length_map] at J0
      have J := Lib.hid J0
      clear R J0
      rw [List.length_map]
      go_wp2_with fail
      refine J.out.mono ?_
      rintro e w2 ⟨v2, rfl, hy, hb⟩
      replace N := N.up hb
      replace A := Bs.below_up A hb
      clear hb J
      obtain ⟨k2, f2, a2, n2, cap2, rfl⟩ := hy.form
      have HY := Lib.hid (hy.mono (B' := fun j => w.heap.size + 1 ≤ j) (fun j hj => by omega))
      clear hy
      unfold Rx.hdr
      obtain ⟨⟨d0, d1, d2, d3, d4, d5⟩, y⟩ := N
      simp only [Nat.zero_add] at d0 d1 d2 d3 d4 d5
      have y0 := y 0 (by decide); have y1 := y 1 (by decide); have y2 := y 2 (by decide); have y3 := y 3 (by decide); have y4 := y 4 (by decide); have y5 := y 5 (by decide)
      clear y
      go_wp2_with fail
      refine bodyPost_ret (v := Rx.hdr k2 f2 a2 n2 cap2) (by simp [results, Try.results96, go_sem, Rx.hdr, d0, d1, d2, d3, d4, d5]) rfl ⟨_, rfl, ?_, ?_⟩
      · exact (HY.out.wr (b := w.heap.size) (by omega) k2 f2 a2 n2 cap2).mono (fun j hj => by omega)
      · exact Rx.wr_below A (Nat.le_refl _) k2 f2 a2 n2 cap2
end Go.Proofs.Ytigdelfoipcilaa
