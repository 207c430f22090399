/- What Classes answers, walked. -/
import Derived.Test.YtaaialodlibhaaaDoorBsF
import Derived.Deep.Cut
namespace Go.Proofs.YtaaialodlibhaaaDoor
set_option linter.unusedVariables false
set_option linter.unusedSimpArgs false
open Go.RowKit
open Go.Maps (Keyed)
theorem Bs.arr_one (g : Nat → Nat) : (Bs.arr g).all (·.oneCell') = true := by
  unfold Bs.arr
  rw [Array.all_eq_true_iff_forall_mem]
  intro v hv
  obtain ⟨i, _, rfl⟩ := Array.mem_ofFn.1 hv
  rfl
theorem Bs.below_row {w wr : World} (h : Below w.heap.size w wr) (cs : Array Value) : Below w.heap.size w (wr.setRow w.heap.size cs) :=
  ⟨by rw [setRow_os]; exact h.os, by rw [setRow_tape]; exact h.tape, by rw [setRow_output]; exact h.output, by rw [setRow_size]; exact h.size, fun k hk => by rw [setRow_other _ _ _ _ (Nat.ne_of_lt hk)]; exact h.block k hk⟩
theorem Bs.zeroByte (w : World) : (zeroValue 5).run Tryd.prog w = .ok (.int .u8 0) w := by kernel_rfl
theorem Bs.own_up {w w1 : World} {b n : Nat} {D : DataW Unit} {R : Value → Option (DataW Unit × List MemPlace)} (h : w.ownsMap Tryd.prog 26 R b n D) (hb : Below w.heap.size w w1) : w1.ownsMap Tryd.prog 26 R b n D := by
  have hl := h.lt
  obtain ⟨es, clock, e, r⟩ := h
  exact ⟨es, clock, by rw [hb.block b hl]; exact e, r⟩
theorem Bs.Arr.grown {w w1 : World} {b d : Nat} {g : Nat → Nat} (h : Bs.Arr w b g) (hg : w.grownBy w1 (some d)) (hn : b ≠ d) : Bs.Arr w1 b g := by
  unfold Bs.Arr; rw [hg.block b h.lt (by simpa using hn)]; exact h
/-- of the first c bytes their classes -/
def Bs.part (fs : List (Nat → Bool)) (c : Nat) : Nat → Nat := fun d => if d < c then Bs.kls fs d else 0
theorem Bs.part_succ (fs : List (Nat → Bool)) (c : Nat) : Bs.part fs (c + 1) = fun d => if d = c then Bs.kls fs c else Bs.part fs c d := by
  funext d
  unfold Bs.part
  by_cases h : d = c
  · subst h; simp
  · have : (d < c + 1) = (d < c) := propext (by omega)
    simp [this, h]
/-- ahead of a round of Classes -/
structure Bs.CInv (w : World) (fs : List (Nat → Bool)) (c : Nat) (wr : World) : Prop where
  map : ∃ D : DataW Unit, wr.ownsMap Tryd.prog 26 (plainElem Tryd.prog 5) (w.heap.size + 2) c D ∧ Bs.MInv fs c D
  arr : Bs.Arr wr (w.heap.size + 1) (Bs.part fs c)
  res : Bs.Arr wr w.heap.size (fun _ => 0)
  bel : Below w.heap.size w wr
theorem Bs.CInv.up {w wr wx : World} {fs : List (Nat → Bool)} {c : Nat} (h : Bs.CInv w fs c wr) (hb : Below wr.heap.size wr wx) : Bs.CInv w fs c wx := by
  obtain ⟨⟨D, h1, h2⟩, h3, h4, h5⟩ := h
  exact ⟨⟨D, Bs.own_up h1 hb, h2⟩, h3.up hb, h4.up hb, Bs.below_up h5 hb⟩
theorem Bs.cinv_zero (w : World) (fs : List (Nat → Bool)) : Bs.CInv w fs 0 (((w.alloc (.cells Bs.zeros 37)).alloc (.cells Bs.zeros 37)).alloc (.map #[] 0)) := by
  have e1 : (w.alloc (.cells Bs.zeros 37)).heap.size = w.heap.size + 1 := by simp [go_sem]
  have e2 : ((w.alloc (.cells Bs.zeros 37)).alloc (.cells Bs.zeros 37)).heap.size = w.heap.size + 2 := by simp [go_sem]
  refine ⟨⟨.map [], ?_, Bs.minv_zero fs⟩, ?_, ?_, Bs.below3 _ _ _ _⟩
  · rw [← e2]; exact World.ownsMap_made _ _ _ _
  · have h : Bs.Arr ((w.alloc (.cells Bs.zeros 37)).alloc (.cells Bs.zeros 37)) (w.heap.size + 1) (Bs.part fs 0) := by
      rw [← e1]; exact heap_alloc_last _ _
    exact h.up (Bs.below1 _ _)
  · have h : Bs.Arr (w.alloc (.cells Bs.zeros 37)) w.heap.size (fun _ => 0) := heap_alloc_last _ _
    exact (h.up (Bs.below1 _ _)).up (Bs.below1 _ _)
/-- the way on behind the look-up -/
theorem Bs.wf_u8 {n : Nat} (h : n < 256) : (Lit.int .u8 (n : Int)).wf = true := by
  simp [Lit.wf, IntKind.min, IntKind.max, IntKind.signed, IntKind.bits]; omega
set_option maxRecDepth 100000 in
set_option maxHeartbeats 2000000 in
theorem classes_any (a : Option Addr) (fs : List (Nat → Bool)) (cap : Nat) (w : World) (hR : Bs.Row w a fs) (hn : fs.length ≤ 1000000) :
    Calls Tryd.prog 14 #[.slice a fs.length cap] w fun e w' => e = .returned (.tuple #[.agg (Bs.arr (Bs.kls fs)), .int .i64 (Bs.ncl fs 256)]) ∧ Below w.heap.size w w' := by
  have HR := Lib.hid hR; clear hR
  have zz := Bs.zero256.1
  have hmm := @run_makeMap Tryd.prog
  have C0 := Bs.cinv_zero w fs
  go_enter Tryd.func14, Tryd.ntmps14
  go_wp2_with fail
  clear zz hmm
  have m1 : w.heap.size ≠ w.heap.size + 1 := by omega
  generalize ((w.alloc (.cells Bs.zeros 37)).alloc (.cells Bs.zeros 37)).alloc (.map #[] 0) = W at *
  go_loopw [11] (fun i wr => ∃ c : Nat, c ≤ 256 ∧ i = .int .i64 c ∧ Bs.CInv w fs c wr) (fun i _ => 256 - (intOf i).toNat)
  case atStart => exact ⟨0, by omega, rfl, C0⟩
  case round =>
    clear C0
    obtain ⟨c, hc, rfl, C⟩ := hrel
    by_cases hlt : c < 256
    · have hd : decide ((c : Int) < 256) = true := decide_eq_true (by omega)
      go_wp2_with fail
      refine (like_any a fs cap c _ hlt (HR.out.up C.bel) hn).mono ?_
      rintro e v ⟨rfl, hb⟩
      unfold Bs.val
      obtain ⟨V, hV⟩ : ∃ V, V = v.alloc (.cells #[.int .u64 ↑(Bs.word (fun d => Bs.alike fs c d) 0), .int .u64 ↑(Bs.word (fun d => Bs.alike fs c d) 1), .int .u64 ↑(Bs.word (fun d => Bs.alike fs c d) 2), .int .u64 ↑(Bs.word (fun d => Bs.alike fs c d) 3)] 26) := ⟨_, rfl⟩
      have Y := Bs.box_new v (fun d => Bs.alike fs c d) 26
      replace C := (C.up hb).up (Bs.below1 v (.cells #[.int .u64 ↑(Bs.word (fun d => Bs.alike fs c d) 0), .int .u64 ↑(Bs.word (fun d => Bs.alike fs c d) 1), .int .u64 ↑(Bs.word (fun d => Bs.alike fs c d) 2), .int .u64 ↑(Bs.word (fun d => Bs.alike fs c d) 3)] 26))
      rw [← hV] at Y C
      have HV := Lib.hid hV; clear hV hb
      obtain ⟨⟨D, hown, hM⟩, hA, hZ, hB⟩ := C
      go_upto_region 7 with (fail)
      rw [← HV.out]
      have y0 := Y.cell 0 (by decide); have y1 := Y.cell 1 (by decide); have y2 := Y.cell 2 (by decide); have y3 := Y.cell 3 (by decide)
      have c0 := hA.cell c hlt
      have f0 := hA.frz c
      rcases Bool.eq_false_or_eq_true (Maps.has D (Bs.kk fs c)) with hh | hh
      · obtain ⟨hM', hat'⟩ := hM.old hlt hh
        have HAT := Lib.hid hat'; clear hat'
        go_wp2_with (at_lookup; refine wpList_lookup_own_ok_int _ rfl _ _ 45 rfl 26 5 .u8 Bs.keyed Tryd.underlying45 Tryd.underlying5 (Bs.zeroByte _) (w.heap.size + 2) c D rfl hown _ (Bs.kk fs c) rfl (Bs.keyOf_val _) ?_; intro x hat hwx; have HX := Lib.hid hat; clear hat hwx)
        go_roundw
        case rel =>
          have hx : x = (Bs.kls fs c : Int) := by
            have h1 := HX.out
            rw [HAT.out] at h1
            simpa using h1.symm
          rw [hx]
          refine ⟨c + 1, by omega, by go_num, ⟨D, (hown.setCell (by simp) _).mono (by omega), hM'⟩, ?_, hZ.far (Ne.symm m1) _, hB.setCell (by simp) _⟩
          rw [Bs.part_succ]
          exact hA.put c _ hlt
        case measure => simp [intOf]; omega
      · obtain ⟨hM', hk⟩ := hM.new (hown.tidy Bs.keyed) hlt hh
        have HK := Lib.hid hk; clear hk
        have hsz := hM.size
        have hle := Bs.ncl_le fs c
        have hval := plainElem_int (H := Unit) Tryd.underlying5 (Bs.wf_u8 (n := Bs.ncl fs c) (by omega))
        have HVAL := Lib.hid hval; clear hval
        have hcm : c < maxLen := by unfold maxLen; omega
        go_wp2_with (first
          | (at_lookup; refine wpList_lookup_own_ok_int _ rfl _ _ 45 rfl 26 5 .u8 Bs.keyed Tryd.underlying45 Tryd.underlying5 (Bs.zeroByte _) (w.heap.size + 2) c D rfl hown _ (Bs.kk fs c) rfl (Bs.keyOf_val _) ?_; intro x hat hwx; clear hat hwx)
          | (at_len; refine wpList_len_own _ rfl _ 45 rfl 26 5 Tryd.underlying45 _ (w.heap.size + 2) c D rfl hown ?_)
          | (at_mapUpdate; refine wpList_mapUpdate_own _ rfl _ _ _ 45 rfl 26 5 Bs.keyed Tryd.underlying45 _ (w.heap.size + 2) c D rfl hown hcm _ _ (Bs.kk fs c) rfl rfl (Bs.keyOf_val _) (.lit (.int .u8 (Bs.ncl fs c : Nat))) [] HVAL.out ?_; intro w1 hown1 hgrow1; have hA1 := hA.grown hgrow1 (by omega); have hZ1 := hZ.grown hgrow1 (by omega); have c1 := hA1.cell c hlt; have f1 := hA1.frz c))
        go_roundw
        case rel =>
          refine ⟨c + 1, by omega, by go_num, ⟨_, hown1.setCell (by simp) _, hM'⟩, ?_, hZ1.far (Ne.symm m1) _, (hB.grown hgrow1 hB.size (by simp)).setCell (by simp) _⟩
          rw [Bs.part_succ, HK.out]
          exact hA1.put c _ hlt
        case measure => simp [intOf]; omega
    · obtain rfl : c = 256 := by omega
      clear hc hlt
      obtain ⟨⟨D, hown, hM⟩, hA, hZ, hB⟩ := C
      have e1 : Bs.arr (Bs.part fs 256) = Bs.arr (Bs.kls fs) := Bs.arr_congr fun d hd => by simp [Bs.part, hd]
      unfold Bs.Arr at hA
      rw [e1] at hA
      clear e1
      have hsz := hM.size
      go_wp2_with (first
        | (at_len; refine wpList_len_own _ rfl _ 45 rfl 26 5 Tryd.underlying45 _ (w.heap.size + 2) 256 D rfl hown ?_)
        | (refine wpList_load_row rfl 37 _ rfl (w.heap.size + 1) rfl 37 (Bs.arr (Bs.kls fs)) (0, 0) _ hA Tryd.underlying37 rfl (by rw [Bs.arr_size]; exact Bs.zero256.2) ?_)
        | (refine wpList_store_row rfl 37 _ _ rfl w.heap.size (Bs.arr (Bs.kls fs)) rfl rfl 37 (Bs.arr fun _ => 0) hZ (by rw [Bs.arr_size]; exact Bs.zero256.2) (by rw [Bs.arr_size, Bs.arr_size]) (Bs.arr_one _) ?_))
      have hld := run_loadVar_row (P := Tryd.prog) (wr.setRow w.heap.size (Bs.arr (Bs.kls fs))) w.heap.size 37 37 _ (0, 0) _ (setRow_heap _ _ _ _ _ _ hZ) Tryd.underlying37 rfl (by rw [Bs.arr_size]; exact Bs.zero256.2)
      refine bodyPost_ret (v := .tuple #[.agg (Bs.arr (Bs.kls fs)), .int .i64 (Bs.ncl fs 256)]) ?_ rfl ⟨rfl, Bs.below_row hB _⟩
      rw [results_cell_tmp (p := 2) (u := 3) (ty := 37) rfl]
      simp [asAddr, Result.andThen, hld]
end Go.Proofs.YtaaialodlibhaaaDoor
