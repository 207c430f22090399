/- The law BytesetsClasses, walked. -/
import Derived.Test.YtaaialodlibhaaaBsQ
import Derived.Test.YtaaialodlibhaaaBsH
import Derived.Test.YtaaialodlibhaaaBsJ
import Derived.Deep.RegionHeld3
import Derived.IntWalk
import Derived.Deep.DeepCutAuto
import Derived.Deep.CutBlock
namespace Go.Proofs.Ytaaialodlibhaaa
set_option linter.unusedVariables false
set_option linter.unusedSimpArgs false
open Go.RowKit
/-- what is known in the loop -/
structure Bs.LInv (w : World) (fs : List (Nat → Bool)) (k : Int) (p q g : Nat) (wr : World) : Prop where
  arr : Bs.Arr wr p (Bs.kls fs)
  one : Bs.Box wr q (Bs.cls fs k)
  ref : ∀ c, c < 256 → wr.cell? ⟨g, c, none⟩ = some (.int .i64 (Bs.kls fs c))
  bel : Below w.heap.size w wr
theorem Bs.LInv.up {w wr wx : World} {fs : List (Nat → Bool)} {k : Int} {p q g : Nat} (h : Bs.LInv w fs k p q g wr) (hb : Below wr.heap.size wr wx) : Bs.LInv w fs k p q g wx :=
  ⟨h.arr.up hb, h.one.up hb, fun c hc => Bs.cell_up hb (h.ref c hc), Bs.below_up h.bel hb⟩
theorem Bs.LInv.drew {w wr : World} {fs : List (Nat → Bool)} {k : Int} {p q g : Nat} (h : Bs.LInv w fs k p q g wr) : Bs.LInv w fs k p q g wr.drew :=
  ⟨h.arr, ⟨h.one.cell, h.one.frz⟩, h.ref, h.bel.drew⟩
set_option maxRecDepth 100000 in
set_option maxHeartbeats 2000000 in
theorem classesLaw_any (a : Option Addr) (fs : List (Nat → Bool)) (cap : Nat) (k : Int) (w : World) (hR : Bs.Row w a fs) (hn : fs.length ≤ maxLen) :
    Calls Try.prog 4 #[.slice a fs.length cap, .int .i64 k] w (Bs.BPost w true) := by
  unfold maxLen at hn
  have HR := Lib.hid hR; clear hR
  go_enter Try.func4, Try.ntmps4
  go_wp2_with fail
  refine (alive_any _).mono ?_
  rintro e v0 ⟨rfl, B⟩
  by_cases h12 : 12 < fs.length
  · have h12' : decide ((12 : Int) < (fs.length : Int)) = true := decide_eq_true (by omega)
    go_wp2_with fail
    go_ret
    exact ⟨rfl, B⟩
  have h12' : decide ((12 : Int) < (fs.length : Int)) = false := decide_eq_false (by omega)
  go_wp2_with fail
  clear h12'
  refine (classes_any a fs cap _ (HR.out.up B) (by omega)).mono ?_
  rintro e v ⟨rfl, hb⟩
  replace B := Bs.below_up B hb
  clear hb
  have zz := Bs.zero256.1
  obtain ⟨A, hA⟩ : ∃ A, A = Bs.arr (Bs.kls fs) := ⟨_, rfl⟩
  obtain ⟨Z, hZ⟩ : ∃ Z, Z = Bs.zeros := ⟨_, rfl⟩
  rw [← hA]
  rw [← hZ] at zz
  have hAs : A.size = 256 := by rw [hA, Bs.arr_size]
  have hsc := run_storeCells_new (P := Try.prog) v 32 Z A (by rw [hAs]; exact Bs.zero256.2) (by rw [hAs, hZ]; exact Bs.arr_size _) (by rw [hA]; exact Bs.arr_one _)
  have HA := Lib.hid hA; clear hA hZ
  have C0 : Bs.Arr (v.alloc (.cells A 32)) v.heap.size (Bs.kls fs) := by rw [HA.out]; exact heap_alloc_last _ _
  replace B := Bs.below_up B (Bs.below1 v (.cells A 32))
  go_wp2_with fail
  clear zz hsc
  generalize v.alloc (.cells A 32) = V at *
  generalize v.heap.size = P at *
  refine (refClasses_any a fs cap _ (HR.out.up B) (by omega)).mono ?_
  rintro e v1 ⟨g, cap', rfl, hcells, hcap, hb⟩
  replace C0 := C0.up hb
  replace B := Bs.below_up B hb
  clear hb
  have HC := Lib.hid hcells; clear hcells
  go_wp2_with fail
  refine (class_any a fs cap k _ (HR.out.up B) (by omega)).mono ?_
  rintro e v2 ⟨rfl, hb⟩
  unfold Bs.val
  have L : Bs.LInv w fs k P v2.heap.size g (v2.alloc (.cells #[.int .u64 ↑(Bs.word (Bs.cls fs k) 0), .int .u64 ↑(Bs.word (Bs.cls fs k) 1), .int .u64 ↑(Bs.word (Bs.cls fs k) 2), .int .u64 ↑(Bs.word (Bs.cls fs k) 3)] 25)) :=
    ⟨(C0.up hb).up (Bs.below1 _ _), Bs.box_new _ _ _, fun c hc => Bs.cell_up (Bs.below1 _ _) (Bs.cell_up hb (HC.out c hc)), Bs.below_up (Bs.below_up B hb) (Bs.below1 _ _)⟩
  clear hb C0 B HC
  go_wp2_with fail
  generalize v2.alloc (.cells #[.int .u64 ↑(Bs.word (Bs.cls fs k) 0), .int .u64 ↑(Bs.word (Bs.cls fs k) 1), .int .u64 ↑(Bs.word (Bs.cls fs k) 2), .int .u64 ↑(Bs.word (Bs.cls fs k) 3)] 25) = V2 at *
  generalize v2.heap.size = Q at *
  go_loopw [10] (fun i wr => ∃ c : Nat, c ≤ 256 ∧ i = .int .i64 c ∧ Bs.LInv w fs k P Q g wr) (fun i _ => 256 - (intOf i).toNat)
  case atStart => exact ⟨0, by omega, rfl, L⟩
  case round =>
    clear L
    obtain ⟨c, hc, rfl, L⟩ := hrel
    by_cases hlt : c < 256
    · have hd : decide ((c : Int) < 256) = true := decide_eq_true (by omega)
      have hk1 : (0 : Int) ≤ (c : Int) := by omega
      have hk2 : (c : Int) < 256 := by omega
      have hk3 : IntKind.u8.wrap (c : Int) = c := by rw [IntKind.wrap_u8']; omega
      have hkl := Bs.kls_le fs c
      have hk4 : IntKind.i64.wrap (Bs.kls fs c : Int) = Bs.kls fs c := IntWalk.i64_in _ (by omega)
      have hk5 : ((Bs.kls fs c : Int) != (Bs.kls fs c : Int)) = false := by simp
      have c0 := L.arr.cell c hlt
      have c1 := L.ref c hlt
      have b0 := L.one.cell 0 (by decide); have b1 := L.one.cell 1 (by decide); have b2 := L.one.cell 2 (by decide); have b3 := L.one.cell 3 (by decide)
      go_wp2_with fail
      go_region_held3 (fun v => v.cell? ⟨P, c, none⟩ = some (.int .u8 ↑(Bs.kls fs c)) ∧ v.cell? ⟨g, c, none⟩ = some (.int .i64 ↑(Bs.kls fs c)) ∧ v.cell? ⟨Q, 0, none⟩ = some (.int .u64 ↑(Bs.word (Bs.cls fs k) 0)) ∧ v.cell? ⟨Q, 1, none⟩ = some (.int .u64 ↑(Bs.word (Bs.cls fs k) 1)) ∧ v.cell? ⟨Q, 2, none⟩ = some (.int .u64 ↑(Bs.word (Bs.cls fs k) 2)) ∧ v.cell? ⟨Q, 3, none⟩ = some (.int .u64 ↑(Bs.word (Bs.cls fs k) 3)) ∧ Bs.LInv w fs k P Q g v)
        (first
          | (refine ⟨?_, ?_, ?_, ?_, ?_, ?_, ?_⟩ <;> with_reducible (first | (refine Bs.cell_dr ?_; assumption) | (refine Bs.LInv.drew ?_; assumption)))
          | (go_split_ands; refine ⟨?_, ?_, ?_, ?_, ?_, ?_, ?_⟩ <;> with_reducible (first | (refine Bs.cell_up hb1 ?_; assumption) | (refine Bs.LInv.up ?_ hb1; assumption))))
        (first
          | (go_at_call 7; go_split_ands; refine (refHas_any (Bs.cls fs k) c hlt _).mono ?_; rintro r w2 ⟨rfl, hb1⟩))
      all_goals
        rename_i hH
        obtain ⟨_, _, _, _, _, _, L2⟩ := hH
        have hv : (!(Bs.cls fs k c == ((Bs.kls fs c : Int) == k))) = false := by simp [Bs.cls]
        rw [hv]
        clear hv c0 c1 b0 b1 b2 b3 L hb1
        go_wp2_with fail
        go_roundw
        case rel => exact ⟨c + 1, by omega, by go_num, L2⟩
        case measure => simp [intOf]; omega
    · have hd : decide ((c : Int) < 256) = false := decide_eq_false (by omega)
      have B := L.bel
      clear L
      go_wp2_with fail
      go_ret
      exact ⟨rfl, B⟩
end Go.Proofs.Ytaaialodlibhaaa
