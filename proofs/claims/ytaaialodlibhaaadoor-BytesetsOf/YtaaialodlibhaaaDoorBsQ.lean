/- The chapter's examples, walked. -/
import Derived.Test.YtaaialodlibhaaaDoorBsG
namespace Go.Proofs.YtaaialodlibhaaaDoor
set_option linter.unusedVariables false
set_option linter.unusedSimpArgs false
open Go.RowKit
/-- the two sets of the example -/
def Bs.ex : List (Nat → Bool) := [Bs.rng 97 99, Bs.ofL [98]]
theorem Bs.ex_a : Bs.kls Bs.ex 97 = 1 := by decide +kernel
theorem Bs.ex_b : Bs.kls Bs.ex 98 = 2 := by decide +kernel
theorem Bs.ex_c : Bs.kls Bs.ex 99 = 1 := by decide +kernel
theorem Bs.ex_d : Bs.kls Bs.ex 100 = 0 := by decide +kernel
theorem Bs.ex_n : Bs.ncl Bs.ex 256 = 3 := by decide +kernel
theorem Bs.ex_2 : Bs.cnt (Bs.ofL [97, 99]) 256 = 2 := by decide +kernel
theorem Bs.ex_254 : Bs.cnt (fun c => !Bs.ofL [97, 99] c) 256 = 254 := by decide +kernel
theorem len_2 (w : World) : Calls Tryd.prog 11 #[Bs.val (Bs.ofL [97, 99])] w fun e w' => e = .returned (.int .i64 2) ∧ Below w.heap.size w w' := by
  have h := lenB_any (Bs.ofL [97, 99]) w
  rw [Bs.ex_2] at h
  exact h
theorem len_254 (w : World) : Calls Tryd.prog 11 #[Bs.val (fun c => !Bs.ofL [97, 99] c)] w fun e w' => e = .returned (.int .i64 254) ∧ Below w.heap.size w w' := by
  have h := lenB_any (fun c => !Bs.ofL [97, 99] c) w
  rw [Bs.ex_254] at h
  exact h
theorem Bs.byt_new (w : World) (x y : Nat) (t : TypeId) : Bs.Byt (w.alloc (.cells #[.int .u8 x, .int .u8 y] t)) (some ⟨w.heap.size, 0, none⟩) [x, y] := by
  intro i hi
  refine ⟨_, rfl, ?_⟩
  match i, hi with
  | 0, _ => simp [go_sem, Addr.add]
  | 1, _ => simp [go_sem, Addr.add]
theorem Bs.byt_one (w : World) (x : Nat) (t : TypeId) : Bs.Byt (w.alloc (.cells #[.int .u8 x] t)) (some ⟨w.heap.size, 0, none⟩) [x] := by
  intro i hi
  refine ⟨_, rfl, ?_⟩
  match i, hi with
  | 0, _ => simp [go_sem, Addr.add]
theorem Bs.row_new (w : World) (f g : Nat → Bool) (t : TypeId) : Bs.Row (w.alloc (.cells #[.int .u64 (Bs.word f 0), .int .u64 (Bs.word f 1), .int .u64 (Bs.word f 2), .int .u64 (Bs.word f 3), .int .u64 (Bs.word g 0), .int .u64 (Bs.word g 1), .int .u64 (Bs.word g 2), .int .u64 (Bs.word g 3)] t)) (some ⟨w.heap.size, 0, none⟩) [f, g] := by
  intro i hi
  refine ⟨_, rfl, ?_⟩
  match i, hi with
  | 0, _ => constructor <;> simp [go_sem, Addr.add]
  | 1, _ => constructor <;> simp [go_sem, Addr.add]
set_option maxRecDepth 100000 in
set_option maxHeartbeats 2000000 in
theorem alive_any (w : World) : Calls Tryd.prog 4 #[] w (Bs.BPost w true) := by
  have zz := Bs.zero256.1
  go_enter Tryd.func4, Tryd.ntmps4
  go_wp2_with fail
  refine (ofB_any (some ⟨w.heap.size, 0, none⟩) [97, 99] 2 _ (Bs.byt_new w 97 99 _) (by decide) (by decide)).mono ?_
  rintro e v1 ⟨rfl, hb1⟩
  have B : Below w.heap.size w v1 := Bs.below_up (Bs.below1 _ _) hb1
  clear hb1
  have S0 := Bs.box_new v1 (Bs.ofL [97, 99]) 26
  replace B := Bs.below_up B (Bs.below1 v1 (.cells #[.int .u64 ↑(Bs.word (Bs.ofL [97, 99]) 0), .int .u64 ↑(Bs.word (Bs.ofL [97, 99]) 1), .int .u64 ↑(Bs.word (Bs.ofL [97, 99]) 2), .int .u64 ↑(Bs.word (Bs.ofL [97, 99]) 3)] 26))
  unfold Bs.val
  go_wp2_with fail
  generalize v1.alloc (.cells #[.int .u64 ↑(Bs.word (Bs.ofL [97, 99]) 0), .int .u64 ↑(Bs.word (Bs.ofL [97, 99]) 1), .int .u64 ↑(Bs.word (Bs.ofL [97, 99]) 2), .int .u64 ↑(Bs.word (Bs.ofL [97, 99]) 3)] 26) = W1 at *
  generalize v1.heap.size = N at *
  refine (rangeB_any 97 99 _).mono ?_
  rintro e v2 ⟨rfl, hb2⟩
  replace S0 := S0.up hb2
  replace B := Bs.below_up B hb2
  clear hb2
  unfold Bs.val
  go_wp2_with fail
  refine (ofB_any (some ⟨v2.heap.size, 0, none⟩) [98] 1 _ (Bs.byt_one v2 98 _) (by decide) (by decide)).mono ?_
  rintro e v3 ⟨rfl, hb3⟩
  replace S0 := (S0.up (Bs.below1 v2 _)).up hb3
  replace B := Bs.below_up (Bs.below_up B (Bs.below1 v2 _)) hb3
  clear hb3
  unfold Bs.val
  go_wp2_with fail
  refine (classes_any (some ⟨v3.heap.size, 0, none⟩) Bs.ex 2 _ (Bs.row_new v3 _ _ _) (by decide)).mono ?_
  rintro e v ⟨rfl, hb4⟩
  replace S0 := (S0.up (Bs.below1 v3 _)).up hb4
  replace B := Bs.below_up (Bs.below_up B (Bs.below1 v3 _)) hb4
  clear hb4
  rw [Bs.ex_n]
  obtain ⟨A, hA⟩ : ∃ A, A = Bs.arr (Bs.kls Bs.ex) := ⟨_, rfl⟩
  obtain ⟨Z, hZ⟩ : ∃ Z, Z = Bs.zeros := ⟨_, rfl⟩
  rw [← hA]
  rw [← hZ] at zz
  have hAs : A.size = 256 := by rw [hA, Bs.arr_size]
  have hsc := run_storeCells_new (P := Tryd.prog) v 37 Z A (by rw [hAs]; exact Bs.zero256.2) (by rw [hAs, hZ]; exact Bs.arr_size _) (by rw [hA]; exact Bs.arr_one _)
  have HA := Lib.hid hA; clear hA hZ
  replace S0 := S0.up (Bs.below1 v (.cells A 37))
  have C0 : Bs.Arr (v.alloc (.cells A 37)) v.heap.size (Bs.kls Bs.ex) := by rw [HA.out]; exact heap_alloc_last _ _
  replace B := Bs.below_up B (Bs.below1 v (.cells A 37))
  have s0 := S0.cell 0 (by decide); have s1 := S0.cell 1 (by decide); have s2 := S0.cell 2 (by decide); have s3 := S0.cell 3 (by decide)
  go_wp2_with fail
  clear zz hsc s0 s1 s2 s3
  generalize v.alloc (.cells A 37) = V at *
  refine (len_2 _).mono ?_
  rintro e v5 ⟨rfl, hb5⟩
  replace S0 := S0.up hb5
  replace C0 := C0.up hb5
  replace B := Bs.below_up B hb5
  clear hb5
  have s0 := S0.cell 0 (by decide); have s1 := S0.cell 1 (by decide); have s2 := S0.cell 2 (by decide); have s3 := S0.cell 3 (by decide)
  go_wp2_with fail
  clear s0 s1 s2 s3
  refine (notB_any (Bs.ofL [97, 99]) _).mono ?_
  rintro e v6 ⟨rfl, hb6⟩
  replace C0 := C0.up hb6
  replace B := Bs.below_up B hb6
  clear hb6 S0
  go_wp2_with fail
  refine (len_254 _).mono ?_
  rintro e v7 ⟨rfl, hb7⟩
  replace C0 := C0.up hb7
  replace B := Bs.below_up B hb7
  clear hb7
  have c97 := C0.cell 97 (by decide); have c98 := C0.cell 98 (by decide); have c99 := C0.cell 99 (by decide); have c100 := C0.cell 100 (by decide)
  rw [Bs.ex_a] at c97; rw [Bs.ex_b] at c98; rw [Bs.ex_c] at c99; rw [Bs.ex_d] at c100
  go_wp2_with fail
  go_ret
  exact ⟨rfl, B⟩
end Go.Proofs.YtaaialodlibhaaaDoor
