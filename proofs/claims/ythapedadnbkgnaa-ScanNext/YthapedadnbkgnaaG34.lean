/- The law ScanNext, walked. An expression that comes in, opened to its tree. Rows of expressions, and fronts, that come in, opened. Tables, and slices of texts, that come in, opened. -/
import Derived.Test.YthapedadnbkgnaaG33
import Derived.Test.YthapedadnbkgnaaG3
import Derived.Deep.Slices
import Derived.ChangeSame
import Derived.OpenShut
import Derived.WideKeyArr2
import Derived.Laws.IdiomArrays
import Derived.Test.YthapedadnbkgnaaG5
import Derived.Test.YthapedadnbkgnaaG32
import Derived.SliceStrings
namespace Go.Proofs.Ythapedadnbkgnaa
set_option linter.unusedVariables false
set_option linter.unusedSimpArgs false
open Go.RowKit
theorem Df.Tv.cell6 {w : World} {D : Array Value} {g : Nat → Nat} {N : List (List Int)} {R : List Int} (h : Df.Tv w (.agg D) g N R) : ∃ a c, D[256]? = some (.slice a N.length c) := by
  obtain ⟨t1, m1, q1, rows, t2, m2, q2, e, hl, _, hR, _⟩ := h.is
  unfold Df.tab at e
  injection e with e
  subst e
  refine ⟨t1, q1, ?_⟩
  rw [Array.getElem?_append_right (by rw [Bs.arr_size]; omega), Bs.arr_size, ← hR.1, hl]
  rfl
structure Sc.XW (w0 : World) (b xb : Nat) (D : Array Value) (g : Nat → Nat) (N : List (List Int)) (R : List Int) (x : Sc.Lx) (u : World) : Prop where
  aw : Df.AW w0 b D g N R u
  m1 : Sc.LB u xb x
theorem Sc.XW.up {w0 : World} {b xb : Nat} {D : Array Value} {g : Nat → Nat} {N : List (List Int)} {R : List Int} {x : Sc.Lx} {u u' : World} (h : Sc.XW w0 b xb D g N R x u) (hb : Below u.heap.size u u') : Sc.XW w0 b xb D g N R x u' := ⟨h.aw.up hb, h.m1.up hb⟩
def Sc.relX (x : Sc.Lx) (D : Array Value) (s : ByteArray) (a : Int) : List (Value → World → Prop) :=
  [fun v _ => v = .int .i64 0, fun v _ => v = .bool true, fun v _ => v = .bool true, fun v _ => v = .agg #[.int .i64 x.rule, .int .i64 x.at', .int .i64 x.upto, .int .i64 x.seen], fun v _ => v = .agg D, fun v _ => v = .string s, fun v _ => v = .int .i64 a, fun v _ => v = .agg #[.int .i64 x.rule, .int .i64 x.at', .int .i64 x.upto, .int .i64 x.seen], fun v _ => v = .bool true, fun v _ => v = .bool true]
theorem Sc.relX_up (x : Sc.Lx) (D : Array Value) (s : ByteArray) (a : Int) : Rg.Ups (Sc.relX x D s a) := by
  refine ⟨?_, ?_, ?_, ?_, ?_, ?_, ?_, ?_, ?_, ?_, trivial⟩ <;> exact fun v w w' h _ => h
set_option maxRecDepth 100000 in
set_option maxHeartbeats 4000000 in
theorem scanNextLaw_any (g : Nat → Nat) (N : List (List Int)) (R : List Int) (v : Value) (s : ByteArray) (at' : Int) (w : World) (h : Df.Tv w v g N R) (hs : s.size ≤ maxLen) : Calls Try.prog 4 #[v, .string s, .int .i64 at'] w (Bs.BPost w true) := by
  obtain ⟨D, rfl, hsz, _⟩ := h.cells
  obtain ⟨a1, c1, h256⟩ := h.cell6
  have HINF := Lib.hid (show (Try.prog.info? 40).map (·.size) = some D.size by rw [hsz]; exact Df.zero258.2)
  have HA := Lib.hid (Df.aw_new h)
  clear h hsz
  go_enter Try.func4, Try.ntmps4
  go_upto_region 1 with fail
  generalize w.alloc (.cells D 40) = W at *
  have AL := Lib.hid (alive9_any W)
  go_wp2_with fail
  refine AL.out.mono ?_
  rintro e w1 ⟨rfl, hb⟩
  replace HA := Lib.hid (HA.out.up hb)
  clear hb AL
  have x256 := HA.out.cell h256
  obtain ⟨n1, hn1⟩ : ∃ n, N.length = n := ⟨_, rfl⟩
  rw [hn1] at x256
  by_cases h6 : 600 < n1
  · have d1 : decide ((n1 : Int) > 600) = true := decide_eq_true (by omega)
    have d2 : decide (600 < n1) = true := decide_eq_true h6
    have d3 : decide ((600 : Int) < (n1 : Int)) = true := decide_eq_true (by omega)
    go_wp2_with fail
    go_ret
    exact ⟨rfl, HA.out.bel⟩
  have d1 : decide ((n1 : Int) > 600) = false := decide_eq_false (by omega)
  have d2 : decide (600 < n1) = false := decide_eq_false h6
  have d3 : decide ((600 : Int) < (n1 : Int)) = false := decide_eq_false (by omega)
  by_cases h60 : 60 < s.size
  · have d4 : decide ((s.size : Int) > 60) = true := decide_eq_true (by omega)
    have d5 : decide (60 < s.size) = true := decide_eq_true h60
    have d6 : decide ((60 : Int) < (s.size : Int)) = true := decide_eq_true (by omega)
    go_wp2_with fail
    go_ret
    exact ⟨rfl, HA.out.bel⟩
  have d4 : decide ((s.size : Int) > 60) = false := decide_eq_false (by omega)
  have d5 : decide (60 < s.size) = false := decide_eq_false h60
  have d6 : decide ((60 : Int) < (s.size : Int)) = false := decide_eq_false (by omega)
  have hsm : s.size < maxLen := by unfold maxLen; omega
  have HSM := Lib.hid hsm
  have C := Lib.hid (nextT_any g N R (.agg D) s at' w1 HA.out.tv hsm)
  clear hsm
  go_wp2_with (first
    | (refine wpList_load_row rfl 40 _ rfl w.heap.size rfl 40 D (0, 0) _ HA.out.row Try.underlying40 rfl HINF.out ?_))
  refine C.out.mono ?_
  rintro e w2 ⟨rfl, hb⟩
  obtain ⟨x, hx⟩ : ∃ x, (Sc.nxv g N R s at').1 = x := ⟨_, rfl⟩
  obtain ⟨er, her⟩ : ∃ e, (Sc.nxv g N R s at').2 = e := ⟨_, rfl⟩
  rw [hx, her]
  have HX := Lib.hid hx
  have HER := Lib.hid her
  have bx := Bs.below1 w2 (.cells (Sc.val x) 47)
  have HL := Lib.hid (Sc.lb_new w2 x)
  replace HA := Lib.hid ((HA.out.up hb).up bx)
  unfold Sc.val at HL HA ⊢
  clear hb C d1 d2 d3 d4 d5 d6 x256 h6 bx hx her
  go_upto_region 6 with fail
  generalize w2.alloc (.cells #[.int .i64 x.rule, .int .i64 x.at', .int .i64 x.upto, .int .i64 x.seen] 47) = W2 at *
  generalize w2.heap.size = xb at *
  have C := Lib.hid (refRightT_any g N R _ W2 HA.out.tv)
  go_wp2_with (first
    | (refine wpList_load_row rfl 40 _ rfl w.heap.size rfl 40 D (0, 0) _ HA.out.row Try.underlying40 rfl HINF.out ?_))
  refine C.out.mono ?_
  rintro e w3 ⟨rfl, hb⟩
  replace HA := Lib.hid (HA.out.up hb)
  replace HL := Lib.hid (HL.out.up hb)
  clear hb C
  obtain ⟨bb, hbb⟩ : ∃ bb, Df.rt g N R = bb := ⟨_, rfl⟩
  have HBB := Lib.hid hbb
  rw [hbb]
  clear hbb
  cases bb
  · have e1 := HX.out
    have e2 := HER.out
    rw [Sc.nxv_no HBB.out] at e1 e2
    subst e1
    subst e2
    obtain ⟨m0, m1, m2, m3⟩ := HL.out.cells
    simp only at m0 m1 m2 m3
    go_wp2_with fail
    go_ret
    exact ⟨rfl, HA.out.bel⟩
  by_cases hat : 0 ≤ at' ∧ at' ≤ s.size
  case neg =>
    have e1 := HX.out
    have e2 := HER.out
    rw [Sc.nxv_far HBB.out hat] at e1 e2
    subst e1
    subst e2
    obtain ⟨m0, m1, m2, m3⟩ := HL.out.cells
    simp only at m0 m1 m2 m3
    by_cases h0 : at' < 0
    · have d1 : decide (at' < 0) = true := decide_eq_true h0
      go_wp2_with fail
      go_ret
      exact ⟨rfl, HA.out.bel⟩
    · have d1 : decide (at' < 0) = false := decide_eq_false h0
      have d2 : decide (at' > (s.size : Int)) = true := decide_eq_true (by omega)
      have d3 : decide ((s.size : Int) < at') = true := decide_eq_true (by omega)
      go_wp2_with fail
      go_ret
      exact ⟨rfl, HA.out.bel⟩
  case pos =>
    obtain ⟨a, rfl⟩ := Int.eq_ofNat_of_zero_le hat.1
    have haN : a ≤ s.size := by omega
    have e1 := HX.out
    have e2 := HER.out
    rw [Sc.nxv_yes HBB.out haN] at e1 e2
    simp only at e1 e2
    subst e2
    have HPX := Lib.hid e1
    clear e1 HX HER
    have d1 : decide ((a : Int) < 0) = false := decide_eq_false (by omega)
    have d2 : decide ((a : Int) > (s.size : Int)) = false := decide_eq_false (by omega)
    have d3 : decide ((s.size : Int) < (a : Int)) = false := decide_eq_false (by omega)
    have d4 : decide (s.size < a) = false := decide_eq_false (by omega)
    have HW := Lib.hid (show Sc.XW w w.heap.size xb D g N R x w3 from ⟨HA.out, HL.out⟩)
    clear HA HL hat
    go_upto_region 10 with fail
    clear d1 d2 d3 d4
    refine Rg.regionU (by kernel_rfl) 62 (by kernel_rfl) (by kernel_rfl) (by decide) (by exact Nat.le_refl 62) (Rg.rel (Sc.relX x D s a)) (Sc.XW w w.heap.size xb D g N R x) (fun w w' => Below w.heap.size w w') (fun i v w w' h _ hb => Rg.rel_up (Sc.relX_up _ _ _ _) h hb) (HW.out.up (Below.refl _ _).drew) (Rg.guards [(2, true)] (by kernel_rfl) (fun p hp v w h => by rw [List.mem_singleton.1 hp] at h ⊢; exact h)) ⟨?_, ?_, ?_, ?_, ?_, ?_, ?_, ?_, ?_, ?_, trivial⟩ ?_
    · intro fv u hw hd
      have HW := Lib.hid hw
      clear hw hd
      simp only [Rg.step, Rg.all, Act.put, List.setIfInBounds_toArray, List.set_cons_zero, List.set_cons_succ]
      go_simp
      first | exact ⟨rfl, HW.out, Below.refl _ _⟩ | exact ⟨HW.out, Below.refl _ _⟩
    · intro fv u hw hd
      have e0 : fv 0 = .int .i64 0 := hd _ (List.mem_cons_self ..)
      have HW := Lib.hid hw
      clear hw hd
      simp only [Rg.step, Rg.all, Act.put, List.setIfInBounds_toArray, List.set_cons_zero, List.set_cons_succ]
      go_simp
      first | exact ⟨rfl, HW.out, Below.refl _ _⟩ | exact ⟨HW.out, Below.refl _ _⟩
    · intro fv u hw hd
      have e1 : fv 1 = .bool true := hd _ (List.mem_cons_self ..)
      have HW := Lib.hid hw
      clear hw hd
      simp only [Rg.step, Rg.all, Act.put, List.setIfInBounds_toArray, List.set_cons_zero, List.set_cons_succ]
      go_simp
      first | exact ⟨rfl, HW.out, Below.refl _ _⟩ | exact ⟨HW.out, Below.refl _ _⟩
    · intro fv u hw hd
      have m0 := hw.m1.cells.1
      have m1 := hw.m1.cells.2.1
      have m2 := hw.m1.cells.2.2.1
      have m3 := hw.m1.cells.2.2.2
      have HW := Lib.hid hw
      clear hw hd
      simp only [Rg.step, Rg.all, Act.put, List.setIfInBounds_toArray, List.set_cons_zero, List.set_cons_succ]
      go_simp
      first | exact ⟨rfl, HW.out, Below.refl _ _⟩ | exact ⟨HW.out, Below.refl _ _⟩
    · intro fv u hw hd
      have HU := Lib.hid hw
      clear hw hd
      simp only [Rg.all, Act.put, List.setIfInBounds_toArray, List.set_cons_zero, List.set_cons_succ]
      exact Df.step_load 40 (.tmp 3) rfl w.heap.size rfl 40 D (0, 0) _ HU.out.aw.row Try.underlying40 rfl HINF.out ⟨rfl, HU.out, Below.refl _ _⟩
    · intro fv u hw hd
      have HW := Lib.hid hw
      clear hw hd
      simp only [Rg.step, Rg.all, Act.put, List.setIfInBounds_toArray, List.set_cons_zero, List.set_cons_succ]
      go_simp
      first | exact ⟨rfl, HW.out, Below.refl _ _⟩ | exact ⟨HW.out, Below.refl _ _⟩
    · intro fv u hw hd
      have HW := Lib.hid hw
      clear hw hd
      simp only [Rg.step, Rg.all, Act.put, List.setIfInBounds_toArray, List.set_cons_zero, List.set_cons_succ]
      go_simp
      first | exact ⟨rfl, HW.out, Below.refl _ _⟩ | exact ⟨HW.out, Below.refl _ _⟩
    · intro fv u hw hd
      have e4 : fv 4 = .agg D := hd _ (List.mem_cons_self ..)
      have e5 : fv 5 = .string s := hd _ (List.mem_cons_of_mem _ (List.mem_cons_self ..))
      have e6 : fv 6 = .int .i64 a := hd _ (List.mem_cons_of_mem _ (List.mem_cons_of_mem _ (List.mem_cons_self ..)))
      have C := Lib.hid (refNextT_any g N R (.agg D) s a u hw.aw.tv HBB.out HSM.out haN)
      rw [HPX.out] at C
      unfold Sc.val at C
      have HW := Lib.hid hw
      clear hw hd
      simp only [Rg.step, Rg.all, Act.put, List.setIfInBounds_toArray, List.set_cons_zero, List.set_cons_succ]
      go_simp
      refine C.out.mono ?_
      rintro e u1 ⟨rfl, hb⟩
      exact ⟨_, rfl, rfl, HW.out.up hb, hb⟩
    · intro fv u hw hd
      have e3 : fv 3 = .agg #[.int .i64 x.rule, .int .i64 x.at', .int .i64 x.upto, .int .i64 x.seen] := hd _ (List.mem_cons_self ..)
      have e7 : fv 7 = .agg #[.int .i64 x.rule, .int .i64 x.at', .int .i64 x.upto, .int .i64 x.seen] := hd _ (List.mem_cons_of_mem _ (List.mem_cons_self ..))
      have HW := Lib.hid hw
      clear hw hd
      simp only [Rg.step, Rg.all, Act.put, List.setIfInBounds_toArray, List.set_cons_zero, List.set_cons_succ]
      go_simp
      first | exact ⟨rfl, HW.out, Below.refl _ _⟩ | exact ⟨HW.out, Below.refl _ _⟩
    · intro fv u hw hd
      have e2 : fv 2 = .bool true := hd _ (List.mem_cons_self ..)
      have e8 : fv 8 = .bool true := hd _ (List.mem_cons_of_mem _ (List.mem_cons_self ..))
      have HW := Lib.hid hw
      clear hw hd
      simp only [Rg.step, Rg.all, Act.put, List.setIfInBounds_toArray, List.set_cons_zero, List.set_cons_succ]
      go_simp
      first | exact ⟨rfl, HW.out, Below.refl _ _⟩ | exact ⟨HW.out, Below.refl _ _⟩
    · intro fv u hw hR o ho
      have r9 : fv 9 = .bool true := hR 9 (by decide)
      simp at ho
      subst ho
      simp only [Rg.step, Rg.all, Act.put, List.setIfInBounds_toArray, List.set_cons_zero, List.set_cons_succ]
      have HB9 := Lib.hid hw.aw.bel
      clear hw hR
      go_simp
      go_wp2_with fail
      go_ret
      exact ⟨rfl, HB9.out⟩
end Go.Proofs.Ythapedadnbkgnaa
namespace Go.Proofs.Ythapedadnbkgnaa
set_option linter.unusedVariables false
set_option linter.unusedSimpArgs false
open Go.ChangeShapes Go.WideShapes Go.Deep Go.RowKit
theorem Rx.add_zero (a : Addr) : a.add 0 = a := by unfold Addr.add; rw [if_pos rfl]
end Go.Proofs.Ythapedadnbkgnaa
namespace Go.Proofs.Ythapedadnbkgnaa
set_option linter.unusedVariables false
set_option linter.unusedSimpArgs false
open Go.ChangeShapes Go.WideShapes Go.Deep Go.RowKit
theorem Nf.ints_cells : Try.prog.cellsOf 38 = 1 := by kernel_rfl
end Go.Proofs.Ythapedadnbkgnaa
namespace Go.Proofs.Ythapedadnbkgnaa
set_option linter.unusedVariables false
set_option linter.unusedSimpArgs false
open Go.ChangeShapes Go.WideShapes Go.Deep Go.RowKit
theorem Df.byte_nat {x : Int} (h : (Lit.int .u8 x).wf = true) : ∃ n : Nat, x = n ∧ n < 256 := by
  simp [Lit.wf, IntKind.min, IntKind.max, IntKind.signed, IntKind.bits] at h
  exact ⟨x.toNat, by omega, by omega⟩
set_option maxRecDepth 100000 in
theorem Df.row_open {H : Type} {enc : TypeId × Value → H} {W : World} {base : Nat} {spare : Nat → Bool} {held : Bool} {fuel : Nat} {v : Value} {x : DataW H × List MemPlace}
    (h : DataW.trod enc Try.prog W base spare held fuel 38 [v] = some x) : ∃ l : List Int, Nf.Row W (fun _ => True) v l ∧ l.length ≤ maxLen := by
  rcases open_ints Try.underlying38 Try.underlying3 (by kernel_rfl) h with ⟨hcs, _⟩ | ⟨a, l, c, zs, hcs, _, hl, hm, hz, _, hcell, hwz⟩
  · simp at hcs
    subst hcs
    exact ⟨[], ⟨none, 0, rfl, Nat.le_refl _, fun _ => rfl, fun i hi => by simp at hi, fun x e => by simp at e⟩, by unfold maxLen; simp⟩
  · simp at hcs
    subst hcs
    have hz' : l ≤ zs.length := by
      have h0 := hz
      split at h0 <;> omega
    have hlz : (zs.take l).length = l := by rw [List.length_take]; omega
    refine ⟨zs.take l, ⟨some a, c, by rw [hlz], by rw [hlz]; exact hl, fun e => by simp at e, fun i hi => ?_, fun x e _ => trivial⟩, by rw [hlz]; exact Nat.le_trans hl hm⟩
    rw [hlz] at hi
    refine ⟨a, rfl, ?_⟩
    have h1 := hcell i (by omega)
    rw [List.getD_eq_getElem?_getD, List.getElem?_eq_getElem (by omega)] at h1
    rw [List.getElem_take]
    exact h1
theorem Df.rows_cells : Try.prog.cellsOf 37 = 1 := by kernel_rfl
theorem Df.dfa_cells : Try.prog.cellsOf 40 = 258 := by kernel_rfl
theorem Df.cls_cells : Try.prog.cellsOf 36 = 256 := by kernel_rfl
theorem Df.byte_cells : Try.prog.cellsOf 5 = 1 := by kernel_rfl
set_option maxRecDepth 100000 in
theorem Df.rows_open {H : Type} {enc : TypeId × Value → H} {W : World} {base : Nat} {spare : Nat → Bool} {held : Bool} {fuel : Nat} {v : Value} {x : DataW H × List MemPlace}
    (h : DataW.trod enc Try.prog W base spare held fuel 37 [v] = some x) : ∃ a n c rows N, v = .slice a n c ∧ rows.length = n ∧ n ≤ maxLen ∧ Ng.Sv W a rows ∧ Df.Rws W rows N ∧ ∀ l ∈ N, l.length ≤ maxLen := by
  rcases DataW.trod_slice Try.underlying37 h with ⟨hcs, _⟩ | ⟨b, len, cap, elems, rest, n2, hfu2, hcs, _, _, hl, hm, hlen, hel, _, _⟩
  · simp at hcs
    subst hcs
    exact ⟨none, 0, 0, [], [], rfl, rfl, by unfold maxLen; omega, fun i hi => by simp at hi, ⟨rfl, fun i hi => by simp at hi⟩, fun l hl => by simp at hl⟩
  · simp at hcs
    subst hcs
    have key : ∀ i, ∃ y : Value × List Int, i < len → W.cell? (b.add i) = some y.1 ∧ Nf.Row W (fun _ => True) y.1 y.2 ∧ y.2.length ≤ maxLen := by
      intro i
      by_cases hil : i < len
      · have he := hel i hil
        rw [Nf.ints_cells, List.getElem?_eq_getElem (by omega)] at he
        obtain ⟨cs', hc, ht⟩ := Option.bind_eq_some_iff.1 he
        obtain ⟨_, hcl, hat⟩ := World.cells?_some hc
        match cs', hcl with
        | [v0], _ =>
          have a0 := hat 0 (by decide)
          rw [Rx.add_zero, Nat.mul_one] at a0
          obtain ⟨l, h1, h2⟩ := Df.row_open ht
          exact ⟨(v0, l), fun _ => ⟨a0, h1, h2⟩⟩
      · exact ⟨(.bool false, []), fun h => absurd h hil⟩
    obtain ⟨os, hos⟩ := Classical.skolem.1 key
    refine ⟨some b, len, cap, List.ofFn (fun i : Fin len => (os i).1), List.ofFn (fun i : Fin len => (os i).2), rfl, by simp, Nat.le_trans hl hm, fun i hi => ⟨b, rfl, ?_⟩, ⟨by simp, fun i h1 h2 => ?_⟩, fun l hl => ?_⟩
    · rw [List.getElem_ofFn]
      exact (hos i (by simpa using hi)).1
    · rw [List.getElem_ofFn, List.getElem_ofFn]
      exact (hos i (by simpa using h1)).2.1
    · obtain ⟨i, hi, rfl⟩ := List.getElem_of_mem hl
      rw [List.getElem_ofFn]
      exact (hos i (by simpa using hi)).2.2
set_option maxRecDepth 100000 in
set_option maxHeartbeats 2000000 in
theorem Df.dfa_val {H : Type} {enc : TypeId × Value → H} {W W' : World} {r : Reach} {b0 base : Nat} {spare : Nat → Bool} {held : Bool} {v : Value} {d : DataW H} {ps : List MemPlace}
    (hv : Value.okWide Try.prog W' r b0 40 v) (h : DataW.Trod enc Try.prog W base spare held 40 v d ps) : ∃ g N R, Df.Tv W v g N R := by
  simp only [Value.okWide, Try.underlying40] at hv
  obtain ⟨xs, rfl, hxs, _⟩ := hv
  obtain ⟨fuel, hf⟩ := h
  have e : (Value.agg xs).cells.toList = xs.toList := rfl
  rw [e] at hf
  obtain ⟨ys, n', hfu, _, hcl, hyl, hf2⟩ := DataW.trod_struct Try.underlying40 hf
  rw [Df.dfa_cells] at hcl
  obtain ⟨cs, hcs⟩ : ∃ cs, xs.toList = cs := ⟨_, rfl⟩
  rw [hcs] at hcl hf2
  have hy : ys.length = 3 := hyl
  have g0 := hf2 0 _ rfl
  have g1 := hf2 1 _ rfl
  have g2 := hf2 2 _ rfl
  change DataW.trod enc Try.prog W base spare held n' 36 ((cs.drop 0).take (Try.prog.cellsOf 36)) = _ at g0
  change DataW.trod enc Try.prog W base spare held n' 37 ((cs.drop 256).take (Try.prog.cellsOf 37)) = _ at g1
  change DataW.trod enc Try.prog W base spare held n' 38 ((cs.drop 257).take (Try.prog.cellsOf 38)) = _ at g2
  rw [Df.cls_cells, List.getElem?_eq_getElem (by omega), List.drop_zero] at g0
  rw [Df.rows_cells, List.getElem?_eq_getElem (by omega)] at g1
  rw [Nf.ints_cells, List.getElem?_eq_getElem (by omega)] at g2
  have t1 : (cs.drop 256).take 1 = [cs[256]] := by
    rw [List.drop_eq_getElem_cons (by omega)]
    rfl
  have t2 : (cs.drop 257).take 1 = [cs[257]] := by
    rw [List.drop_eq_getElem_cons (by omega)]
    rfl
  rw [t1] at g1
  rw [t2] at g2
  obtain ⟨a1, m1, c1, rows, N, e1, hl1, hm1, hS, hR, hN⟩ := Df.rows_open g1
  obtain ⟨R, hRr, hRl⟩ := Df.row_open g2
  obtain ⟨zs, m, _, _, _, hzl, hz⟩ := DataW.trod_array Try.underlying36 g0
  have key : ∀ i, ∃ k : Nat, k < 256 ∧ (i < 256 → cs[i]? = some (.int .u8 k)) := by
    intro i
    by_cases hi : i < 256
    · have h1 := hz i hi
      rw [Df.byte_cells, Nat.mul_one, List.getElem?_eq_getElem (by omega)] at h1
      have t3 : ((cs.take 256).drop i).take 1 = [cs[i]] := by
        rw [List.drop_eq_getElem_cons (by rw [List.length_take]; omega), List.getElem_take]
        rfl
      rw [t3] at h1
      obtain ⟨k0, e0, _, w0⟩ := DataW.trod_int Try.underlying5 h1
      obtain ⟨k, rfl, hk⟩ := Df.byte_nat w0
      refine ⟨k, hk, fun _ => ?_⟩
      simp at e0
      rw [List.getElem?_eq_getElem (by omega), e0]
    · exact ⟨0, by omega, fun h => absurd h hi⟩
  obtain ⟨g, hg⟩ := Classical.skolem.1 key
  have hRr' := hRr
  obtain ⟨a2, c2, e2, _⟩ := hRr'
  have hx : xs = Bs.arr g ++ #[.slice a1 m1 c1, .slice a2 R.length c2] := by
    have hxc : ∀ i, xs[i]? = cs[i]? := fun i => by rw [← hcs, Array.getElem?_toList]
    have s0 := Bs.arr_size g
    have h6 : cs[256]? = some (.slice a1 m1 c1) := by rw [List.getElem?_eq_getElem (by omega), e1]
    have h7 : cs[257]? = some (.slice a2 R.length c2) := by rw [List.getElem?_eq_getElem (by omega), e2]
    clear e1 e2 hRr hR hS g0 g1 g2 t1 t2 hf2
    generalize Value.slice a1 m1 c1 = u1 at *
    generalize Value.slice a2 R.length c2 = u2 at *
    apply Array.ext_getElem?
    intro i
    rw [hxc]
    by_cases hi : i < 256
    · rw [(hg i).2 hi, Array.getElem?_append_left (by rw [s0]; exact hi), Bs.arr_at _ _ hi]
    · rw [Array.getElem?_append_right (by rw [s0]; omega), s0]
      by_cases e6 : i = 256
      · subst e6
        rw [h6]
        rfl
      · by_cases e7 : i = 257
        · subst e7
          rw [h7]
          rfl
        · rw [List.getElem?_eq_none (by omega), Array.getElem?_eq_none (by show 2 ≤ i - 256; omega)]
  refine ⟨g, N, R, fun c => (hg c).1, ⟨a1, m1, c1, rows, a2, R.length, c2, ?_, hl1, hS, hR, by rw [← e2]; exact hRr⟩, by rw [← hR.1, hl1]; exact hm1, hRl, hN⟩
  rw [hx]
  rfl
end Go.Proofs.Ythapedadnbkgnaa
