/- The chapter's example of layer 8, walked. What Next answers, walked: the program's. Pairs of numbers as keys of a map; rows of pairs that grow by append. -/
import Derived.Test.YthapedadnbkgnaaG30
import Derived.Maps.OwnSet
import Derived.DeepKeys4
import Derived.WideKeyPair
import Derived.Deep.AppendLies
namespace Go.Proofs.Ythapedadnbkgnaa
set_option linter.unusedVariables false
set_option linter.unusedSimpArgs false
open Go.RowKit
structure Df.AW (w0 : World) (b : Nat) (D : Array Value) (g : Nat → Nat) (N : List (List Int)) (R : List Int) (u : World) : Prop where
  row : u.heap[b]? = some (.cells D 40)
  tv : Df.Tv u (.agg D) g N R
  bel : Below w0.heap.size w0 u
theorem Df.AW.up {w0 : World} {b : Nat} {D : Array Value} {g : Nat → Nat} {N : List (List Int)} {R : List Int} {u u' : World} (h : Df.AW w0 b D g N R u) (hb : Below u.heap.size u u') : Df.AW w0 b D g N R u' :=
  ⟨by rw [hb.block _ (Array.getElem?_eq_some_iff.1 h.row).1]; exact h.row, h.tv.up hb, Bs.below_up h.bel hb⟩
def Df.relA (D : Array Value) (k x : Int) (ok : Bool) : List (Value → World → Prop) :=
  [fun v _ => v = .agg D, fun v _ => v = .agg D, fun v _ => v = .int .i64 k, fun v _ => v = .tuple #[.int .i64 x, .bool ok], fun v _ => v = .tuple #[.int .i64 x, .bool ok], fun v _ => v = .int .i64 x, fun v _ => v = .bool ok, fun v _ => v = .int .i64 x, fun v _ => v = .bool ok]
theorem Df.relA_up (D : Array Value) (k x : Int) (ok : Bool) : Rg.Ups (Df.relA D k x ok) := by
  refine ⟨?_, ?_, ?_, ?_, ?_, ?_, ?_, ?_, ?_, trivial⟩ <;> exact fun v w w' h _ => h
theorem Df.step_load {P : Program} {ρ : Operand → Value} {o : Oper} {w : World} {R : Value → World → Prop} (ty : TypeId) (x : Operand) (ho : o.op = .load ty x)
    (g : Nat) (hx : ρ x = .pointer (some ⟨g, 0, none⟩)) (t : TypeId) (cs : Array Value) (fr : Nat × Nat) (d : TypeDesc) (hg : w.heap[g]? = some (.cells cs t fr))
    (hu : P.underlying ty = some d) (hd : (match d with | .struct _ | .array _ _ => true | _ => false) = true) (hi : (P.info? ty).map (·.size) = some cs.size)
    (h : R (.agg cs) w) : Rg.step P ρ o w R := by
  unfold Rg.step execOp
  simp only [ho, hx, Instr.loadAt, Instr.sureAddr, Sem.run_bind, Sem.run_pure, Result.andThen_ok, run_loadVar_row w g t ty cs fr d hg hu hd hi]
  exact h
theorem Df.run_says {g : Nat → Nat} {N : List (List Int)} {R : List Int} {v : Value} (s : ByteArray) (q : Nat) (hq : s.size = q) (hm : q ≤ 1000) {k : Int} (hk : Df.rnv g N R (Px.by s) q = k) (u : World) (h : Df.Tv u v g N R) : Calls Try.prog 18 #[v, .string s] u fun e w' => e = .returned (.int .i64 k) ∧ Below u.heap.size u w' := by
  have := runT_any g N R v s u h (by unfold maxLen; omega)
  rw [hq, hk] at this
  exact this
theorem Df.rule_says {g : Nat → Nat} {N : List (List Int)} {R : List Int} {v : Value} {k x : Int} {ok : Bool} (hk : Df.rlv g N R k = (x, ok)) (u : World) (h : Df.Tv u v g N R) : Calls Try.prog 17 #[v, .int .i64 k] u fun e w' => e = .returned (.tuple #[.int .i64 x, .bool ok]) ∧ Below u.heap.size u w' := by
  have := ruleT_any g N R v k u h
  rw [hk] at this
  exact this
theorem Df.AW.cell {w0 : World} {b : Nat} {D : Array Value} {g : Nat → Nat} {N : List (List Int)} {R : List Int} {u : World} (h : Df.AW w0 b D g N R u) {i : Nat} {x : Value} (hx : D[i]? = some x) : u.cell? ⟨b, i, none⟩ = some x := by
  have := h.row
  simp [World.cell?, this, hx]
set_option maxRecDepth 100000 in
set_option maxHeartbeats 4000000 in
theorem alive8_any (w : World) : Calls Try.prog 6 #[] w (Bs.BPost w true) := by
  go_enter Try.func6, Try.ntmps6
  have P := Lib.hid (Parse_any ⟨#[97, 42, 98]⟩ (by decide) w)
  go_wp2_with fail
  refine P.out.mono ?_
  rintro e v1 ⟨_, y1, rfl, hy, h1, h2, A⟩
  rw [Ng.ex_code1] at h1 h2 ⊢
  obtain ⟨k1, f1, a1, n1, c1, rfl⟩ := hy.form
  clear P h2
  have B := Bs.below1 v1 (.cells #[.int .u8 k1, .int .u64 (Bs.word f1 0), .int .u64 (Bs.word f1 1), .int .u64 (Bs.word f1 2), .int .u64 (Bs.word f1 3), .slice a1 n1 c1] 28)
  replace A := Bs.below_up A B
  have N1 := Rx.nod_new v1 k1 f1 a1 n1 c1
  have X1 := hy.is.up B
  have hh := h1 rfl
  have hab := Df.ex_ab
  rw [hh.1] at hab
  have H1 := Lib.hid hab
  have M1 := Lib.hid hh.2
  clear B hy h1 hh hab
  unfold Rx.hdr
  go_wp2_with fail
  generalize v1.alloc (.cells #[.int .u8 k1, .int .u64 (Bs.word f1 0), .int .u64 (Bs.word f1 1), .int .u64 (Bs.word f1 2), .int .u64 (Bs.word f1 3), .slice a1 n1 c1] 28) = W1 at *
  generalize v1.heap.size = b1 at *
  have P := Lib.hid (Parse_any ⟨#[97]⟩ (by decide) W1)
  refine P.out.mono ?_
  rintro e v2 ⟨_, y2, rfl, hy, h1, h2, hb⟩
  rw [Ng.ex_code2] at h1 h2 ⊢
  obtain ⟨k2, f2, a2, n2, c2, rfl⟩ := hy.form
  clear P h2
  replace A := Bs.below_up A hb
  replace N1 := N1.up hb
  replace X1 := X1.up hb
  clear hb
  have B := Bs.below1 v2 (.cells #[.int .u8 k2, .int .u64 (Bs.word f2 0), .int .u64 (Bs.word f2 1), .int .u64 (Bs.word f2 2), .int .u64 (Bs.word f2 3), .slice a2 n2 c2] 28)
  replace A := Bs.below_up A B
  replace N1 := N1.up B
  replace X1 := X1.up B
  have N2 := Rx.nod_new v2 k2 f2 a2 n2 c2
  have X2 := hy.is.up B
  have hh := h1 rfl
  have hab := Df.ex_a
  rw [hh.1] at hab
  have H2 := Lib.hid hab
  have M2 := Lib.hid hh.2
  clear B hy h1 hh hab
  have EX := Lib.hid (Df.ex H1.out H2.out)
  have HCO := Lib.hid (show Ng.code [y1, y2] = 0 by
    have hs := Ng.ex_size (Df.ab_of H1.out) (Df.a_of H2.out)
    have m1 := M1.out
    have m2 := M2.out
    simp [Ng.code, hs, m1, m2])
  have c0 := N1.cell.c0; have c1' := N1.cell.c1; have c2' := N1.cell.c2; have c3 := N1.cell.c3; have c4 := N1.cell.c4; have c5 := N1.cell.c5
  have d0 := N2.cell.c0; have d1 := N2.cell.c1; have d2 := N2.cell.c2; have d3 := N2.cell.c3; have d4 := N2.cell.c4; have d5 := N2.cell.c5
  simp only [Nat.zero_add] at c0 c1' c2' c3 c4 c5 d0 d1 d2 d3 d4 d5
  have HX1 := Lib.hid X1
  have HX2 := Lib.hid X2
  have HA := Lib.hid A
  clear N1 N2 X1 X2 A
  unfold Rx.hdr
  go_upto_region 3 with fail
  generalize v2.alloc (.cells #[.int .u8 k2, .int .u64 (Bs.word f2 0), .int .u64 (Bs.word f2 1), .int .u64 (Bs.word f2 2), .int .u64 (Bs.word f2 3), .slice a2 n2 c2] 28) = W2 at *
  generalize v2.heap.size = b2 at *
  have IL := Ng.two_in HX1.out HX2.out
  have B3 := Bs.below1 W2 (.cells #[.int .u8 k1, .int .u64 (Bs.word f1 0), .int .u64 (Bs.word f1 1), .int .u64 (Bs.word f1 2), .int .u64 (Bs.word f1 3), .slice a1 n1 c1, .int .u8 k2, .int .u64 (Bs.word f2 0), .int .u64 (Bs.word f2 1), .int .u64 (Bs.word f2 2), .int .u64 (Bs.word f2 3), .slice a2 n2 c2] 28)
  have C := Lib.hid (build_any [y1, y2] (by simp) (some ⟨W2.heap.size, 0, none⟩) 2 _ IL)
  have HA3 := Lib.hid (Bs.below_up HA.out B3)
  clear IL B3
  go_wp2_with fail
  refine C.out.mono ?_
  rintro e w3 hpo
  obtain ⟨r, rfl, MC, b3⟩ := Ng.build_yes hpo HCO.out
  have HMC := Lib.hid MC
  have HA4 := Lib.hid (Bs.below_up HA3.out b3)
  clear C MC hpo b3 c0 c1' c2' c3 c4 c5 d0 d1 d2 d3 d4 d5 HX1 HX2 HA HA3
  have C1 := Lib.hid (buildD_any w3 _ r _ HMC.out)
  go_wp2_with fail
  refine C1.out.mono ?_
  rintro e w5 hpo
  rcases hpo with ⟨v, F, nx, p, st, S, rfl, tv, bel, pl⟩ | ⟨_, _, n, _, h5⟩
  rotate_left
  · have := EX.out.few n
    omega
  have h4 := pl.four EX.out
  have hcl := tv.cl
  obtain ⟨t1, m1, q1, rows, t2, m2, q2, rfl, hm1, hsv⟩ := tv.is
  have hm4 : m1 = 4 := by
    rw [← hm1, hsv.2.1.1]
    simp [Df.tN, h4]
  subst hm4
  unfold Df.tab at tv ⊢
  have hsz : (Bs.arr (Df.kg [y1, y2]) ++ #[Value.slice t1 4 q1, Value.slice t2 m2 q2]).size = 258 := by rw [Array.size_append, Bs.arr_size]; rfl
  have hone : (Bs.arr (Df.kg [y1, y2]) ++ #[Value.slice t1 4 q1, Value.slice t2 m2 q2]).all (·.oneCell') = true := by rw [Array.all_append, Bs.arr_one]; simp [Value.oneCell']
  have hat : (Bs.arr (Df.kg [y1, y2]) ++ #[Value.slice t1 4 q1, Value.slice t2 m2 q2])[256]? = some (.slice t1 4 q1) := by
    rw [Array.getElem?_append_right (by rw [Bs.arr_size]; omega), Bs.arr_size]; rfl
  clear hsv hcl hm1
  generalize Bs.arr (Df.kg [y1, y2]) ++ #[Value.slice t1 4 q1, Value.slice t2 m2 q2] = D at *
  have HDI := Lib.hid (show (Try.prog.info? 40).map (·.size) = some D.size by rw [hsz]; exact Df.zero258.2)
  have HDO := Lib.hid hone
  have HDS := Lib.hid hsz
  have HDA := Lib.hid hat
  have HPL := Lib.hid pl
  have HZ := Lib.hid (heap_alloc_new w5 (.cells Df.zT 40))
  have HB5 := Lib.hid (Bs.below_up HA4.out bel)
  have HRW := Lib.hid (show Df.AW w w5.heap.size D (Df.kg [y1, y2]) (Df.tN p nx S) (Df.tR (Df.rl F) S) ((w5.alloc (.cells Df.zT 40)).setRow w5.heap.size D) from by
    have hb := Df.below_row (Bs.below1 w5 (.cells Df.zT 40)) (Nat.le_refl _) D
    exact ⟨setRow_heap _ _ _ _ _ _ HZ.out, tv.up hb, Bs.below_up HB5.out hb⟩)
  have zz := Df.zero258.1
  clear C1 hsz hone hat pl tv bel h4 HMC HA4 HB5
  go_upto_region 7 with (first
    | (refine wpList_store_row rfl 40 _ _ rfl w5.heap.size D rfl rfl 40 Df.zT HZ.out HDI.out (by rw [Df.zT_size, HDS.out]) HDO.out ?_))
  clear zz HZ
  generalize (w5.alloc (.cells Df.zT 40)).setRow w5.heap.size D = W5 at *
  generalize w5.heap.size = b7 at *
  have hs1 := HPL.out.says (Df.by_lt ⟨#[97, 97, 98]⟩) 3 (k := 0) (by rw [EX.out.aab]; decide) (by decide)
  have hs2 := HPL.out.says (Df.by_lt ⟨#[97]⟩) 1 (k := 1) (by rw [EX.out.a]; decide) (by decide)
  have hs3 := HPL.out.none' (Df.by_lt ⟨#[98, 97]⟩) (q := 2) (by decide) EX.out.ba
  obtain ⟨K1, hK1⟩ : ∃ K, Df.rnv (Df.kg [y1, y2]) (Df.tN p nx S) (Df.tR (Df.rl F) S) (Px.by ⟨#[97, 97, 98]⟩) 3 = K := ⟨_, rfl⟩
  obtain ⟨K2, hK2⟩ : ∃ K, Df.rnv (Df.kg [y1, y2]) (Df.tN p nx S) (Df.tR (Df.rl F) S) (Px.by ⟨#[97]⟩) 1 = K := ⟨_, rfl⟩
  rw [hK1] at hs1
  rw [hK2] at hs2
  have HC1 := Lib.hid (fun u h => Df.run_says (v := .agg D) ⟨#[97, 97, 98]⟩ 3 rfl (by decide) hK1 u h)
  have HC2 := Lib.hid (fun u h => Df.run_says (v := .agg D) ⟨#[97]⟩ 1 rfl (by decide) hK2 u h)
  have HC3 := Lib.hid (fun u h => Df.run_says (v := .agg D) ⟨#[98, 97]⟩ 2 rfl (by decide) hs3 u h)
  have HD1 := Lib.hid (fun u h => Df.rule_says (v := .agg D) hs1 u h)
  have HD2 := Lib.hid (fun u h => Df.rule_says (v := .agg D) hs2 u h)
  clear hs1 hs2 hs3 hK1 hK2 HPL EX HCO H1 H2 M1 M2
  refine Rg.regionW (by kernel_rfl) (by kernel_rfl) (Rg.rel (Df.relA D K1 0 true)) (Df.AW w b7 D (Df.kg [y1, y2]) (Df.tN p nx S) (Df.tR (Df.rl F) S)) (fun w w' => Below w.heap.size w w') (fun i v w w' h _ hb => Rg.rel_up (Df.relA_up _ _ _ _) h hb) (HRW.out.up (Below.refl _ _).drew) ⟨?_, ?_, ?_, ?_, ?_, ?_, ?_, ?_, ?_, trivial⟩ ?_
  · intro f' u hw hd
    have HU := Lib.hid hw
    clear hw hd
    simp only [Rg.all, Act.put, List.setIfInBounds_toArray, List.set_cons_zero, List.set_cons_succ]
    exact Df.step_load 40 (.tmp 7) rfl b7 rfl 40 D (0, 0) _ HU.out.row Try.underlying40 rfl HDI.out ⟨rfl, HU.out, Below.refl _ _⟩
  · intro f' u hw hd
    have HU := Lib.hid hw
    clear hw hd
    simp only [Rg.all, Act.put, List.setIfInBounds_toArray, List.set_cons_zero, List.set_cons_succ]
    exact Df.step_load 40 (.tmp 7) rfl b7 rfl 40 D (0, 0) _ HU.out.row Try.underlying40 rfl HDI.out ⟨rfl, HU.out, Below.refl _ _⟩
  · intro f' u hw hd
    have r1 : f' 1 = .agg D := hd _ (List.mem_cons_self ..) rfl
    have C := Lib.hid (HC1.out u hw.tv)
    have HU := Lib.hid hw
    clear hw hd
    simp only [Rg.step, Rg.all, Act.put, List.setIfInBounds_toArray, List.set_cons_zero, List.set_cons_succ]
    go_simp
    refine C.out.mono ?_
    rintro e u1 ⟨rfl, b3⟩
    exact ⟨_, rfl, rfl, HU.out.up b3, b3⟩
  · intro f' u hw hd
    have r0 : f' 0 = .agg D := hd _ (List.mem_cons_self ..) rfl
    have r2 : f' 2 = .int .i64 K1 := hd _ (List.mem_cons_of_mem _ (List.mem_cons_self ..)) rfl
    have C := Lib.hid (HD1.out u hw.tv)
    have HU := Lib.hid hw
    clear hw hd
    simp only [Rg.step, Rg.all, Act.put, List.setIfInBounds_toArray, List.set_cons_zero, List.set_cons_succ]
    go_simp
    refine C.out.mono ?_
    rintro e u1 ⟨rfl, b3⟩
    exact ⟨_, rfl, rfl, HU.out.up b3, b3⟩
  · intro f' u hw hd
    have r := (show f' 3 = .tuple #[.int .i64 0, .bool true] from hd _ (List.mem_cons_self ..) rfl)
    have HU := Lib.hid hw
    clear hw hd
    simp only [Rg.step, Rg.all, Act.put, List.setIfInBounds_toArray, List.set_cons_zero, List.set_cons_succ]
    go_simp
    exact ⟨rfl, HU.out, Below.refl _ _⟩
  · intro f' u hw hd
    have r := (show f' 4 = .tuple #[.int .i64 0, .bool true] from hd _ (List.mem_cons_self ..) rfl)
    have HU := Lib.hid hw
    clear hw hd
    simp only [Rg.step, Rg.all, Act.put, List.setIfInBounds_toArray, List.set_cons_zero, List.set_cons_succ]
    go_simp
    exact ⟨rfl, HU.out, Below.refl _ _⟩
  · intro f' u hw hd
    have r := (show f' 4 = .tuple #[.int .i64 0, .bool true] from hd _ (List.mem_cons_self ..) rfl)
    have HU := Lib.hid hw
    clear hw hd
    simp only [Rg.step, Rg.all, Act.put, List.setIfInBounds_toArray, List.set_cons_zero, List.set_cons_succ]
    go_simp
    exact ⟨rfl, HU.out, Below.refl _ _⟩
  · intro f' u hw hd
    have r := (show f' 5 = .int .i64 0 from hd _ (List.mem_cons_self ..) rfl)
    have HU := Lib.hid hw
    clear hw hd
    simp only [Rg.step, Rg.all, Act.put, List.setIfInBounds_toArray, List.set_cons_zero, List.set_cons_succ]
    go_simp
    exact ⟨rfl, HU.out, Below.refl _ _⟩
  · intro f' u hw hd
    have r := (show f' 6 = .bool true from hd _ (List.mem_cons_self ..) rfl)
    have HU := Lib.hid hw
    clear hw hd
    simp only [Rg.step, Rg.all, Act.put, List.setIfInBounds_toArray, List.set_cons_zero, List.set_cons_succ]
    go_simp
    exact ⟨rfl, HU.out, Below.refl _ _⟩
  intro f' u hw hR
  have r7 : f' 7 = .int .i64 0 := hR 7 (by decide)
  have r8 : f' 8 = .bool true := hR 8 (by decide)
  replace HRW := Lib.hid hw
  clear hw hR
  simp only [Rg.all, Act.put, List.setIfInBounds_toArray, List.set_cons_zero, List.set_cons_succ, r7, r8]
  clear r7 r8
  go_upto_region 8 with fail
  refine Rg.regionW (by kernel_rfl) (by kernel_rfl) (Rg.rel (Df.relA D K2 1 true)) (Df.AW w b7 D (Df.kg [y1, y2]) (Df.tN p nx S) (Df.tR (Df.rl F) S)) (fun w w' => Below w.heap.size w w') (fun i v w w' h _ hb => Rg.rel_up (Df.relA_up _ _ _ _) h hb) (HRW.out.up (Below.refl _ _).drew) ⟨?_, ?_, ?_, ?_, ?_, ?_, ?_, ?_, ?_, trivial⟩ ?_
  · intro f' u hw hd
    have HU := Lib.hid hw
    clear hw hd
    simp only [Rg.all, Act.put, List.setIfInBounds_toArray, List.set_cons_zero, List.set_cons_succ]
    exact Df.step_load 40 (.tmp 7) rfl b7 rfl 40 D (0, 0) _ HU.out.row Try.underlying40 rfl HDI.out ⟨rfl, HU.out, Below.refl _ _⟩
  · intro f' u hw hd
    have HU := Lib.hid hw
    clear hw hd
    simp only [Rg.all, Act.put, List.setIfInBounds_toArray, List.set_cons_zero, List.set_cons_succ]
    exact Df.step_load 40 (.tmp 7) rfl b7 rfl 40 D (0, 0) _ HU.out.row Try.underlying40 rfl HDI.out ⟨rfl, HU.out, Below.refl _ _⟩
  · intro f' u hw hd
    have r1 : f' 1 = .agg D := hd _ (List.mem_cons_self ..) rfl
    have C := Lib.hid (HC2.out u hw.tv)
    have HU := Lib.hid hw
    clear hw hd
    simp only [Rg.step, Rg.all, Act.put, List.setIfInBounds_toArray, List.set_cons_zero, List.set_cons_succ]
    go_simp
    refine C.out.mono ?_
    rintro e u1 ⟨rfl, b3⟩
    exact ⟨_, rfl, rfl, HU.out.up b3, b3⟩
  · intro f' u hw hd
    have r0 : f' 0 = .agg D := hd _ (List.mem_cons_self ..) rfl
    have r2 : f' 2 = .int .i64 K2 := hd _ (List.mem_cons_of_mem _ (List.mem_cons_self ..)) rfl
    have C := Lib.hid (HD2.out u hw.tv)
    have HU := Lib.hid hw
    clear hw hd
    simp only [Rg.step, Rg.all, Act.put, List.setIfInBounds_toArray, List.set_cons_zero, List.set_cons_succ]
    go_simp
    refine C.out.mono ?_
    rintro e u1 ⟨rfl, b3⟩
    exact ⟨_, rfl, rfl, HU.out.up b3, b3⟩
  · intro f' u hw hd
    have r := (show f' 3 = .tuple #[.int .i64 1, .bool true] from hd _ (List.mem_cons_self ..) rfl)
    have HU := Lib.hid hw
    clear hw hd
    simp only [Rg.step, Rg.all, Act.put, List.setIfInBounds_toArray, List.set_cons_zero, List.set_cons_succ]
    go_simp
    exact ⟨rfl, HU.out, Below.refl _ _⟩
  · intro f' u hw hd
    have r := (show f' 4 = .tuple #[.int .i64 1, .bool true] from hd _ (List.mem_cons_self ..) rfl)
    have HU := Lib.hid hw
    clear hw hd
    simp only [Rg.step, Rg.all, Act.put, List.setIfInBounds_toArray, List.set_cons_zero, List.set_cons_succ]
    go_simp
    exact ⟨rfl, HU.out, Below.refl _ _⟩
  · intro f' u hw hd
    have r := (show f' 4 = .tuple #[.int .i64 1, .bool true] from hd _ (List.mem_cons_self ..) rfl)
    have HU := Lib.hid hw
    clear hw hd
    simp only [Rg.step, Rg.all, Act.put, List.setIfInBounds_toArray, List.set_cons_zero, List.set_cons_succ]
    go_simp
    exact ⟨rfl, HU.out, Below.refl _ _⟩
  · intro f' u hw hd
    have r := (show f' 5 = .int .i64 1 from hd _ (List.mem_cons_self ..) rfl)
    have HU := Lib.hid hw
    clear hw hd
    simp only [Rg.step, Rg.all, Act.put, List.setIfInBounds_toArray, List.set_cons_zero, List.set_cons_succ]
    go_simp
    exact ⟨rfl, HU.out, Below.refl _ _⟩
  · intro f' u hw hd
    have r := (show f' 6 = .bool true from hd _ (List.mem_cons_self ..) rfl)
    have HU := Lib.hid hw
    clear hw hd
    simp only [Rg.step, Rg.all, Act.put, List.setIfInBounds_toArray, List.set_cons_zero, List.set_cons_succ]
    go_simp
    exact ⟨rfl, HU.out, Below.refl _ _⟩
  intro f'' u2 hw hR
  have r7 : f'' 7 = .int .i64 1 := hR 7 (by decide)
  have r8 : f'' 8 = .bool true := hR 8 (by decide)
  have c256 := hw.cell HDA.out
  have C := Lib.hid (HC3.out u2 hw.tv)
  replace HRW := Lib.hid hw
  clear hw hR
  simp only [Rg.all, Act.put, List.setIfInBounds_toArray, List.set_cons_zero, List.set_cons_succ, r7, r8]
  clear r7 r8
  go_wp2_with fail
  refine wp_load_row 40 (.tmp 7) rfl b7 rfl 40 D (0, 0) _ HRW.out.row Try.underlying40 rfl HDI.out ?_
  go_wp2_with fail
  refine C.out.mono ?_
  rintro e u3 ⟨rfl, b3⟩
  have HBL := Lib.hid (Bs.below_up HRW.out.bel b3)
  clear C b3 c256
  go_wp2_with fail
  go_ret
  exact ⟨rfl, HBL.out⟩
end Go.Proofs.Ythapedadnbkgnaa
namespace Go.Proofs.Ythapedadnbkgnaa
set_option linter.unusedVariables false
set_option linter.unusedSimpArgs false
open Go.RowKit
def Sc.runc (g : Nat → Nat) (v1 v2 : Value) (s : ByteArray) : Array Value := Bs.arr g ++ #[v1, v2] ++ #[.string s]
theorem Sc.rb_new {w : World} {g : Nat → Nat} {N : List (List Int)} {R : List Int} {s : ByteArray} {a1 : Option Addr} {n1 c1 : Nat} {a2 : Option Addr} {n2 c2 : Nat} {rows : List Value} (hS : Ng.Sv w a1 rows) (hR : Df.Rws w rows N) (hRl : Nf.Row w (fun _ => True) (.slice a2 n2 c2) R) (t : TypeId) : Sc.RB (w.alloc (.cells (Sc.runc g (.slice a1 n1 c1) (.slice a2 n2 c2) s) t)) w.heap.size g N R s a1 n1 c1 a2 n2 c2 rows := by
  have hb := Bs.below1 w (.cells (Sc.runc g (.slice a1 n1 c1) (.slice a2 n2 c2) s) t)
  have hc : ∀ i v, (Sc.runc g (.slice a1 n1 c1) (.slice a2 n2 c2) s)[i]? = some v → (w.alloc (.cells (Sc.runc g (.slice a1 n1 c1) (.slice a2 n2 c2) s) t)).cell? ⟨w.heap.size, i, none⟩ = some v := by
    intro i v h
    rw [cell_of_row _ _ _ _ _ _ (heap_alloc_new w _)]
    exact h
  have s0 := Bs.arr_size g
  have s1 : (Bs.arr g ++ #[Value.slice a1 n1 c1, Value.slice a2 n2 c2]).size = 258 := by rw [Array.size_append, s0]; rfl
  refine ⟨⟨fun c hc' => hc _ _ ?_, hc _ _ ?_, hc _ _ ?_⟩, hc _ _ ?_, hS.up hb, hR.up hb, hRl.up hb⟩
  · unfold Sc.runc
    rw [Array.getElem?_append_left (by rw [s1]; omega), Array.getElem?_append_left (by rw [s0]; exact hc'), Bs.arr_at _ _ hc']
  · unfold Sc.runc
    rw [Array.getElem?_append_left (by rw [s1]; omega), Array.getElem?_append_right (by rw [s0]; omega), s0]; rfl
  · unfold Sc.runc
    rw [Array.getElem?_append_left (by rw [s1]; omega), Array.getElem?_append_right (by rw [s0]; omega), s0]; rfl
  · unfold Sc.runc
    rw [Array.getElem?_append_right (by rw [s1]; omega), s1]; rfl
theorem Sc.places : (match Try.prog.info? 90, Try.prog.underlying 90 with | some it, some (.struct fields) => (it.zero, fields.toList.mapM (fun f => (Try.prog.info? f.type).map fun i => (f.offset, i.size))) | _, _ => (none, none)) = (some (.agg (Df.zT ++ #[.string ⟨#[]⟩])), some [(0, 258), (258, 1)]) := by kernel_rfl
theorem Df.Tv.cells {w : World} {v : Value} {g : Nat → Nat} {N : List (List Int)} {R : List Int} (h : Df.Tv w v g N R) : ∃ D, v = .agg D ∧ D.size = 258 ∧ D.all (·.oneCell') = true := by
  obtain ⟨t1, m1, q1, rows, t2, m2, q2, rfl, _, _⟩ := h.is
  refine ⟨_, rfl, ?_, ?_⟩
  · rw [Array.size_append, Bs.arr_size]; rfl
  · rw [Array.all_append, Bs.arr_one]; simp [Value.oneCell']
theorem Df.AW.run {w0 : World} {b : Nat} {D : Array Value} {g : Nat → Nat} {N : List (List Int)} {R : List Int} {u : World} (h : Df.AW w0 b D g N R u) (s : ByteArray) (t : TypeId) : ∃ a1 n1 c1 a2 n2 c2 rows, rows.length = n1 ∧ Sc.RB (u.alloc (.cells (D ++ #[.string s]) t)) u.heap.size g N R s a1 n1 c1 a2 n2 c2 rows ∧ ∀ c, g c < 256 := by
  obtain ⟨t1, m1, q1, rows, t2, m2, q2, e, hl, hS, hR, hRl⟩ := h.tv.is
  unfold Df.tab at e
  injection e with e
  subst e
  exact ⟨t1, m1, q1, t2, m2, q2, rows, hl, Sc.rb_new hS hR hRl t, h.tv.cl⟩
theorem Df.aw_new {w : World} {D : Array Value} {g : Nat → Nat} {N : List (List Int)} {R : List Int} (h : Df.Tv w (.agg D) g N R) : Df.AW w w.heap.size D g N R (w.alloc (.cells D 40)) :=
  ⟨heap_alloc_new w _, h.up (Bs.below1 w _), Bs.below1 w _⟩
end Go.Proofs.Ythapedadnbkgnaa
namespace Go.Proofs.Ythapedadnbkgnaa
set_option linter.unusedVariables false
set_option linter.unusedSimpArgs false
open Go.RowKit
open Go.Maps (Keyed)
set_option maxRecDepth 100000 in
theorem Ls.laidOut : laidOutB Try.prog = true := by kernel_rfl
set_option maxRecDepth 100000 in
theorem Ls.rowPair : (79 : TypeId) < Try.prog.types.size := of_decide_eq_true (by kernel_rfl)
set_option maxRecDepth 100000 in
theorem Ls.widePair : (match Try.prog.underlying 79 with | some (.array _ _) | some (.struct _) => true | _ => false) = true := by rw [Try.underlying79]
set_option maxRecDepth 100000 in
theorem Ls.keyed : Keyed Try.prog 79 := Keyed.of_law (deep_law_laid Ls.laidOut (m := 2) (by omega) Ls.rowPair (by kernel_rfl) Ls.widePair)
set_option maxRecDepth 100000 in
theorem Ls.arrKey : WideMaps.ArrKey Try.prog 79 3 2 := ⟨Try.underlying79, by kernel_rfl, by kernel_rfl, by kernel_rfl⟩
def Ls.key (p : Int × Int) : Lit := .string (keyBytes [.int .i64 p.1, .int .i64 p.2])
def Ls.Sm (p : Int × Int) : Prop := (-1 ≤ p.1 ∧ p.1 < 1000) ∧ -1 ≤ p.2 ∧ p.2 < 1000
theorem Ls.wf_small {a : Int} (h : -1 ≤ a ∧ a < 1000) : (Lit.int .i64 a).wf = true := by
  simp [Lit.wf, IntKind.min, IntKind.max, IntKind.signed, IntKind.bits]
  omega
set_option maxRecDepth 100000 in
theorem Ls.keyOf_val {p : Int × Int} (h : Ls.Sm p) : keyOf Try.prog 79 (.agg #[.int .i64 p.1, .int .i64 p.2]) = some (Ls.key p) := by
  have A := Ls.arrKey
  have hsz : ∃ m, Try.prog.types.size = m + 1 := ⟨Try.prog.types.size - 1, (Nat.succ_pred_eq_of_pos (Nat.lt_of_le_of_lt (Nat.zero_le _) Ls.rowPair)).symm⟩
  have hkt := A.keyType hsz
  have he := Try.underlying3
  have w0 := Ls.wf_small h.1
  have w1 := Ls.wf_small h.2
  obtain ⟨m, hm⟩ := hsz
  unfold keyOf
  simp only [A.hu]
  rw [if_pos (by simp [hkt, Value.formed, A.hu, A.size]), hm]
  unfold Program.keyLits
  simp only [A.hu, Value.cells]
  rw [if_pos (by rw [A.size]; rfl), show List.range 2 = [0, 1] from rfl, List.mapM_cons, List.mapM_cons, List.mapM_nil]
  simp [A.one, Program.keyLits, he, w0, w1, Ls.key]
set_option maxRecDepth 100000 in
theorem Ls.key_is {p : Int × Int} (h : Ls.Sm p) : WideAt.IsKeyLit (Ls.key p) := Ls.keyed.key (Ls.keyOf_val h)
set_option maxRecDepth 100000 in
theorem Ls.key_inj {p q : Int × Int} (hp : Ls.Sm p) (hq : Ls.Sm q) (h : Ls.key p = Ls.key q) : p = q := by
  have := Ls.keyed.inj (Ls.keyOf_val hp) (by rw [h]; exact Ls.keyOf_val hq)
  simp at this
  exact Prod.ext this.1 this.2
def Ls.PInv (L : List (Int × Int)) (D : DataW Unit) : Prop := ∀ p, Ls.Sm p → (p ∈ L → ∀ z, D.atKey (Ls.key p) z = .lit (.bool true)) ∧ (p ∉ L → ∀ z, D.atKey (Ls.key p) z = z)
theorem Ls.pinv_nil : Ls.PInv [] (.map []) := fun p _ => ⟨fun h => by simp at h, fun _ z => by simp [DataW.atKey]⟩
theorem Ls.PInv.put {L : List (Int × Int)} {D : DataW Unit} (h : Ls.PInv L D) (hD : Maps.IsMap D) (hL : ∀ p ∈ L, Ls.Sm p) {q : Int × Int} (hq : Ls.Sm q) : Ls.PInv (L ++ [q]) (D.put (Ls.key q) (.lit (.bool true))) := by
  intro p hp
  by_cases e : p = q
  · subst e
    exact ⟨fun _ z => Maps.atKey_put_same hD (Ls.key_is hp) _ _, fun hn => absurd (by simp) hn⟩
  · have hk : Ls.key p ≠ Ls.key q := fun hk => e (Ls.key_inj hp hq hk)
    refine ⟨fun hm z => ?_, fun hn z => ?_⟩
    · rw [Maps.atKey_put_other hk]
      refine (h p hp).1 ?_ z
      simpa [e] using hm
    · rw [Maps.atKey_put_other hk]
      exact (h p hp).2 (fun h9 => hn (by simp [h9])) z
def Ls.Pm (w : World) (b : Nat) (L : List (Int × Int)) : Prop := ∃ D : DataW Unit, w.ownsMap Try.prog 79 (plainElem Try.prog 4) b L.length D ∧ Ls.PInv L D
theorem Ls.pm_new (w : World) : Ls.Pm (w.alloc (.map #[] 0)) w.heap.size [] := ⟨.map [], World.ownsMap_made w _ _ _, Ls.pinv_nil⟩
theorem Ls.Pm.lt {w : World} {b : Nat} {L : List (Int × Int)} (h : Ls.Pm w b L) : b < w.heap.size := by
  obtain ⟨D, h, _⟩ := h
  exact h.lt
theorem Ls.Pm.kept {w w' : World} {b : Nat} {L : List (Int × Int)} (h : Ls.Pm w b L) {row : Option Nat} (hg : w.grownBy w' row) (hn : some b ≠ row) : Ls.Pm w' b L := by
  obtain ⟨D, h, hp⟩ := h
  exact ⟨D, h.kept hg hn, hp⟩
theorem Ls.Pm.up {w w' : World} {b : Nat} {L : List (Int × Int)} (h : Ls.Pm w b L) (hb : Below w.heap.size w w') : Ls.Pm w' b L := h.kept (Bs.grown_of_below hb) (by simp)
theorem Ls.zeroBool (w : World) : (zeroValue 4).run Try.prog w = .ok (.bool false) w := by kernel_rfl
set_option maxRecDepth 100000 in
theorem Ls.look {ops : Array Oper} {rest : List Oper} {o : Oper} {a : Act} {Q : Exit → Act → World → Prop} {w : World} {b : Nat} {L : List (Int × Int)} (h : Ls.Pm w b L) (hg : o.guard = none) (m x : Operand) (hop : o.op = Op.lookup 80 m x false) (hm : a.eval m = .map (some b)) (p : Int × Int) (hp : Ls.Sm p) (hx : a.eval x = .agg #[.int .i64 p.1, .int .i64 p.2])
    (hK : wpList Try.prog ops Q rest (a.put o.dst (.bool (decide (p ∈ L)))) w) : wpList Try.prog ops Q (o :: rest) a w := by
  obtain ⟨D, hown, hP⟩ := h
  obtain ⟨v, ps, hrun, hv⟩ := hown.lookup Ls.keyed Try.underlying80 (Ls.zeroBool w) (plainElem_bool (H := Unit) Try.underlying4 false) (Ls.keyOf_val hp)
  have hval : v = .bool (decide (p ∈ L)) := by
    by_cases e : p ∈ L
    · rw [(hP p hp).1 e] at hv
      have := plainElem_bool (H := Unit) Try.underlying4 true
      unfold plainElem at hv
      simp only [Try.underlying4] at hv
      cases v <;> simp at hv
      simp [e, hv]
    · rw [(hP p hp).2 e] at hv
      unfold plainElem at hv
      simp only [Try.underlying4] at hv
      cases v <;> simp at hv
      simp [e, hv]
  refine wpList_plain hg fun K' hK' => ?_
  unfold Oper.wp
  simp [execOp, hop, hm, hx, hrun, Result.andThen]
  rw [hval]
  exact hK' _ _ hK
set_option maxRecDepth 100000 in
theorem Ls.put {ops : Array Oper} {rest : List Oper} {o : Oper} {a : Act} {Q : Exit → Act → World → Prop} {w : World} {b : Nat} {L : List (Int × Int)} (h : Ls.Pm w b L) (hg : o.guard = none) (m x v : Operand) (hop : o.op = Op.mapUpdate 80 m x v ∨ o.op = Op.insert 80 m x v) (hm : a.eval m = .map (some b)) (hv : a.eval v = .bool true) (p : Int × Int) (hp : Ls.Sm p) (hL : ∀ p ∈ L, Ls.Sm p) (hln : L.length < 1000000) (hx : a.eval x = .agg #[.int .i64 p.1, .int .i64 p.2])
    (hK : ∀ w', Ls.Pm w' b (L ++ [p]) → w.grownBy w' (some b) → wpList Try.prog ops Q rest (a.put o.dst undef) w') : wpList Try.prog ops Q (o :: rest) a w := by
  obtain ⟨D, hown, hP⟩ := h
  obtain ⟨w', hrun, r1, r2⟩ := hown.update Ls.keyed Try.underlying80 (by unfold maxLen; omega) (Ls.keyOf_val hp) (plainElem_bool (H := Unit) Try.underlying4 true)
  have hpm : Ls.Pm w' b (L ++ [p]) := ⟨_, by rw [List.length_append, List.length_singleton]; exact r1, hP.put hown.isMap hL hp⟩
  refine wpList_plain hg fun K' hK' => ?_
  unfold Oper.wp
  rcases hop with hop | hop
  · simp [execOp, hop, hm, hx, hv, hrun, Result.andThen]
    exact hK' _ _ (hK w' hpm r2)
  · simp [execOp, hop, hm, hx, hv, hrun, Result.andThen]
    exact hK' _ _ (hK w' hpm r2)
def Ls.cells (l : List (Int × Int)) : List Value := l.flatMap fun p => [.int .i64 p.1, .int .i64 p.2]
theorem Ls.cells_append (a b : List (Int × Int)) : Ls.cells (a ++ b) = Ls.cells a ++ Ls.cells b := by simp [Ls.cells]
theorem Ls.cells_at : ∀ (l : List (Int × Int)) (k : Nat) (h : k < l.length), (Ls.cells l)[k * 2]? = some (.int .i64 l[k].1) ∧ (Ls.cells l)[k * 2 + 1]? = some (.int .i64 l[k].2)
  | x :: r, 0, h => ⟨rfl, rfl⟩
  | x :: r, k + 1, h => by
    have ih := Ls.cells_at r k (by simpa using h)
    have e0 : Ls.cells (x :: r) = [.int .i64 x.1, .int .i64 x.2] ++ Ls.cells r := rfl
    rw [e0]
    have a0 : (k + 1) * 2 = 2 + k * 2 := by omega
    have a1 : (k + 1) * 2 + 1 = 2 + (k * 2 + 1) := by omega
    rw [a1, a0, List.getElem?_append_right (by simp), List.getElem?_append_right (by simp)]
    simpa using ih
theorem Ls.infoPair : (Try.prog.info? 79).map (fun i => (i.zero, i.size, i.bytes)) = some (some (.agg #[.int .i64 0, .int .i64 0]), 2, 16) := by kernel_rfl
def Ls.Own (base : Nat) (v : Value) (l : List (Int × Int)) (w : World) : Prop := w.ownsRow base 79 2 v l.length (Ls.cells l)
theorem Ls.Own.up {base : Nat} {v : Value} {l : List (Int × Int)} {w w' : World} (h : Ls.Own base v l w) (hb : Below w.heap.size w w') : Ls.Own base v l w' := Bs.row_up h hb
set_option maxRecDepth 100000 in
theorem Ls.append {ops : Array Oper} {rest : List Oper} {o : Oper} {a : Act} {Q : Exit → Act → World → Prop} {W : World} (hgd : o.guard = none) (s x : Operand)
    (ho : o.op = .call { callee := .builtin .append, args := #[s, x], argTypes := #[81, 81] })
    (base : Nat) (v : Value) (l : List (Int × Int)) (hs : a.eval s = v) (O : Ls.Own base v l W) (B c : Nat) (y : Int × Int) (hx : a.eval x = .slice (some ⟨B, 0, none⟩) 1 c) (hB : W.heap[B]? = some (.cells #[.int .i64 y.1, .int .i64 y.2] 79)) (hl : l.length ≤ 1000000) (hbase : base ≤ W.heap.size)
    (h : ∀ g cap w', Ls.Own base (.slice (some ⟨g, 0, none⟩) (l.length + 1) cap) (l ++ [y]) w' → W.grownBy w' v.ownBlock → (v.ownBlock = some g ∨ g = W.heap.size) → wpList Try.prog ops Q rest (a.put o.dst (.slice (some ⟨g, 0, none⟩) (l.length + 1) cap)) w') : wpList Try.prog ops Q (o :: rest) a W := by
  obtain ⟨iI, hiI, hz0, hz1, hz2⟩ := info_parts Ls.infoPair
  refine wpList_append_lies W hgd s x 81 ho base 79 iI _ 2 16 Try.underlying81 hiI hz0 hz1 hz2 rfl (by decide) v l.length (Ls.cells l) hs O ⟨B, 0, none⟩ 1 c [.int .i64 y.1, .int .i64 y.2] hx rfl (World.news_of_block hB) (by simp [Value.oneCell']) (by decide) (by unfold maxLen; omega) (by omega) hbase _ rfl ?_
  intro g cap w' o1 o2 o3 _
  exact h g cap w' (by unfold Ls.Own; rw [List.length_append, Ls.cells_append]; exact o1) o2 o3
theorem Ls.Own.at {base : Nat} {v : Value} {l : List (Int × Int)} {w : World} (h : Ls.Own base v l w) {k : Nat} (hk : k < l.length) : ∃ g cap, v = .slice (some ⟨g, 0, none⟩) l.length cap ∧ w.cell? ⟨g, k * 2, none⟩ = some (.int .i64 l[k].1) ∧ w.cell? ⟨g, k * 2 + 1, none⟩ = some (.int .i64 l[k].2) := by
  rcases h.2 with ⟨_, h0⟩ | ⟨g, cap, cur, rfl, _⟩
  · omega
  · have hc := Ls.cells_at l k hk
    have k0 := World.ownsRow.cells h (g := g) rfl _ _ hc.1
    have k1 := World.ownsRow.cells h (g := g) rfl _ _ hc.2
    rw [Sc.add_is] at k0 k1
    exact ⟨g, cap, rfl, k0, k1⟩
end Go.Proofs.Ythapedadnbkgnaa
