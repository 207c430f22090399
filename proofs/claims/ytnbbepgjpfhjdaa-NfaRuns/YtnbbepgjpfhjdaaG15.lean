/- What the document's beside answers, walked. A region that draws its order, some edges of which bind no order: plain. -/
import Derived.Test.YtnbbepgjpfhjdaaG14
import Derived.Deep.Onto
import Derived.Test.YtnbbepgjpfhjdaaG4
namespace Go.Proofs.Ytnbbepgjpfhjdaa
set_option linter.unusedVariables false
set_option linter.unusedSimpArgs false
open Go.RowKit
structure Nh.BW (w : World) (A X : Nat) (n1 n2 : Int) (vF1 vL1 : Value) (e1 : Bool) (vN1 vF vL : Value) (e2 : Bool) (vN2 : Value) (F L : List Int) (u : World) : Prop where
  bel : Below w.heap.size w u
  pa : Nh.PB u A n1 vF1 vL1 e1 vN1
  pb : Nh.PB u (A + 1) n2 vF vL e2 vN2
  p1 : Nh.PB u (A + 2) 0 (.slice none 0 0) (.slice none 0 0) false (.slice none 0 0)
  p2 : Nh.PB u (A + 3) 0 (.slice none 0 0) (.slice none 0 0) false (.slice none 0 0)
  rf : Nf.Row u (fun k => A + 4 ≤ k ∧ k < X) vF F
  rl : Nf.Row u (fun k => A + 4 ≤ k ∧ k < X) vL L
  hA : w.heap.size ≤ A
  hX : A + 4 ≤ X
  xu : X ≤ u.heap.size
theorem Nh.BW.up {w : World} {A X : Nat} {n1 n2 : Int} {vF1 vL1 : Value} {e1 : Bool} {vN1 vF vL : Value} {e2 : Bool} {vN2 : Value} {F L : List Int} {u u' : World} (h : Nh.BW w A X n1 n2 vF1 vL1 e1 vN1 vF vL e2 vN2 F L u) (hb : Below u.heap.size u u') : Nh.BW w A X n1 n2 vF1 vL1 e1 vN1 vF vL e2 vN2 F L u' :=
  ⟨Bs.below_up h.bel hb, h.pa.up hb, h.pb.up hb, h.p1.up hb, h.p2.up hb, h.rf.up hb, h.rl.up hb, h.hA, h.hX, Nat.le_trans h.xu hb.size⟩
theorem Nh.BW.grown {w : World} {A X : Nat} {n1 n2 : Int} {vF1 vL1 : Value} {e1 : Bool} {vN1 vF vL : Value} {e2 : Bool} {vN2 : Value} {F L : List Int} {u u' : World} {row : Option Nat} (h : Nh.BW w A X n1 n2 vF1 vL1 e1 vN1 vF vL e2 vN2 F L u) (hg : u.grownBy u' row) (hr : ∀ k, row = some k → X ≤ k) : Nh.BW w A X n1 n2 vF1 vL1 e1 vN1 vF vL e2 vN2 F L u' := by
  have hX := h.hX
  have n : ∀ j, j < X → ¬ row = some j := fun j hj e => by have := hr j e; omega
  exact ⟨h.bel.grown hg h.bel.size (fun k hk => by have := hr k hk; have := h.hA; omega), h.pa.grown hg (n _ (by omega)), h.pb.grown hg (n _ (by omega)), h.p1.grown hg (n _ (by omega)), h.p2.grown hg (n _ (by omega)), h.rf.grown hg (fun k hk e => n k hk.2 e.symm), h.rl.grown hg (fun k hk e => n k hk.2 e.symm), h.hA, h.hX, Nat.le_trans h.xu hg.size⟩
structure Nh.NX (X : Nat) (v : Value) (rows1 rs : List Value) (N : List (List Int)) (u : World) : Prop where
  own : Ng.Own X v (rows1 ++ rs) u
  rows : Nh.Rows u (fun k => X ≤ k ∧ some k ≠ v.ownBlock) rs N
theorem Nh.NX.up {X : Nat} {v : Value} {rows1 rs : List Value} {N : List (List Int)} {u u' : World} (h : Nh.NX X v rows1 rs N u) (hb : Below u.heap.size u u') : Nh.NX X v rows1 rs N u' := ⟨h.own.up hb, h.rows.up hb⟩
def Nh.NB (K : Nat) (v : Value) (l : List Int) (z : Value) (u : World) : Prop := ∃ B vr, z = .slice (some ⟨B, 0, none⟩) 1 1 ∧ u.heap[B]? = some (.cells #[vr] 35) ∧ Nf.Row u (fun k => K ≤ k) vr l ∧ v.ownBlock ≠ some B ∧ vr.oneCell' = true
def Nh.NP (X : Nat) (rows1 : List Value) (N : List (List Int)) (z : Value) (u : World) : Prop := ∃ g n c rs, z = .slice (some ⟨g, 0, none⟩) n c ∧ Nh.NX X z rows1 rs N u
def Nh.relB (A K i : Nat) (v vN2 : Value) (p : Addr) (r : Value) (n1 : Nat) (l : List Int) (P : Value → World → Prop) : List (Value → World → Prop) :=
  [fun z _ => z = v, fun z _ => z = .pointer (some ⟨A + 1, 4, none⟩), fun z _ => z = vN2, fun z _ => z = .int .i64 i, fun z _ => z = .pointer (some p), fun z _ => z = r, fun z _ => z = .pointer (some ⟨A, 0, none⟩), fun z _ => z = .int .i64 n1,
   fun z u => Nf.Row u (fun k => K ≤ k) z l, Nh.NB K v l, P]
def Nh.MB (v : Value) (k : Nat) (u u' : World) : Prop := (k = 10 ∧ u.grownBy u' v.ownBlock) ∨ Below u.heap.size u u'
theorem Nh.relB_up {A K i : Nat} {v vN2 : Value} {p : Addr} {r : Value} {n1 : Nat} {l : List Int} {P : Value → World → Prop} (hK : ∀ k, v.ownBlock = some k → k < K) (hP : ∀ z u u', P z u → Below u.heap.size u u' → P z u') {k j : Nat} {z : Value} {w w' : World} (hjk : j ≠ k) (h : Rg.rel (Nh.relB A K i v vN2 p r n1 l P) j z w) (hb : Nh.MB v k w w') : Rg.rel (Nh.relB A K i v vN2 p r n1 l P) j z w' := by
  match j, h with
  | 0, h => exact h
  | 1, h => exact h
  | 2, h => exact h
  | 3, h => exact h
  | 4, h => exact h
  | 5, h => exact h
  | 6, h => exact h
  | 7, h => exact h
  | 8, h =>
    rcases hb with ⟨_, hg⟩ | hb
    · exact Nf.Row.grown h hg (fun k hk e => by have := hK k e.symm; omega)
    · exact Nf.Row.up h hb
  | 9, h =>
    obtain ⟨B, vr, e, h1, h2, h3, h4⟩ := h
    have hB : B < w.heap.size := (Array.getElem?_eq_some_iff.1 h1).1
    rcases hb with ⟨_, hg⟩ | hb
    · exact ⟨B, vr, e, by rw [hg.block B hB (fun e => h3 e.symm)]; exact h1, Nf.Row.grown h2 hg (fun k hk e => by have := hK k e.symm; omega), h3, h4⟩
    · exact ⟨B, vr, e, by rw [hb.block B hB]; exact h1, h2.up hb, h3, h4⟩
  | 10, h =>
    rcases hb with ⟨e, _⟩ | hb
    · exact absurd e.symm hjk
    · exact hP _ _ _ h hb
  | n + 11, h => exact h
structure Nh.WB (w : World) (A X K : Nat) (n1 n2 : Int) (vF1 vL1 : Value) (e1 : Bool) (vN1 vF vL : Value) (e2 : Bool) (vN2 : Value) (F L : List Int) (v : Value) (rows1 rs : List Value) (N : List (List Int)) (Lst : Nat → Bool) (u : World) : Prop where
  bw : Nh.BW w A X n1 n2 vF1 vL1 e1 vN1 vF vL e2 vN2 F L u
  nx : Lst 10 = false → Nh.NX X v rows1 rs N u
  ku : K ≤ u.heap.size
theorem Nh.WB.on {w : World} {A X K : Nat} {n1 n2 : Int} {vF1 vL1 : Value} {e1 : Bool} {vN1 vF vL : Value} {e2 : Bool} {vN2 : Value} {F L : List Int} {v : Value} {rows1 rs : List Value} {N : List (List Int)} {Lst : Nat → Bool} {u : World} (h : Nh.WB w A X K n1 n2 vF1 vL1 e1 vN1 vF vL e2 vN2 F L v rows1 rs N Lst u) (j : Nat) (hj : j ≠ 10) : Nh.WB w A X K n1 n2 vF1 vL1 e1 vN1 vF vL e2 vN2 F L v rows1 rs N (fun k => decide (k = j) || Lst k) u :=
  ⟨h.bw, fun e => h.nx (by simpa [Ne.symm hj] using e), h.ku⟩
theorem Nh.WB.up {w : World} {A X K : Nat} {n1 n2 : Int} {vF1 vL1 : Value} {e1 : Bool} {vN1 vF vL : Value} {e2 : Bool} {vN2 : Value} {F L : List Int} {v : Value} {rows1 rs : List Value} {N : List (List Int)} {Lst : Nat → Bool} {u u' : World} (h : Nh.WB w A X K n1 n2 vF1 vL1 e1 vN1 vF vL e2 vN2 F L v rows1 rs N Lst u) (hb : Below u.heap.size u u') : Nh.WB w A X K n1 n2 vF1 vL1 e1 vN1 vF vL e2 vN2 F L v rows1 rs N Lst u' :=
  ⟨h.bw.up hb, fun e => (h.nx e).up hb, Nat.le_trans h.ku hb.size⟩
set_option maxRecDepth 100000 in
set_option maxHeartbeats 800000 in
theorem beside_any (n1 n2 : Nat) (F2 L2 : List Int) (N2 : List (List Int)) (S2 : Nh.Small n2 F2 L2 N2) (hn1 : n1 ≤ 10000) (e1 e2 : Bool) (aF1 aL1 aN1 aF2 aL2 aN2 : Option Addr) (mF1 cF1 mL1 cL1 cN1 mF2 cF2 mL2 cL2 cN2 : Nat) (rows1 rows2 : List Value) (w : World)
    (h1 : Ng.Sv w aN1 rows1) (h1c : ∀ u ∈ rows1, u.oneCell' = true) (h1l : rows1.length ≤ 10000) (hF : Nf.Row w (fun _ => True) (.slice aF2 mF2 cF2) F2) (hL : Nf.Row w (fun _ => True) (.slice aL2 mL2 cL2) L2) (h2 : Ng.Sv w aN2 rows2) (hr2 : Nh.Rows w (fun _ => True) rows2 N2) :
    Calls Try.prog 69 #[.agg #[.int .i64 n1, .slice aF1 mF1 cF1, .slice aL1 mL1 cL1, .bool e1, .slice aN1 rows1.length cN1], .agg #[.int .i64 n2, .slice aF2 mF2 cF2, .slice aL2 mL2 cL2, .bool e2, .slice aN2 rows2.length cN2]] w (Nh.BesPost w n1 n2 (.slice aF1 mF1 cF1) (.slice aL1 mL1 cL1) e1 e2 (.slice aN2 rows2.length cN2) rows1 F2 L2 N2) := by
  have q1 := Bs.below1 w (.cells #[.int .i64 n1, .slice aF1 mF1 cF1, .slice aL1 mL1 cL1, .bool e1, .slice aN1 rows1.length cN1] 87)
  obtain ⟨W1, hW1⟩ : ∃ W, w.alloc (.cells #[.int .i64 n1, .slice aF1 mF1 cF1, .slice aL1 mL1 cL1, .bool e1, .slice aN1 rows1.length cN1] 87) = W := ⟨_, rfl⟩
  have pa := Nh.pb_new w n1 (.slice aF1 mF1 cF1) (.slice aL1 mL1 cL1) e1 (.slice aN1 rows1.length cN1)
  have s1 : W1.heap.size = w.heap.size + 1 := by rw [← hW1]; simp
  rw [hW1] at q1 pa
  have q2 := Bs.below1 W1 (.cells #[.int .i64 n2, .slice aF2 mF2 cF2, .slice aL2 mL2 cL2, .bool e2, .slice aN2 rows2.length cN2] 87)
  obtain ⟨W2, hW2⟩ : ∃ W, W1.alloc (.cells #[.int .i64 n2, .slice aF2 mF2 cF2, .slice aL2 mL2 cL2, .bool e2, .slice aN2 rows2.length cN2] 87) = W := ⟨_, rfl⟩
  have pb := Nh.pb_new W1 n2 (.slice aF2 mF2 cF2) (.slice aL2 mL2 cL2) e2 (.slice aN2 rows2.length cN2)
  have s2 : W2.heap.size = w.heap.size + 2 := by rw [← hW2]; simp [s1]
  rw [hW2] at q2 pb
  rw [s1] at pb
  have q3 := Bs.below1 W2 (.cells #[.int .i64 0, .slice none 0 0, .slice none 0 0, .bool false, .slice none 0 0] 87)
  obtain ⟨W3, hW3⟩ : ∃ W, W2.alloc (.cells #[.int .i64 0, .slice none 0 0, .slice none 0 0, .bool false, .slice none 0 0] 87) = W := ⟨_, rfl⟩
  have p1 := Nh.pb_new W2 0 (.slice none 0 0) (.slice none 0 0) false (.slice none 0 0)
  have s3 : W3.heap.size = w.heap.size + 3 := by rw [← hW3]; simp [s2]
  rw [hW3] at q3 p1
  rw [s2] at p1
  have q4 := Bs.below1 W3 (.cells #[.int .i64 0, .slice none 0 0, .slice none 0 0, .bool false, .slice none 0 0] 87)
  obtain ⟨W4, hW4⟩ : ∃ W, W3.alloc (.cells #[.int .i64 0, .slice none 0 0, .slice none 0 0, .bool false, .slice none 0 0] 87) = W := ⟨_, rfl⟩
  have p2 := Nh.pb_new W3 0 (.slice none 0 0) (.slice none 0 0) false (.slice none 0 0)
  have s4 : W4.heap.size = w.heap.size + 4 := by rw [← hW4]; simp [s3]
  rw [hW4] at q4 p2
  rw [s3] at p2
  have A4 := Bs.below_up (Bs.below_up (Bs.below_up q1 q2) q3) q4
  replace pa := ((pa.up q2).up q3).up q4
  replace pb := (pb.up q3).up q4
  replace p1 := p1.up q4
  have C1 := Lib.hid (refShift_any F2 n1 _ W4 (fun k => w.heap.size + 4 ≤ k) (fun k hk => by rw [s4] at hk; exact hk) (hF.up A4) S2.fl (fun x hx => ⟨(S2.f x hx).1, by have := (S2.f x hx).2; omega⟩) ⟨by omega, by omega⟩)
  have HLw := Lib.hid hL
  have HA4 := Lib.hid A4
  have HS2 := Lib.hid S2
  have HW4 := Lib.hid (show (((w.alloc (.cells #[.int .i64 n1, .slice aF1 mF1 cF1, .slice aL1 mL1 cL1, .bool e1, .slice aN1 rows1.length cN1] 87)).alloc (.cells #[.int .i64 n2, .slice aF2 mF2 cF2, .slice aL2 mL2 cL2, .bool e2, .slice aN2 rows2.length cN2] 87)).alloc (.cells #[.int .i64 0, .slice none 0 0, .slice none 0 0, .bool false, .slice none 0 0] 87)).alloc (.cells #[.int .i64 0, .slice none 0 0, .slice none 0 0, .bool false, .slice none 0 0] 87) = W4 by rw [hW1, hW2, hW3, hW4])
  have HPA := Lib.hid pa; have HPB := Lib.hid pb; have HP1 := Lib.hid p1; have HP2 := Lib.hid p2
  have HS4 := Lib.hid s4
  have H1 := Lib.hid h1
  have H2 := Lib.hid h2
  have H1C := Lib.hid h1c
  have HR2 := Lib.hid hr2
  have hr2l := hr2.1
  have hN2l := S2.nl
  obtain ⟨m1, hm1⟩ : ∃ m, rows1.length = m := ⟨_, rfl⟩
  obtain ⟨m2, hm2⟩ : ∃ m, rows2.length = m := ⟨_, rfl⟩
  have HM1 := Lib.hid hm1
  have HM2 := Lib.hid hm2
  rw [hm1] at h1l HW4 HPA ⊢
  rw [hm2] at hr2l HW4 HPB ⊢
  have HR2L := Lib.hid hr2l
  have hm26 : m2 ≤ 10000 := by omega
  clear q1 q2 q3 q4 s1 s2 s3 s4 hW1 hW2 hW3 hW4 A4 pa pb p1 p2 h1 h2 h1c hr2 hF hL S2 hm1 hm2 hr2l hN2l
  go_enter Try.func69, Try.ntmps69
  go_upto_region 1 with fail
  rw [HW4.out]
  have c0 := HPA.out.c0
  have d1 := HPB.out.c1; have y1 := HPB.out.z 1 (by decide)
  have d2 := HPB.out.c2; have y2 := HPB.out.z 2 (by decide)
  clear HW4
  go_wp2_with fail
  refine C1.out.mono ?_
  rintro e w5 ⟨v5, rfl, R5, b5⟩
  obtain ⟨a5, n5, c5, rfl⟩ := R5.form
  have pa5 := HPA.out.up b5; have pb5 := HPB.out.up b5; have p15 := HP1.out.up b5; have p25 := HP2.out.up b5
  have x1 := pb5.c1; have x2 := pb5.z 1 (by decide)
  have U5b := (pb5.set1 (.slice a5 n5 c5)).c2
  have U5a := (pa5.far (d := w.heap.size + 1) (i := 1) (by omega) (.slice a5 n5 c5)).c0
  have b5w := Bs.below_up HA4.out b5
  have R5' := (R5.lt).set (b := w.heap.size + 1) (i := 1) (fun e => by have := e.1; omega) (.slice a5 n5 c5)
  have hs5 := b5.size
  rw [HS4.out] at hs5
  have U5s : (w5.setCell ⟨w.heap.size + 1, 1, none⟩ (.slice a5 n5 c5)).heap.size = w5.heap.size := by simp [go_sem]
  have hbel5 : Below w.heap.size w (w5.setCell ⟨w.heap.size + 1, 1, none⟩ (.slice a5 n5 c5)) := b5w.setCell (by simp) _
  have C2 := Lib.hid (refShift_any L2 n1 _ (w5.setCell ⟨w.heap.size + 1, 1, none⟩ (.slice a5 n5 c5)) (fun k => w5.heap.size ≤ k) (fun k hk => by rw [U5s] at hk; exact hk) (HLw.out.up hbel5) HS2.out.ll (fun x hx => ⟨(HS2.out.l x hx).1, by have := (HS2.out.l x hx).2; omega⟩) ⟨by omega, by omega⟩)
  have HU5 : Hid (Nh.BW w w.heap.size w5.heap.size n1 n2 (.slice aF1 mF1 cF1) (.slice aL1 mL1 cL1) e1 (.slice aN1 m1 cN1) (.slice a5 n5 c5) (.slice aL2 mL2 cL2) e2 (.slice aN2 m2 cN2) (Nf.shift F2 n1) [] (w5.setCell ⟨w.heap.size + 1, 1, none⟩ (.slice a5 n5 c5)) ∨ True) := Lib.hid (.inr trivial)
  have HPA5 := Lib.hid (pa5.far (d := w.heap.size + 1) (i := 1) (by omega) (.slice a5 n5 c5))
  have HPB5 := Lib.hid (pb5.set1 (.slice a5 n5 c5))
  have HP15 := Lib.hid (p15.far (d := w.heap.size + 1) (i := 1) (by omega) (.slice a5 n5 c5))
  have HP25 := Lib.hid (p25.far (d := w.heap.size + 1) (i := 1) (by omega) (.slice a5 n5 c5))
  have HR5 := Lib.hid R5'
  have HB5 := Lib.hid hbel5
  clear C1 R5 b5 pa5 pb5 p15 p25 b5w R5' hbel5 d1 d2 y1 y2 c0 HPA HPB HP1 HP2 HU5
  go_upto_region 2 with fail
  generalize w5.setCell ⟨w.heap.size + 1, 1, none⟩ (.slice a5 n5 c5) = U5 at *
  clear x1 x2
  have y2 := HPB5.out.z 2 (by decide)
  go_wp2_with fail
  refine C2.out.mono ?_
  rintro e w6 ⟨v6, rfl, R6, b6⟩
  obtain ⟨a6, n6, c6, rfl⟩ := R6.form
  have hs6 := b6.size
  rw [U5s] at hs6
  have pa6 := HPA5.out.up b6; have pb6 := HPB5.out.up b6; have p16 := HP15.out.up b6; have p26 := HP25.out.up b6
  have x1 := pb6.c2; have x2 := pb6.z 2 (by decide)
  have HBW6 : Hid (Nh.BW w w.heap.size w6.heap.size n1 n2 (.slice aF1 mF1 cF1) (.slice aL1 mL1 cL1) e1 (.slice aN1 m1 cN1) (.slice a5 n5 c5) (.slice a6 n6 c6) e2 (.slice aN2 m2 cN2) (Nf.shift F2 n1) (Nf.shift L2 n1) (w6.setCell ⟨w.heap.size + 1, 2, none⟩ (.slice a6 n6 c6))) := Lib.hid
    ⟨(Bs.below_up HB5.out b6).setCell (by simp) _, pa6.far (by omega) _, pb6.set2 _, p16.far (by omega) _, p26.far (by omega) _,
     ((HR5.out.up b6).mono (fun k hk => (⟨hk.1, by omega⟩ : w.heap.size + 4 ≤ k ∧ k < w6.heap.size))).set (fun e => by have := e.1; omega) _,
     ((R6.lt).mono (fun k hk => (⟨by omega, hk.2⟩ : w.heap.size + 4 ≤ k ∧ k < w6.heap.size))).set (fun e => by have := e.1; omega) _, Nat.le_refl _, by omega, by rw [show (w6.setCell ⟨w.heap.size + 1, 2, none⟩ (.slice a6 n6 c6)).heap.size = w6.heap.size by simp [go_sem]]; exact Nat.le_refl _⟩
  have U6s : (w6.setCell ⟨w.heap.size + 1, 2, none⟩ (.slice a6 n6 c6)).heap.size = w6.heap.size := by simp [go_sem]
  clear C2 R6 b6 pa6 pb6 p16 p26 HPA5 HPB5 HP15 HP25 HR5 HB5 U5a U5b U5s y2
  go_upto_region 3 with fail
  generalize w6.setCell ⟨w.heap.size + 1, 2, none⟩ (.slice a6 n6 c6) = U6 at *
  clear x1 x2
  obtain ⟨X, hX⟩ : ∃ X, w6.heap.size = X := ⟨_, rfl⟩
  rw [hX] at U6s HBW6
  have B7 := Bs.below1 U6 (.cells #[] 35)
  have HBW7 := Lib.hid (HBW6.out.up B7)
  have g4 := HBW7.out.pa.c4
  have g4' := HBW6.out.pa.c4
  have O7 : Hid (Ng.Own X (.slice (some ⟨X, 0, none⟩) 0 0) [] (U6.alloc (.cells #[] 35))) := Lib.hid (by
    have := World.ownsRow_lit (base := X) (e := 35) (size := 1) U6 #[] 0 (by omega) (by unfold maxLen; omega) rfl
    rw [U6s] at this
    exact this)
  have hq : ([] : List Value).length + rows1.length ≤ 1000000 := by rw [HM1.out]; simp; omega
  have hbX : X ≤ (U6.alloc (.cells #[] 35)).heap.size := HBW7.out.xu
  have HSV := Lib.hid (H1.out.up HBW7.out.bel)
  have U6s' := U6s
  clear B7 hX HBW6
  go_wp2_with (first | (at_builtin; refine Ng.append rfl _ _ rfl X _ [] rfl O7.out aN1 cN1 m1 rows1 HM1.out rfl HSV.out H1C.out hq hbX ?_; intro v8 w8 O8 g8))
  have hX8 : ∀ k, (Value.slice (some ⟨X, 0, none⟩) 0 0).ownBlock = some k → X ≤ k := fun k hk => by
    simp [Value.ownBlock] at hk
    omega
  have HBW8 := Lib.hid (HBW7.out.grown g8 hX8)
  have HNX8 : Hid (Nh.NX X v8 rows1 [] ((N2.take 0).map fun l => Nf.shift l n1) w8) := Lib.hid ⟨by simpa using O8, by simpa using Nh.rows_nil _ _⟩
  clear O8 g8 HBW7 O7 HSV g4 g4' hbX hq U6s U6s'
  go_loopw [6, 7] (fun v i wr => ∃ (q : Nat) (rs : List Value), q ≤ m2 ∧ i = .int .i64 q ∧ Hid (Nh.BW w w.heap.size X n1 n2 (.slice aF1 mF1 cF1) (.slice aL1 mL1 cL1) e1 (.slice aN1 m1 cN1) (.slice a5 n5 c5) (.slice a6 n6 c6) e2 (.slice aN2 m2 cN2) (Nf.shift F2 n1) (Nf.shift L2 n1) wr) ∧ Hid (Nh.NX X v rows1 rs ((N2.take q).map fun l => Nf.shift l n1) wr)) (fun _ i _ => m2 - (intOf i).toNat)
  case atStart => exact ⟨0, [], by omega, rfl, HBW8, HNX8⟩
  case round =>
    clear HBW8 HNX8
    obtain ⟨q, rs, hq, rfl, HBW, HNX⟩ := hrel
    obtain ⟨av, nv, cv, rfl⟩ := HNX.out.own.form
    by_cases hlt : q < m2
    · have hlt' : q < rows2.length := by rw [HM2.out]; exact hlt
      have hltN : q < N2.length := by rw [← HR2L.out]; exact hlt
      obtain ⟨p, rfl, hp⟩ := (H2.out.up HBW.out.bel) q hlt'
      have hrow := HR2.out.2 q hlt' hltN
      have hsm := HS2.out.w N2[q] (List.getElem_mem hltN)
      have HTK := Lib.hid (show (N2.take (q + 1)).map (fun l => Nf.shift l n1) = (N2.take q).map (fun l => Nf.shift l n1) ++ [Nf.shift N2[q] n1] by rw [List.take_succ_eq_append_getElem hltN, List.map_append]; rfl)
      have HPW := Lib.hid (show w.cell? (p.add q) = some rows2[q] by
        obtain ⟨p', e', h'⟩ := H2.out q hlt'
        injection e' with e'
        subst e'
        exact h')
      generalize N2[q] = l at *
      obtain ⟨NQ, hNQ⟩ : ∃ NQ, (N2.take q).map (fun l => Nf.shift l n1) = NQ := ⟨_, rfl⟩
      have hNQl : NQ.length ≤ 10000 := by rw [← hNQ, List.length_map, List.length_take]; omega
      rw [hNQ] at HNX HTK
      clear hNQ
      obtain ⟨ar, nr, cr, hrf⟩ := hrow.form
      rw [hrf] at hrow hp HPW
      have HROW := Lib.hid hrow
      have HVK := Lib.hid (show ∀ k, (Value.slice av nv cv).ownBlock = some k → X ≤ k ∧ k < wr.heap.size from fun k hk => World.ownsRow.lt HNX.out.own k hk)
      have W0 : Nh.WB w w.heap.size X wr.heap.size n1 n2 (.slice aF1 mF1 cF1) (.slice aL1 mL1 cL1) e1 (.slice aN1 m1 cN1) (.slice a5 n5 c5) (.slice a6 n6 c6) e2 (.slice (some p) m2 cN2) (Nf.shift F2 n1) (Nf.shift L2 n1) (.slice av nv cv) rows1 rs NQ (fun _ => false) wr.drew := ⟨HBW.out.up (Below.refl _ _).drew, fun _ => HNX.out.up (Below.refl _ _).drew, Nat.le_refl _⟩
      have c4 := HBW.out.pb.c4
      have hrl : (rows1 ++ rs).length ≤ 1000000 := by
        rw [List.length_append, HM1.out]
        have := HNX.out.rows.1
        omega
      have hXw := HBW.out.xu
      have hA4 := HBW.out.hX
      have i1 : (0 : Int) ≤ (q : Int) := by omega
      have i2 : (q : Int) < (m2 : Int) := by omega
      clear hrow hrf
      go_upto_region 7 with fail
      clear hp c4
      refine Rg.regionB (by kernel_rfl) (by kernel_rfl) (by kernel_rfl) (by decide) (Rg.rel (Nh.relB w.heap.size wr.heap.size q (.slice av nv cv) (.slice (some p) m2 cN2) (p.add q) (.slice ar nr cr) n1 (Nf.shift l n1) (Nh.NP X rows1 (NQ ++ [Nf.shift l n1])))) (Nh.WB w w.heap.size X wr.heap.size n1 n2 (.slice aF1 mF1 cF1) (.slice aL1 mL1 cL1) e1 (.slice aN1 m1 cN1) (.slice a5 n5 c5) (.slice a6 n6 c6) e2 (.slice (some p) m2 cN2) (Nf.shift F2 n1) (Nf.shift L2 n1) (.slice av nv cv) rows1 rs NQ) (Nh.MB (.slice av nv cv)) (fun _ _ => False) (fun c b x _ h => h.elim) (fun i j v w w' hij h hb => Nh.relB_up (fun k hk => (HVK.out k hk).2) (fun z u u' h hb => by obtain ⟨g, n, c, rs, e, h1⟩ := h; exact ⟨g, n, c, rs, e, h1.up hb⟩) hij h hb) W0 ⟨?_, ?_, ?_, ?_, ?_, ?_, ?_, ?_, ?_, ?_, ?_, trivial⟩ ?_
      · intro L f' x hL hw hd
        have HW := Lib.hid hw
        clear hw hd
        simp only [Rg.stepZ, Rg.but, Act.put, List.setIfInBounds_toArray, List.set_cons_zero, List.set_cons_succ]
        go_simp
        exact ⟨rfl, HW.out.on 0 (by decide), .inr (Below.refl _ _)⟩
      · intro L f' x hL hw hd
        have HW := Lib.hid hw
        clear hw hd
        simp only [Rg.stepZ, Rg.but, Act.put, List.setIfInBounds_toArray, List.set_cons_zero, List.set_cons_succ]
        go_simp
        exact ⟨rfl, HW.out.on 1 (by decide), .inr (Below.refl _ _)⟩
      · intro L f' x hL hw hd
        have r1 : f' 1 = .pointer (some ⟨w.heap.size + 1, 4, none⟩) := (hd _ (List.mem_cons_self ..)).2
        have c4 := hw.bw.pb.c4
        have HW := Lib.hid hw
        clear hw hd
        simp only [Rg.stepZ, Rg.but, Act.put, List.setIfInBounds_toArray, List.set_cons_zero, List.set_cons_succ]
        go_simp
        exact ⟨rfl, HW.out.on 2 (by decide), .inr (Below.refl _ _)⟩
      · intro L f' x hL hw hd
        have HW := Lib.hid hw
        clear hw hd
        simp only [Rg.stepZ, Rg.but, Act.put, List.setIfInBounds_toArray, List.set_cons_zero, List.set_cons_succ]
        go_simp
        exact ⟨rfl, HW.out.on 3 (by decide), .inr (Below.refl _ _)⟩
      · intro L f' x hL hw hd
        have r2 : f' 2 = .slice (some p) m2 cN2 := (hd _ (List.mem_cons_self ..)).2
        have r3 : f' 3 = .int .i64 q := (hd _ (List.mem_cons_of_mem _ (List.mem_cons_self ..))).2
        have HW := Lib.hid hw
        clear hw hd
        simp only [Rg.stepZ, Rg.but, Act.put, List.setIfInBounds_toArray, List.set_cons_zero, List.set_cons_succ]
        go_simp
        exact ⟨rfl, HW.out.on 4 (by decide), .inr (Below.refl _ _)⟩
      · intro L f' x hL hw hd
        have r4 : f' 4 = .pointer (some (p.add q)) := (hd _ (List.mem_cons_self ..)).2
        have hp := Bs.cell_up hw.bw.bel HPW.out
        have HW := Lib.hid hw
        clear hw hd
        simp only [Rg.stepZ, Rg.but, Act.put, List.setIfInBounds_toArray, List.set_cons_zero, List.set_cons_succ]
        go_simp
        exact ⟨rfl, HW.out.on 5 (by decide), .inr (Below.refl _ _)⟩
      · intro L f' x hL hw hd
        have HW := Lib.hid hw
        clear hw hd
        simp only [Rg.stepZ, Rg.but, Act.put, List.setIfInBounds_toArray, List.set_cons_zero, List.set_cons_succ]
        go_simp
        exact ⟨rfl, HW.out.on 6 (by decide), .inr (Below.refl _ _)⟩
      · intro L f' x hL hw hd
        have r6 : f' 6 = .pointer (some ⟨w.heap.size, 0, none⟩) := (hd _ (List.mem_cons_self ..)).2
        have c0 := hw.bw.pa.c0
        have HW := Lib.hid hw
        clear hw hd
        simp only [Rg.stepZ, Rg.but, Act.put, List.setIfInBounds_toArray, List.set_cons_zero, List.set_cons_succ]
        go_simp
        exact ⟨rfl, HW.out.on 7 (by decide), .inr (Below.refl _ _)⟩
      · intro L f' x hL hw hd
        have r5 : f' 5 = .slice ar nr cr := (hd _ (List.mem_cons_self ..)).2
        have r7 : f' 7 = .int .i64 n1 := (hd _ (List.mem_cons_of_mem _ (List.mem_cons_self ..))).2
        have hku := hw.ku
        have C := Lib.hid (refShift_any l n1 _ x (fun k => wr.heap.size ≤ k) (fun k hk => Nat.le_trans hku hk) (HROW.out.up hw.bw.bel) hsm.2 (fun y hy => ⟨(hsm.1 y hy).1, by have := (hsm.1 y hy).2; omega⟩) ⟨by omega, by omega⟩)
        have HW := Lib.hid hw
        clear hw hd
        simp only [Rg.stepZ, Rg.but, Act.put, List.setIfInBounds_toArray, List.set_cons_zero, List.set_cons_succ]
        go_simp
        refine C.out.mono ?_
        rintro e x1 ⟨vr, rfl, R, b⟩
        exact ⟨_, rfl, R, by simpa using (HW.out.up b).on 8 (by decide), .inr b⟩
      · intro L f' x hL hw hd
        have r8 : Nf.Row x (fun k => wr.heap.size ≤ k) (f' 8) (Nf.shift l n1) := (hd _ (List.mem_cons_self ..)).2
        obtain ⟨a8, n8, c8, e8⟩ := r8.form
        rw [e8] at r8
        have hku := hw.ku
        have HR8 := Lib.hid r8
        have HW := Lib.hid hw
        clear hw hd r8
        simp only [Rg.stepZ, Rg.but, Act.put, List.setIfInBounds_toArray, List.set_cons_zero, List.set_cons_succ]
        go_simp
        exact ⟨⟨x.heap.size, _, rfl, heap_alloc_new x _, HR8.out.up (Bs.below1 x _), fun e => by have := (HVK.out _ e).2; omega, rfl⟩, by simpa using (HW.out.up (Bs.below1 x _)).on 9 (by decide), .inr (Bs.below1 x _)⟩
      · intro L f' x hL hw hd
        have r0 : f' 0 = .slice av nv cv := (hd _ (List.mem_cons_self ..)).2
        obtain ⟨B, vr, r9, hB, hRv, hBo, hv1⟩ := (hd _ (List.mem_cons_of_mem _ (List.mem_cons_self ..))).2
        simp only [Rg.but, Act.put, List.setIfInBounds_toArray, List.set_cons_zero, List.set_cons_succ]
        have hnx := hw.nx hL
        obtain ⟨iI, hiI, hz0, hz1, hz2⟩ := info_parts Ng.infoRow
        have hXx : X ≤ x.heap.size := hw.bw.xu
        refine Rg.stepZ_append _ _ 61 rfl X 35 iI _ 1 24 Try.underlying61 hiI hz0 hz1 hz2 rfl (by decide) (.slice av nv cv) (rows1 ++ rs).length (rows1 ++ rs) r0 hnx.own ⟨B, 0, none⟩ 1 1 [vr] r9 rfl (World.news_of_block hB) (by simp [hv1]) (by decide) (by unfold maxLen; omega) (by omega) hXx ?_
        intro g cp x1 o1 o2 o3 o4
        have hgx : ∀ k, k < x.heap.size → some k ≠ (Value.slice av nv cv).ownBlock → k ≠ g := fun k hk hn e => by
          subst e
          rcases o3 with o3 | o3
          · exact hn o3.symm
          · omega
        have R1 : Nh.Rows x1 (fun k => X ≤ k ∧ some k ≠ (Value.slice (some ⟨g, 0, none⟩) ((rows1 ++ rs).length + 1) cp).ownBlock) rs NQ := by
          refine (hnx.rows.lt.grown o2 (fun k hk => hk.1.2)).mono (fun k hk => ⟨hk.1.1, fun e => ?_⟩)
          simp only [Value.ownBlock] at e
          injection e with e
          exact hgx k hk.2 hk.1.2 e
        have R2 : Nf.Row x1 (fun k => X ≤ k ∧ some k ≠ (Value.slice (some ⟨g, 0, none⟩) ((rows1 ++ rs).length + 1) cp).ownBlock) vr (Nf.shift l n1) := by
          refine (hRv.lt.grown o2 (fun k hk e => ?_)).mono (fun k hk => ⟨by omega, fun e => ?_⟩)
          · have := (HVK.out k e.symm).2; omega
          · simp only [Value.ownBlock] at e
            injection e with e
            exact hgx k hk.2 (fun e2 => by have := (HVK.out k e2.symm).2; omega) e
        refine ⟨⟨g, _, cp, rs ++ [vr], rfl, ⟨?_, R1.snoc R2⟩⟩, ⟨hw.bw.grown o2 (fun k hk => (HVK.out k hk).1), fun e => by simp at e, Nat.le_trans hw.ku o2.size⟩, .inl ⟨rfl, o2⟩⟩
        unfold Ng.Own
        rw [← List.append_assoc, show (rows1 ++ rs ++ [vr]).length = (rows1 ++ rs).length + 1 by rw [List.length_append]; rfl]
        exact o1
      · intro L f' x hall hw hR o ho
        obtain ⟨g, k, cp, rs', r10, NX10⟩ : Nh.NP X rows1 (NQ ++ [Nf.shift l n1]) (f' 10) x := hR 10 (by decide)
        simp at ho
        subst ho
        simp only [Rg.stepZ, Rg.but, Act.put, List.setIfInBounds_toArray, List.set_cons_zero, List.set_cons_succ]
        rw [r10] at NX10
        have HNX1 := Lib.hid NX10
        have HBW1 := Lib.hid hw.bw
        clear hw hR NX10
        go_simp
        go_wp2_with fail
        go_roundw
        case rel => exact ⟨q + 1, rs', by omega, by go_num, HBW1, by rw [HTK.out]; exact HNX1⟩
        case measure => simp [intOf]; omega
    · have hN : N2.take q = N2 := List.take_of_length_le (by rw [← HR2L.out]; omega)
      rw [hN] at HNX
      have hXw := HBW.out.xu
      have hA4 := HBW.out.hX
      have hAA := HBW.out.hA
      have f4 := HBW.out.pa.c4; have f4z := HBW.out.pa.z 4 (by decide)
      have g0 := HBW.out.pb.c0; have g0z := HBW.out.pb.z 0 (by decide)
      have k0 := HBW.out.pa.c0
      have g4 := HBW.out.pb.c4
      have hs2 := HS2.out.n
      have e8 : decide ((q : Int) < (m2 : Int)) = false := decide_eq_false (by omega)
      have e9 : decide (q < m2) = false := decide_eq_false hlt
      have i3 : IntKind.i64.wrap ((n2 : Int) + (n1 : Int)) = ((n2 + n1 : Nat) : Int) := by rw [IntWalk.i64_in _ (by omega)]; omega
      clear hN
      go_upto_region 10 with fail
      have PA9 := (HBW.out.pa.set4 (.slice av nv cv)).far (d := w.heap.size + 1) (i := 0) (by omega) (.int .i64 ((n2 : Int) + (n1 : Int)))
      have PB9 := (HBW.out.pb.far (d := w.heap.size) (i := 4) (by omega) (.slice av nv cv)).set0 ((n2 : Int) + (n1 : Int))
      have P19 : Nh.PB _ (w.heap.size + 1 + 1) _ _ _ _ _ := (HBW.out.p1.far (d := w.heap.size) (i := 4) (by omega) (.slice av nv cv)).far (d := w.heap.size + 1) (i := 0) (by omega) (.int .i64 ((n2 : Int) + (n1 : Int)))
      have P29 : Nh.PB _ (w.heap.size + 1 + 1 + 1) _ _ _ _ _ := (HBW.out.p2.far (d := w.heap.size) (i := 4) (by omega) (.slice av nv cv)).far (d := w.heap.size + 1) (i := 0) (by omega) (.int .i64 ((n2 : Int) + (n1 : Int)))
      have RF9 := ((HBW.out.rf.set (b := w.heap.size) (i := 4) (fun e => by have := e.1; omega) (.slice av nv cv)).set (b := w.heap.size + 1) (i := 0) (fun e => by have := e.1; omega) (.int .i64 ((n2 : Int) + (n1 : Int))))
      have RL9 := ((HBW.out.rl.set (b := w.heap.size) (i := 4) (fun e => by have := e.1; omega) (.slice av nv cv)).set (b := w.heap.size + 1) (i := 0) (fun e => by have := e.1; omega) (.int .i64 ((n2 : Int) + (n1 : Int))))
      have hnX : ∀ k, k < X → (Value.slice av nv cv).ownBlock ≠ some k := fun k hk e => by
        have := (World.ownsRow.lt HNX.out.own k e).1
        omega
      have ON9 : Ng.Own X (.slice av nv cv) (rows1 ++ rs) ((wr.setCell ⟨w.heap.size, 4, none⟩ (.slice av nv cv)).setCell ⟨w.heap.size + 1, 0, none⟩ (.int .i64 ((n2 : Int) + (n1 : Int)))) := ownsRow_setCell_other (ownsRow_setCell_other HNX.out.own (a := ⟨w.heap.size, 4, none⟩) (hnX w.heap.size (by omega)) _) (a := ⟨w.heap.size + 1, 0, none⟩) (hnX (w.heap.size + 1) (by omega)) _
      have RR9 := (HNX.out.rows.set (b := w.heap.size) (i := 4) (fun e => by have := e.1; omega) (.slice av nv cv)).set (b := w.heap.size + 1) (i := 0) (fun e => by have := e.1; omega) (.int .i64 ((n2 : Int) + (n1 : Int)))
      have BE9 := (HBW.out.bel.setCell (p := ⟨w.heap.size, 4, none⟩) (Nat.le_refl _) (.slice av nv cv)).setCell (p := ⟨w.heap.size + 1, 0, none⟩) (by simp) (.int .i64 ((n2 : Int) + (n1 : Int)))
      generalize (wr.setCell ⟨w.heap.size, 4, none⟩ (.slice av nv cv)).setCell ⟨w.heap.size + 1, 0, none⟩ (.int .i64 ((n2 : Int) + (n1 : Int))) = U9 at *
      have HRF := Lib.hid RF9; have HRL := Lib.hid RL9; have HON := Lib.hid ON9; have HRR := Lib.hid RR9; have HBE := Lib.hid BE9
      have a0 := PA9.c0; have a1 := PA9.c1; have a2 := PA9.c2; have a3 := PA9.c3; have a4 := PA9.c4
      have b0 := PB9.c0; have b1 := PB9.c1; have b2 := PB9.c2; have b3 := PB9.c3; have b4 := PB9.c4
      have s0 := P19.c0; have s1 := P19.c1; have s2 := P19.c2; have s3 := P19.c3; have s4 := P19.c4
      have t0 := P29.c0; have t1 := P29.c1; have t2 := P29.c2; have t3 := P29.c3; have t4 := P29.c4
      have y0 := P19.z 0 (by decide); have y1 := P19.z 1 (by decide); have y2 := P19.z 2 (by decide); have y3 := P19.z 3 (by decide); have y4 := P19.z 4 (by decide)
      have z0 := P29.z 0 (by decide); have z1 := P29.z 1 (by decide); have z2 := P29.z 2 (by decide); have z3 := P29.z 3 (by decide); have z4 := P29.z 4 (by decide)
      clear PA9 PB9 P19 P29 RF9 RL9 ON9 RR9 BE9 f4 f4z g0 g0z k0 g4
      go_region
      go_wp2_with fail
      refine bodyPost_ret (v := .tuple #[.agg #[.int .i64 n1, .slice aF1 mF1 cF1, .slice aL1 mL1 cL1, .bool e1, .slice av nv cv], .agg #[.int .i64 (n2 + n1 : Nat), .slice a5 n5 c5, .slice a6 n6 c6, .bool e2, .slice aN2 m2 cN2]]) (by simp [results, Try.results69, go_sem, s0, s1, s2, s3, s4, t0, t1, t2, t3, t4]) rfl ?_
      have hsame0 : ∀ k, k ≠ w.heap.size + 1 + 1 → k ≠ w.heap.size + 1 + 1 + 1 → (Nh.put (Nh.put U9 (w.heap.size + 1 + 1) n1 (.slice aF1 mF1 cF1) (.slice aL1 mL1 cL1) e1 (.slice av nv cv)) (w.heap.size + 1 + 1 + 1) ((n2 : Int) + (n1 : Int)) (.slice a5 n5 c5) (.slice a6 n6 c6) e2 (.slice aN2 m2 cN2)).heap[k]? = U9.heap[k]? := fun k h1 h2 => by rw [Nh.put_far _ _ _ _ _ _ _ _ h2, Nh.put_far _ _ _ _ _ _ _ _ h1]
      have hbel0 : Below w.heap.size w (Nh.put (Nh.put U9 (w.heap.size + 1 + 1) n1 (.slice aF1 mF1 cF1) (.slice aL1 mL1 cL1) e1 (.slice av nv cv)) (w.heap.size + 1 + 1 + 1) ((n2 : Int) + (n1 : Int)) (.slice a5 n5 c5) (.slice a6 n6 c6) e2 (.slice aN2 m2 cN2)) := Nh.put_below (Nh.put_below HBE.out (by omega) _ _ _ _ _) (by omega) _ _ _ _ _
      have hnX : ∀ k, (Value.slice av nv cv).ownBlock = some k → X ≤ k := fun k e => (World.ownsRow.lt HON.out k e).1
      have hunf : (Nh.put (Nh.put U9 (w.heap.size + 1 + 1) n1 (.slice aF1 mF1 cF1) (.slice aL1 mL1 cL1) e1 (.slice av nv cv)) (w.heap.size + 1 + 1 + 1) ((n2 : Int) + (n1 : Int)) (.slice a5 n5 c5) (.slice a6 n6 c6) e2 (.slice aN2 m2 cN2)) = ((((((((((U9.setCell ⟨w.heap.size + 1 + 1, 0, none⟩ (.int .i64 (n1 : Int))).setCell ⟨w.heap.size + 1 + 1, 1, none⟩ (.slice aF1 mF1 cF1)).setCell ⟨w.heap.size + 1 + 1, 2, none⟩ (.slice aL1 mL1 cL1)).setCell ⟨w.heap.size + 1 + 1, 3, none⟩ (.bool e1)).setCell ⟨w.heap.size + 1 + 1, 4, none⟩ (.slice av nv cv)).setCell ⟨w.heap.size + 1 + 1 + 1, 0, none⟩ (.int .i64 ((n2 : Int) + (n1 : Int)))).setCell ⟨w.heap.size + 1 + 1 + 1, 1, none⟩ (.slice a5 n5 c5)).setCell ⟨w.heap.size + 1 + 1 + 1, 2, none⟩ (.slice a6 n6 c6)).setCell ⟨w.heap.size + 1 + 1 + 1, 3, none⟩ (.bool e2)).setCell ⟨w.heap.size + 1 + 1 + 1, 4, none⟩ (.slice aN2 m2 cN2)) := by rw [Nh.put_def, Nh.put_def]
      rw [← hunf]
      clear hunf
      generalize (Nh.put (Nh.put U9 (w.heap.size + 1 + 1) n1 (.slice aF1 mF1 cF1) (.slice aL1 mL1 cL1) e1 (.slice av nv cv)) (w.heap.size + 1 + 1 + 1) ((n2 : Int) + (n1 : Int)) (.slice a5 n5 c5) (.slice a6 n6 c6) e2 (.slice aN2 m2 cN2)) = V at *
      have hsame : ∀ k, k ≠ w.heap.size + 1 + 1 → k ≠ w.heap.size + 1 + 1 + 1 → V.drew.heap[k]? = U9.heap[k]? := hsame0
      refine ⟨.slice a5 n5 c5, .slice a6 n6 c6, .slice av nv cv, rs, rfl, ?_, ?_, ?_, ?_, hbel0.drew⟩
      · exact (Nh.row_same HRF.out (fun k hk => hsame k (by omega) (by omega))).mono (fun k hk => ⟨by omega, fun e => by have := hnX k e.symm; omega⟩)
      · exact (Nh.row_same HRL.out (fun k hk => hsame k (by omega) (by omega))).mono (fun k hk => ⟨by omega, fun e => by have := hnX k e.symm; omega⟩)
      · exact World.ownsRow.mono (Nh.own_same HON.out (fun k hk => hsame k (by have := hnX k hk; omega) (by have := hnX k hk; omega))) (by omega)
      · exact (Nh.Rows.same HRR.out (fun k hk => hsame k (by have := hk.1; omega) (by have := hk.1; omega))).mono (fun k hk => ⟨by have := hk.1; omega, hk.2⟩)
end Go.Proofs.Ytnbbepgjpfhjdaa
namespace Go.Proofs.Ytnbbepgjpfhjdaa
set_option linter.unusedVariables false
set_option linter.unusedSimpArgs false
def Rg.textW (ops : Array Oper) : Bool :=
  ops.toList.zipIdx.all fun (o, i) => o.guard.isNone && (match o.op with | .select .. => false | _ => true) &&
    (o.after.toList.all fun e => !(Region.binds .any e) || decide (e.on < i)) &&
    (ops.toList.zipIdx.all fun (o', j) => i == j || (match o.dst with | none => true | some d => !(o'.dst == some d))) &&
    (o.op.operands.toList.all fun x => match x with
      | .tmp t => ops.toList.zipIdx.all fun (o', j) => !(o'.dst == some t) || o.after.toList.any fun e => e.on == j && Region.binds .any e
      | _ => true)
def Rg.StepsW (P : Program) (Rel : Nat → Value → World → Prop) (W : World → Prop) (M : World → World → Prop) (ρ : (Nat → Value) → Operand → Value) : List Oper → Nat → Prop
  | [], _ => True
  | o :: r, i => (∀ (f : Nat → Value) (w : World), W w → (∀ e ∈ o.after.toList, Region.binds .any e = true → Rel e.on (f e.on) w) → Rg.step P (ρ f) o w fun v w' => Rel i v w' ∧ W w' ∧ M w w') ∧ Rg.StepsW P Rel W M ρ r (i + 1)
theorem Rg.StepsW.get {P : Program} {Rel : Nat → Value → World → Prop} {W : World → Prop} {M : World → World → Prop} {ρ : (Nat → Value) → Operand → Value} : ∀ {l : List Oper} {i : Nat}, Rg.StepsW P Rel W M ρ l i → ∀ j o, l[j]? = some o → ∀ (f : Nat → Value) (w : World), W w → (∀ e ∈ o.after.toList, Region.binds .any e = true → Rel e.on (f e.on) w) → Rg.step P (ρ f) o w fun v w' => Rel (i + j) v w' ∧ W w' ∧ M w w'
  | [], _, _, j, o, h => by simp at h
  | o' :: r, i, hs, j, o, h => by
    cases j with
    | zero => simp at h; subst h; exact hs.1
    | succ j =>
      have := Rg.StepsW.get hs.2 j o (by simpa using h)
      rwa [show i + 1 + j = i + (j + 1) by omega] at this
theorem Rg.textW_get {ops : Array Oper} (h : Rg.textW ops = true) {i : Nat} {o : Oper} (ho : ops[i]? = some o) :
    o.guard = none ∧ (∀ cs b, o.op ≠ .select cs b) ∧ (∀ e ∈ o.after, Region.binds .any e = true → e.on < i) ∧ (∀ j o' d, ops[j]? = some o' → i ≠ j → o.dst = some d → o'.dst ≠ some d) ∧
      (∀ t, .tmp t ∈ o.op.operands → ∀ j o', ops[j]? = some o' → o'.dst = some t → ∃ e ∈ o.after, e.on = j ∧ Region.binds .any e = true) := by
  unfold Rg.textW at h
  rw [List.all_eq_true] at h
  have hmem : ∀ {j : Nat} {o' : Oper}, ops[j]? = some o' → (o', j) ∈ ops.toList.zipIdx := fun {j o'} h => by
    rw [List.mem_zipIdx_iff_getElem?]; simpa using h
  have := h (o, i) (hmem ho)
  simp only [Bool.and_eq_true] at this
  obtain ⟨⟨⟨⟨h1, h2⟩, h3⟩, h4⟩, h5⟩ := this
  refine ⟨by simpa using h1, ?_, ?_, ?_, ?_⟩
  · intro cs b e
    rw [e] at h2
    simp at h2
  · intro e he
    rw [List.all_eq_true] at h3
    have := h3 e (by simpa using he)
    intro hbi
    rw [hbi] at this
    simpa using this
  · intro j o' d hj hij hd e
    rw [List.all_eq_true] at h4
    have := h4 (o', j) (hmem hj)
    simp [hd, e, hij] at this
  · intro t ht j o' hj hd
    rw [List.all_eq_true] at h5
    have := h5 (.tmp t) (by simpa using ht)
    simp only [List.all_eq_true] at this
    have := this (o', j) (hmem hj)
    simp only [hd, beq_self_eq_true, Bool.not_true, Bool.false_or, List.any_eq_true] at this
    obtain ⟨e, he1, he2⟩ := this
    simp only [Bool.and_eq_true, beq_iff_eq] at he2
    exact ⟨e, by simpa using he1, he2.1, he2.2⟩
theorem Rg.apart_ofW {ops : Array Oper} (h : Rg.textW ops = true) : Rg.apart ops.toList := by
  have key : ∀ (l : List Oper) (i : Nat), ops.toList.drop i = l → Rg.apart l := by
    intro l
    induction l with
    | nil => intro i _; trivial
    | cons o r ih =>
      intro i hi
      have hget : ∀ j o', (o :: r)[j]? = some o' → ops[i + j]? = some o' := fun j o' hj => by
        rw [← hi, List.getElem?_drop] at hj
        simpa using hj
      refine ⟨?_, ih (i + 1) ?_⟩
      · intro o' ho' d hd
        obtain ⟨j, hj⟩ := List.getElem?_of_mem ho'
        exact (Rg.textW_get h (hget 0 o rfl)).2.2.2.1 (i + (j + 1)) o' d (hget (j + 1) o' (by simpa using hj)) (by omega) hd
      · have := congrArg (List.drop 1) hi
        rw [List.drop_drop] at this
        simpa [Nat.add_comm] using this
  exact key _ 0 (by simp)
end Go.Proofs.Ytnbbepgjpfhjdaa
