/- What the walk's meet answers, walked. -/
import Derived.Test.YthapedadnbkgnaaG24
import Derived.Test.YthapedadnbkgnaaG4
namespace Go.Proofs.Ythapedadnbkgnaa
set_option linter.unusedVariables false
set_option linter.unusedSimpArgs false
open Go.RowKit
def Df.MPost (w0 : World) (r b gx rm : Nat) (vb : Value) (l : List Rx) (st : Nat) (vF : Value) (F : List Df.Fr) (nx : List (List Nat)) (f : Df.Fr) (u : World) (e : Ending) (u' : World) : Prop :=
  ∃ vF' vs', e = .returned (.int .i64 (Df.idx F f : Nat)) ∧ Df.WK w0 r b gx rm vb l st ((Df.meet F f).map Df.ft) vF' (Df.meet F f) vs' nx u' ∧ Ng.Only u u' (Df.Wr r b vF) ∧ Df.Nx vF vF' u.heap.size
structure Df.B3 (u : World) (B : Nat) (v1 v2 v3 : Value) : Prop where
  p0 : u.cell? ⟨B, 0, none⟩ = some v1
  p1 : u.cell? ⟨B, 1, none⟩ = some v2
  p2 : u.cell? ⟨B, 2, none⟩ = some v3
theorem Df.B3.up {u u' : World} {B : Nat} {v1 v2 v3 : Value} (h : Df.B3 u B v1 v2 v3) (hb : Below u.heap.size u u') : Df.B3 u' B v1 v2 v3 := ⟨Bs.cell_up hb h.p0, Bs.cell_up hb h.p1, Bs.cell_up hb h.p2⟩
theorem Df.B3.grown {u u' : World} {B : Nat} {v1 v2 v3 : Value} {row : Option Nat} (h : Df.B3 u B v1 v2 v3) (hg : u.grownBy u' row) (hr : some B ≠ row) : Df.B3 u' B v1 v2 v3 := ⟨hg.cell h.p0 hr, hg.cell h.p1 hr, hg.cell h.p2 hr⟩
theorem Df.B3.lt {u : World} {B : Nat} {v1 v2 v3 : Value} (h : Df.B3 u B v1 v2 v3) : B < u.heap.size := World.block_lt_of_cell? u _ h.p0
theorem Df.b3_new (w : World) (v1 v2 v3 : Value) (t : TypeId) : Df.B3 (w.alloc (.cells #[v1, v2, v3] t)) w.heap.size v1 v2 v3 := ⟨by simp [go_sem], by simp [go_sem], by simp [go_sem]⟩
structure Df.W2 (U : World) (r b B : Nat) (v1 v2 : Value) (ks : List (List Nat)) (t : List Nat) (L : Nat → Bool) (u : World) : Prop where
  c1 : u.cell? ⟨r, 1, none⟩ = some (.map (some b))
  p : Df.B3 u B v1 v2 (.slice none 0 0)
  is : L 6 = false → Below U.heap.size U u
  on : L 6 = true → ∃ x, Below U.heap.size U x ∧ x.grownBy u (some b) ∧ Df.Nm u b (Df.meet ks t)
  d5 : L 6 = true → L 5 = true
theorem Df.W2.on' {U : World} {r b B : Nat} {v1 v2 : Value} {ks : List (List Nat)} {t : List Nat} {L : Nat → Bool} {u : World} (h : Df.W2 U r b B v1 v2 ks t L u) (j : Nat) (h6 : j ≠ 6) : Df.W2 U r b B v1 v2 ks t (fun k => decide (k = j) || L k) u :=
  ⟨h.c1, h.p, fun e => h.is (by simpa [Ne.symm h6] using e), fun e => h.on (by simpa [Ne.symm h6] using e), fun e => by simp [h.d5 (by simpa [Ne.symm h6] using e)]⟩
theorem Df.W2.up {U : World} {r b B : Nat} {v1 v2 : Value} {ks : List (List Nat)} {t : List Nat} {L : Nat → Bool} {u u' : World} (h : Df.W2 U r b B v1 v2 ks t L u) (h6 : L 6 = false) (hb : Below u.heap.size u u') : Df.W2 U r b B v1 v2 ks t L u' :=
  ⟨Bs.cell_up hb h.c1, h.p.up hb, fun e => Bs.below_up (h.is e) hb, fun e => (by rw [h6] at e; cases e), h.d5⟩
theorem Df.W2.num {U : World} {r b B : Nat} {v1 v2 : Value} {ks : List (List Nat)} {t : List Nat} {L : Nat → Bool} {u u' : World} (h : Df.W2 U r b B v1 v2 ks t L u) (h6 : L 6 = false) (h5 : L 5 = true) (hrb : r ≠ b) (hB : B ≠ b) (hg : u.grownBy u' (some b)) (hm : Df.Nm u' b (Df.meet ks t)) : Df.W2 U r b B v1 v2 ks t (fun k => decide (k = 6) || L k) u' :=
  ⟨hg.cell h.c1 (fun e => hrb (by injection e)), h.p.grown hg (fun e => hB (by injection e)), fun e => by simp at e, fun _ => ⟨u, h.is h6, hg, hm⟩, fun _ => by simp [h5]⟩
def Df.FB1 (vF v1 v2 : Value) (v : Value) (u : World) : Prop := ∃ B, v = .slice (some ⟨B, 0, none⟩) 1 1 ∧ u.heap[B]? = some (.cells #[v1, v2, .slice none 0 0] 119) ∧ vF.ownBlock ≠ some B
def Df.FP (base : Nat) (U : World) (vF : Value) (vs : List (Value × Value × Value)) (v1 v2 : Value) (v : Value) (u : World) : Prop :=
  ∃ (x : World) (g cap : Nat), v = .slice (some ⟨g, 0, none⟩) (vs.length + 1) cap ∧ Below U.heap.size U x ∧ x.grownBy u vF.ownBlock ∧ u.ownsRow base 119 3 v (vs.length + 1) (Df.cells vs ++ [v1, v2, .slice none 0 0]) ∧ (vF.ownBlock = some g ∨ g = x.heap.size)
theorem Df.FP.up {base : Nat} {U : World} {vF : Value} {vs : List (Value × Value × Value)} {v1 v2 : Value} {v : Value} {u u' : World} (h : Df.FP base U vF vs v1 v2 v u) (hb : Below u.heap.size u u') : Df.FP base U vF vs v1 v2 v u' := by
  obtain ⟨x, g, cap, e, h1, h2, h3, h4⟩ := h
  exact ⟨x, g, cap, e, h1, Ng.grown_up h2 hb, Bs.row_up h3 hb, h4⟩
def Df.MZ (vO : Value) (j : Nat) (k : Nat) (u u' : World) : Prop := (k = j ∧ (u.grownBy u' vO.ownBlock)) ∨ Below u.heap.size u u'
def Df.relF (r : Nat) (vF v1 v2 : Value) (P : Value → World → Prop) : List (Value → World → Prop) :=
  [fun v _ => v = .pointer (some ⟨r, 0, none⟩), fun v _ => v = .pointer (some ⟨r, 0, none⟩), fun v _ => v = .pointer (some ⟨r, 0, none⟩), fun v _ => v = .pointer (some ⟨r, 3, none⟩), fun v _ => v = vF,
   fun v _ => v = .agg #[v1, v2, .slice none 0 0], Df.FB1 vF v1 v2, P, fun v _ => v = .pointer (some ⟨r, 0, none⟩), fun v _ => v = .pointer (some ⟨r, 3, none⟩)]
theorem Df.relF_up {r : Nat} {vF v1 v2 : Value} {P : Value → World → Prop} (hP : ∀ v u u', P v u → Below u.heap.size u u' → P v u') {k j : Nat} {v : Value} {w w' : World} (hjk : j ≠ k) (h : Rg.rel (Df.relF r vF v1 v2 P) j v w) (hb : Df.MZ vF 7 k w w') : Rg.rel (Df.relF r vF v1 v2 P) j v w' := by
  match j, h with
  | 0, h => exact h
  | 1, h => exact h
  | 2, h => exact h
  | 3, h => exact h
  | 4, h => exact h
  | 5, h => exact h
  | 6, h =>
    obtain ⟨B, e, h1, h2⟩ := h
    refine ⟨B, e, ?_, h2⟩
    have hB : B < w.heap.size := (Array.getElem?_eq_some_iff.1 h1).1
    rcases hb with ⟨_, hg⟩ | hb
    · rw [hg.block B hB (fun e => h2 e.symm)]; exact h1
    · rw [hb.block B hB]; exact h1
  | 7, h =>
    rcases hb with ⟨e, _⟩ | hb
    · exact absurd e.symm hjk
    · exact hP _ _ _ h hb
  | 8, h => exact h
  | 9, h => exact h
  | n + 10, h => exact h
structure Df.W4 (U : World) (r : Nat) (vF : Value) (L : Nat → Bool) (u : World) : Prop where
  c3 : u.cell? ⟨r, 3, none⟩ = some vF
  z3 : u.frozen? ⟨r, 3, none⟩ = false
  is : L 7 = false → Below U.heap.size U u
  d6 : L 7 = true → L 6 = true
  d5 : L 6 = true → L 5 = true
theorem Df.W4.on {U : World} {r : Nat} {vF : Value} {L : Nat → Bool} {u : World} (h : Df.W4 U r vF L u) (j : Nat) (h7 : j ≠ 7) (h6 : j = 6 → L 5 = true) : Df.W4 U r vF (fun k => decide (k = j) || L k) u :=
  ⟨h.c3, h.z3, fun e => h.is (by simpa [Ne.symm h7] using e), fun e => by simp [h.d6 (by simpa [Ne.symm h7] using e)], fun e => by
    by_cases h8 : j = 6
    · simp [h6 h8]
    · simp [h.d5 (by simpa [Ne.symm h8] using e)]⟩
theorem Df.W4.up {U : World} {r : Nat} {vF : Value} {L : Nat → Bool} {u u' : World} (h : Df.W4 U r vF L u) (hb : Below u.heap.size u u') : Df.W4 U r vF L u' :=
  ⟨Bs.cell_up hb h.c3, by rw [hb.frozen (World.block_lt_of_cell? u _ h.c3)]; exact h.z3, fun e => Bs.below_up (h.is e) hb, h.d6, h.d5⟩
theorem Df.ks_meet {l : List Rx} (hl : Nf.onesL l ≤ 2000) (hn : l.length ≤ 1000) {F : List Df.Fr} (hF : ∀ f ∈ F, Df.FOk l f) {f : Df.Fr} (hf : Df.FOk l f) : Df.meet (F.map Df.ft) (Df.ft f) = (Df.meet F f).map Df.ft ∧ Df.idx (F.map Df.ft) (Df.ft f) = Df.idx F f := by
  have h := Df.map_meet Df.ft F f (fun y hy e => Df.ft_inj (by omega) (by omega) (hF y hy) hf e)
  exact ⟨h.1.symm, h.2⟩
theorem Df.only_refl (u : World) (p : Nat → Prop) : Ng.Only u u p := ⟨rfl, rfl, rfl, Nat.le_refl _, fun _ _ _ => rfl⟩
theorem Df.Only.trans' {u x u' : World} {p q : Nat → Prop} (h : Ng.Only u x p) (h' : Ng.Only x u' q) (hq : ∀ k, k < u.heap.size → q k → p k) : Ng.Only u u' p :=
  ⟨h'.os.trans h.os, h'.tape.trans h.tape, h'.output.trans h.output, Nat.le_trans h.size h'.size, fun k hk hp => (h'.block k (Nat.lt_of_lt_of_le hk h.size) (fun e => hp (hq k hk e))).trans (h.block k hk hp)⟩
theorem Df.only_below {u u' : World} (h : Below u.heap.size u u') (p : Nat → Prop) : Ng.Only u u' p := ⟨h.os, h.tape, h.output, h.size, fun k hk _ => h.block k hk⟩
theorem Nh.ff' {b : Bool} (h : ¬ b = true) : b = false := by cases b <;> simp_all
set_option maxRecDepth 100000 in
set_option maxHeartbeats 2000000 in
theorem meetW_any (w0 : World) (r b gx rm : Nat) (vb : Value) (l : List Rx) (st : Nat) (vF : Value) (F : List Df.Fr) (vs : List (Value × Value × Value)) (nx : List (List Nat)) (u : World) (h : Df.WK w0 r b gx rm vb l st (F.map Df.ft) vF F vs nx u)
    (hl : Nf.onesL l ≤ 2000) (hn : l.length ≤ 1000) (hF : F.length ≤ 10000) (f : Df.Fr) (hok : Df.FOk l f) (v1 v2 : Value) (q1 : Nf.Row u (Df.K r b gx vF) v1 f.1) (q2 : Nf.Row u (Df.K r b gx vF) v2 f.2) :
    Calls Try.prog 50 #[.pointer (some ⟨r, 0, none⟩), .agg #[v1, v2]] u (Df.MPost w0 r b gx rm vb l st vF F nx f u) := by
  obtain ⟨a1, n1, c1, rfl⟩ := q1.form
  obtain ⟨a2, n2, c2, rfl⟩ := q2.form
  have B1 := Bs.below1 u (.cells #[.slice a1 n1 c1, .slice a2 n2 c2] 115)
  have B2 := Bs.below_up B1 (Bs.below1 _ (.cells #[.slice a1 n1 c1, .slice a2 n2 c2, .slice none 0 0] 119))
  have P0 := Df.b3_new (u.alloc (.cells #[.slice a1 n1 c1, .slice a2 n2 c2] 115)) (.slice a1 n1 c1) (.slice a2 n2 c2) (.slice none 0 0) 119
  have es1 : (u.alloc (.cells #[.slice a1 n1 c1, .slice a2 n2 c2] 115)).heap.size = u.heap.size + 1 := by simp
  rw [es1] at P0
  have HB2 := Lib.hid B2
  have HP := Lib.hid P0
  have HWK := Lib.hid (h.up B2)
  have HQ1 := Lib.hid (q1.up B2)
  have HQ2 := Lib.hid (q2.up B2)
  have HU := Lib.hid h
  have hul := h.lt
  have hbl := h.nm.lt
  have HB5 := Lib.hid (show u.heap.size + 1 ≠ b ∧ u.heap.size + 1 ≠ r ∧ vF.ownBlock ≠ some (u.heap.size + 1) from ⟨by omega, by omega, fun e => by have := (h.flt _ e).2; omega⟩)
  have HKS := Lib.hid (Df.ks_meet hl hn h.ok hok)
  have HTX := Lib.hid (Df.key_ok (l := l) (by omega) (by omega) hok)
  have HTL := Lib.hid (show f.1.length + f.2.length ≤ 50000 by have := hok.1; have := hok.2.1; omega)
  have HLN := Lib.hid h.rw'.len
  clear h q1 q2 B1 B2 P0 es1 hul hbl
  go_enter Try.func50, Try.ntmps50
  go_upto_region 2 with fail
  generalize (u.alloc (.cells #[.slice a1 n1 c1, .slice a2 n2 c2] 115)).alloc (.cells #[.slice a1 n1 c1, .slice a2 n2 c2, .slice none 0 0] 119) = U at *
  generalize hB5 : u.heap.size + 1 = B5 at *
  clear hB5
  have W0 : Df.W2 U r b B5 (.slice a1 n1 c1) (.slice a2 n2 c2) (F.map Df.ft) (Df.ft f) (fun _ => false) U.drew := ⟨HWK.out.c1, ⟨HP.out.p0, HP.out.p1, HP.out.p2⟩, fun _ => (Below.refl _ _).drew, fun e => (by cases e), fun e => (by cases e)⟩
  refine Rg.regionZ (by kernel_rfl) (by kernel_rfl) (by kernel_rfl) (by decide) (Rg.rel [fun v _ => v = .pointer (some ⟨r, 0, none⟩), fun v _ => v = .pointer (some ⟨r, 0, none⟩), fun v _ => v = .pointer (some ⟨r, 1, none⟩), fun v _ => v = .map (some b), fun v _ => v = .agg #[.slice a1 n1 c1, .slice a2 n2 c2, .slice none 0 0], fun v _ => v = .string (Df.str (Df.ft f)), fun v _ => v = .int .i64 (Df.idx F f : Nat)]) (Df.W2 U r b B5 (.slice a1 n1 c1) (.slice a2 n2 c2) (F.map Df.ft) (Df.ft f)) (fun _ _ _ => True) (fun _ _ => False) (fun c b x _ h => h.elim) (fun i j v w w' hij h hb => by
    match j, h with
    | 0, h => exact h
    | 1, h => exact h
    | 2, h => exact h
    | 3, h => exact h
    | 4, h => exact h
    | 5, h => exact h
    | 6, h => exact h
    | n + 7, h => exact h) W0 ⟨?_, ?_, ?_, ?_, ?_, ?_, ?_, trivial⟩ ?_
  · intro L f' x hL hw hd
    have HW := Lib.hid hw
    clear hw hd
    simp only [Rg.stepZ, Rg.all, Act.put, List.setIfInBounds_toArray, List.set_cons_zero, List.set_cons_succ]
    go_simp
    exact ⟨rfl, HW.out.on' 0 (by decide)⟩
  · intro L f' x hL hw hd
    have r0 : f' 0 = .pointer (some ⟨r, 0, none⟩) := (hd _ (List.mem_cons_self ..)).2
    have HW := Lib.hid hw
    clear hw hd
    simp only [Rg.stepZ, Rg.all, Act.put, List.setIfInBounds_toArray, List.set_cons_zero, List.set_cons_succ]
    go_simp
    exact ⟨rfl, HW.out.on' 1 (by decide)⟩
  · intro L f' x hL hw hd
    have r1 : f' 1 = .pointer (some ⟨r, 0, none⟩) := (hd _ (List.mem_cons_self ..)).2
    have HW := Lib.hid hw
    clear hw hd
    simp only [Rg.stepZ, Rg.all, Act.put, List.setIfInBounds_toArray, List.set_cons_zero, List.set_cons_succ]
    go_simp
    exact ⟨rfl, HW.out.on' 2 (by decide)⟩
  · intro L f' x hL hw hd
    have r2 : f' 2 = .pointer (some ⟨r, 1, none⟩) := (hd _ (List.mem_cons_self ..)).2
    have c1' := hw.c1
    have HW := Lib.hid hw
    clear hw hd
    simp only [Rg.stepZ, Rg.all, Act.put, List.setIfInBounds_toArray, List.set_cons_zero, List.set_cons_succ]
    go_simp
    exact ⟨rfl, HW.out.on' 3 (by decide)⟩
  · intro L f' x hL hw hd
    have p0 := hw.p.p0
    have p1 := hw.p.p1
    have p2 := hw.p.p2
    have HW := Lib.hid hw
    clear hw hd
    simp only [Rg.stepZ, Rg.all, Act.put, List.setIfInBounds_toArray, List.set_cons_zero, List.set_cons_succ]
    go_simp
    exact ⟨rfl, HW.out.on' 4 (by decide)⟩
  · intro L f' x hL hw hd
    have r4 : f' 4 = .agg #[.slice a1 n1 c1, .slice a2 n2 c2, .slice none 0 0] := (hd _ (List.mem_cons_self ..)).2
    have h6 : L 6 = false := Nh.ff' (fun e => by rw [hw.d5 e] at hL; cases hL)
    have hbx := hw.is h6
    have C := Lib.hid (frontText_any f.1 f.2 (.slice a1 n1 c1) (.slice a2 n2 c2) (.slice none 0 0) x ((HQ1.out.up hbx).mono (fun _ _ => trivial)) ((HQ2.out.up hbx).mono (fun _ _ => trivial)) ⟨_, _, _, rfl⟩ HTX.out HTL.out)
    have HW := Lib.hid hw
    have H6 := Lib.hid h6
    clear hw hd h6 hbx
    simp only [Rg.stepZ, Rg.all, Act.put, List.setIfInBounds_toArray, List.set_cons_zero, List.set_cons_succ]
    go_simp
    refine C.out.mono ?_
    rintro e x1 ⟨rfl, b1⟩
    exact ⟨_, rfl, rfl, (HW.out.up H6.out b1).on' 5 (by decide)⟩
  · intro L f' x hL hw hd
    have r3 : f' 3 = .map (some b) := (hd _ (List.mem_cons_self ..)).2
    have r5 : f' 5 = .string (Df.str (Df.ft f)) := (hd _ (List.mem_cons_of_mem _ (List.mem_cons_self ..))).2
    have h5 : L 5 = true := (hd _ (List.mem_cons_of_mem _ (List.mem_cons_self ..))).1
    have hbx := hw.is hL
    have C := Lib.hid (number_any x b (F.map Df.ft) (Df.ft f) ((HWK.out.up hbx).nm) (Df.text_by _) (by unfold Df.ft; rw [Df.text_len]; have := HTL.out; simp only [Df.key, List.length_append, List.length_singleton]; unfold maxLen; omega) (by rw [List.length_map]; omega))
    have HW := Lib.hid hw
    have HL := Lib.hid hL
    have H5 := Lib.hid h5
    clear hw hd hbx hL h5
    simp only [Rg.stepZ, Rg.all, Act.put, List.setIfInBounds_toArray, List.set_cons_zero, List.set_cons_succ]
    go_simp
    refine C.out.mono ?_
    rintro e x1 ⟨rfl, hm, hg⟩
    exact ⟨_, rfl, by rw [HKS.out.2]; rfl, HW.out.num HL.out H5.out HWK.out.rb HB5.out.1 hg hm⟩
  · intro Lz f' y hall hw hR o ho
    have r6 : f' 6 = .int .i64 (Df.idx F f : Nat) := hR 6 (by decide)
    simp at ho
    subst ho
    simp only [Rg.stepZ, Rg.all, Act.put, List.setIfInBounds_toArray, List.set_cons_zero, List.set_cons_succ]
    obtain ⟨x, hb2, hg, hm⟩ := hw.on (hall 6 (by decide))
    have HK2 := Lib.hid ((HWK.out.up hb2).num hm hg)
    have HO2 : Hid (Ng.Only u y (Df.Wr r b vF)) := Lib.hid (Df.Only.trans' (Df.only_below (Bs.below_up HB2.out hb2) _) (Df.WK.only_num (r := r) (vF := vF) hg) (fun _ _ h => h))
    have HP2 := Lib.hid ((HP.out.up hb2).grown hg (fun e => HB5.out.1 (by injection e)))
    have HR1 := Lib.hid ((HQ1.out.up hb2).grown hg (fun k hk e => hk.2.1 (by injection e)))
    have HR2 := Lib.hid ((HQ2.out.up hb2).grown hg (fun k hk e => hk.2.1 (by injection e)))
    have hsz : u.heap.size ≤ y.heap.size := HO2.out.size
    have c3 := HK2.out.c3
    clear hw hR hm hg hb2 hall
    generalize f' 0 = t0 at *
    generalize f' 1 = t1 at *
    generalize f' 2 = t2 at *
    generalize f' 3 = t3 at *
    generalize f' 4 = t4 at *
    generalize f' 5 = t5 at *
    obtain ⟨aF, nF, cF, rfl⟩ : ∃ a n c, vF = .slice a n c := by
      rcases HK2.out.of.2 with ⟨e, _⟩ | ⟨g, cap, cur, e, _⟩
      · exact ⟨_, _, _, e⟩
      · exact ⟨_, _, _, e⟩
    have hnF : nF = F.length := by rw [← HLN.out]; exact (HK2.out.at).1
    have HNF := Lib.hid hnF
    have hnF5 : nF ≤ 10000 := by omega
    by_cases hmem : f ∈ F
    · have hlt := Df.idx_lt hmem
      have HME := Lib.hid (show Df.meet F f = F by unfold Df.meet; rw [if_pos hmem])
      obtain ⟨k, hk⟩ : ∃ k, Df.idx F f = k := ⟨_, rfl⟩
      have HKK := Lib.hid hk
      rw [hk] at r6 hlt
      have hkn : k < nF := by omega
      have e1 : ((k : Int) == (nF : Int)) = false := by simp; omega
      have e2 : (k == nF) = false := by simp; omega
      have e3 : decide (k = nF) = false := decide_eq_false (by omega)
      clear hk hmem hlt hnF
      go_simp
      go_wp2_with fail
      go_ret
      refine ⟨.slice aF nF cF, vs, by rw [HKK.out]; rfl, ?_, HO2.out, Df.nx_refl _ _⟩
      have hk2 := HK2.out
      rw [HKS.out.1] at hk2
      rw [HME.out] at hk2 ⊢
      exact hk2
    · have hidx := Df.idx_none hmem
      rw [← hnF] at hidx
      have HID := Lib.hid hidx
      rw [hidx] at r6
      have HME := Lib.hid (show Df.meet F f = F ++ [f] by unfold Df.meet; rw [if_neg hmem])
      clear hidx hmem hnF
      go_simp
      go_upto_region 4 with fail
      clear c3
      have V0 : Df.W4 y r (.slice aF nF cF) (fun _ => false) y.drew := ⟨HK2.out.c3, HK2.out.z 3 (by decide), fun _ => (Below.refl _ _).drew, fun e => by simp at e, fun e => by simp at e⟩
      refine Rg.regionZ (by kernel_rfl) (by kernel_rfl) (by kernel_rfl) (by decide) (Rg.rel (Df.relF r (.slice aF nF cF) (.slice a1 n1 c1) (.slice a2 n2 c2) (Df.FP w0.heap.size y (.slice aF nF cF) vs (.slice a1 n1 c1) (.slice a2 n2 c2)))) (Df.W4 y r (.slice aF nF cF)) (Df.MZ (.slice aF nF cF) 7) (fun _ _ => False) (fun c b x _ h => h.elim) (fun i j v w w' hij h hb => Df.relF_up (fun v u u' h hb => h.up hb) hij h hb) V0 ⟨?_, ?_, ?_, ?_, ?_, ?_, ?_, ?_, ?_, ?_, trivial⟩ ?_
      · intro L f' x hL hw hd
        have HW := Lib.hid hw
        clear hw hd
        simp only [Rg.stepZ, Rg.all, Act.put, List.setIfInBounds_toArray, List.set_cons_zero, List.set_cons_succ]
        go_simp
        exact ⟨rfl, HW.out.on 0 (by decide) (fun e => by omega), .inr (Below.refl _ _)⟩
      · intro L f' x hL hw hd
        have HW := Lib.hid hw
        clear hw hd
        simp only [Rg.stepZ, Rg.all, Act.put, List.setIfInBounds_toArray, List.set_cons_zero, List.set_cons_succ]
        go_simp
        exact ⟨rfl, HW.out.on 1 (by decide) (fun e => by omega), .inr (Below.refl _ _)⟩
      · intro L f' x hL hw hd
        have r1 : f' 1 = .pointer (some ⟨r, 0, none⟩) := (hd _ (List.mem_cons_self ..)).2
        have HW := Lib.hid hw
        clear hw hd
        simp only [Rg.stepZ, Rg.all, Act.put, List.setIfInBounds_toArray, List.set_cons_zero, List.set_cons_succ]
        go_simp
        exact ⟨rfl, HW.out.on 2 (by decide) (fun e => by omega), .inr (Below.refl _ _)⟩
      · intro L f' x hL hw hd
        have r2 : f' 2 = .pointer (some ⟨r, 0, none⟩) := (hd _ (List.mem_cons_self ..)).2
        have HW := Lib.hid hw
        clear hw hd
        simp only [Rg.stepZ, Rg.all, Act.put, List.setIfInBounds_toArray, List.set_cons_zero, List.set_cons_succ]
        go_simp
        exact ⟨rfl, HW.out.on 3 (by decide) (fun e => by omega), .inr (Below.refl _ _)⟩
      · intro L f' x hL hw hd
        have r3 : f' 3 = .pointer (some ⟨r, 3, none⟩) := (hd _ (List.mem_cons_self ..)).2
        have c3 := hw.c3
        have HW := Lib.hid hw
        clear hw hd
        simp only [Rg.stepZ, Rg.all, Act.put, List.setIfInBounds_toArray, List.set_cons_zero, List.set_cons_succ]
        go_simp
        exact ⟨rfl, HW.out.on 4 (by decide) (fun e => by omega), .inr (Below.refl _ _)⟩
      · intro L f' x hL hw hd
        have h7 : L 7 = false := Nh.ff' (fun e => by rw [hw.d5 (hw.d6 e)] at hL; simp at hL)
        have hp := HP2.out.up (hw.is h7)
        have p0 := hp.p0
        have p1 := hp.p1
        have p2 := hp.p2
        clear hp
        have HW := Lib.hid hw
        clear hw hd
        simp only [Rg.stepZ, Rg.all, Act.put, List.setIfInBounds_toArray, List.set_cons_zero, List.set_cons_succ]
        go_simp
        exact ⟨rfl, HW.out.on 5 (by decide) (fun e => by omega), .inr (Below.refl _ _)⟩
      · intro L f' x hL hw hd
        have r5 : f' 5 = .agg #[.slice a1 n1 c1, .slice a2 n2 c2, .slice none 0 0] := (hd _ (List.mem_cons_self ..)).2
        have h5 : L 5 = true := (hd _ (List.mem_cons_self ..)).1
        have h7 : L 7 = false := Nh.ff' (fun e => by rw [hw.d6 e] at hL; simp at hL)
        have hbx := hw.is h7
        have hxs : (Value.slice aF nF cF).ownBlock ≠ some x.heap.size := fun e => by have := (HK2.out.flt _ e).2; have := hbx.size; omega
        have HW := Lib.hid hw
        clear hw hd
        simp only [Rg.stepZ, Rg.all, Act.put, List.setIfInBounds_toArray, List.set_cons_zero, List.set_cons_succ]
        go_simp
        exact ⟨⟨x.heap.size, rfl, heap_alloc_new x _, hxs⟩, (HW.out.up (Bs.below1 x _)).on 6 (by decide) (fun _ => h5), .inr (Bs.below1 x _)⟩
      · intro L f' x hL hw hd
        have r4 : f' 4 = .slice aF nF cF := (hd _ (List.mem_cons_self ..)).2
        obtain ⟨B, r6, hB, hBo⟩ := (hd _ (List.mem_cons_of_mem _ (List.mem_cons_self ..))).2
        have h6 : L 6 = true := (hd _ (List.mem_cons_of_mem _ (List.mem_cons_self ..))).1
        have hbx := hw.is hL
        have HX := HK2.out.up hbx
        have hd5 := hw.d5
        have hcc := hw.c3
        have hzz := hw.z3
        have hbase : w0.heap.size ≤ x.heap.size := HX.bel.size
        have hR : ¬ (Value.slice aF nF cF).ownBlock = some r := fun e => (HK2.out.fb r e).1 rfl
        have hvl : vs.length ≤ 10000 := by rw [HLN.out]; exact hF
        clear hw hd
        obtain ⟨iI, hiI, hz0, hz1, hz2⟩ := info_parts Df.infoFr
        simp only [Rg.all, Act.put, List.setIfInBounds_toArray, List.set_cons_zero, List.set_cons_succ]
        refine Rg.stepZ_append _ _ 74 rfl w0.heap.size 119 iI _ 3 72 Try.underlying74 hiI hz0 hz1 hz2 rfl (by decide) (.slice aF nF cF) vs.length (Df.cells vs) r4 HX.of ⟨B, 0, none⟩ 1 1 [.slice a1 n1 c1, .slice a2 n2 c2, .slice none 0 0] r6 rfl (World.news_of_block hB) (by simp [Value.oneCell']) (by decide) (by unfold maxLen; omega) (by omega) hbase ?_
        intro g cp x1 o1 o2 o3 o4
        refine ⟨⟨x, g, cp, rfl, hbx, o2, o1, o3⟩, ⟨o2.cell hcc (fun e => hR e.symm), ?_, fun e => by simp at e, fun _ => by simp [h6], fun e => by simp [hd5 h6]⟩, .inl ⟨rfl, o2⟩⟩
        rw [(Ng.Only.of_grown o2).frozen HX.lt hR]; exact hzz
      · intro L f' x hL hw hd
        have r0 : f' 0 = .pointer (some ⟨r, 0, none⟩) := (hd _ (List.mem_cons_self ..)).2
        have HW := Lib.hid hw
        clear hw hd
        simp only [Rg.stepZ, Rg.all, Act.put, List.setIfInBounds_toArray, List.set_cons_zero, List.set_cons_succ]
        go_simp
        exact ⟨rfl, HW.out.on 8 (by decide) (fun e => by omega), .inr (Below.refl _ _)⟩
      · intro L f' x hL hw hd
        have r8 : f' 8 = .pointer (some ⟨r, 0, none⟩) := (hd _ (List.mem_cons_self ..)).2
        have HW := Lib.hid hw
        clear hw hd
        simp only [Rg.stepZ, Rg.all, Act.put, List.setIfInBounds_toArray, List.set_cons_zero, List.set_cons_succ]
        go_simp
        exact ⟨rfl, HW.out.on 9 (by decide) (fun e => by omega), .inr (Below.refl _ _)⟩
      · intro Lz f' x hall hw hR o ho
        have r7 : Df.FP w0.heap.size y (.slice aF nF cF) vs (.slice a1 n1 c1) (.slice a2 n2 c2) (f' 7) x := hR 7 (by decide)
        have r9 : f' 9 = .pointer (some ⟨r, 3, none⟩) := hR 9 (by decide)
        simp at ho
        subst ho
        simp only [Rg.stepZ, Rg.all, Act.put, List.setIfInBounds_toArray, List.set_cons_zero, List.set_cons_succ]
        obtain ⟨x1, g, cap, e7, hb3, hg3, ho3, hl3⟩ := r7
        rw [e7] at ho3
        have hk3 := HK2.out.up hb3
        have hdn := hk3.add (HR1.out.up hb3) (HR2.out.up hb3) hok hg3 ho3 hl3
        have HDN := Lib.hid hdn
        have HB3 := Lib.hid hb3
        have c3 := hw.c3
        have z3 := hw.z3
        clear hw hR hdn hall hg3 ho3 hl3 hk3 hb3
        generalize f' 0 = t0 at *
        generalize f' 1 = t1 at *
        generalize f' 2 = t2 at *
        generalize f' 3 = t3 at *
        generalize f' 4 = t4 at *
        generalize f' 5 = t5 at *
        generalize f' 6 = t6 at *
        generalize f' 8 = t8 at *
        go_simp
        go_wp2_with fail
        go_ret
        obtain ⟨d1, d2, d3⟩ := HDN.out
        refine ⟨.slice (some ⟨g, 0, none⟩) (vs.length + 1) cap, vs ++ [(.slice a1 n1 c1, .slice a2 n2 c2, .slice none 0 0)], by rw [HID.out]; rfl, ?_, Df.Only.trans' (Df.Only.trans' HO2.out (Df.only_below HB3.out _) (fun _ _ h => h)) d2 (fun _ _ h => h), fun k hk => ?_⟩
        · rw [HKS.out.1] at d1
          rw [HME.out] at d1 ⊢
          exact d1
        · rcases d3 k hk with e | e
          · exact .inl e
          · have := HB3.out.size
            exact .inr (by omega)
end Go.Proofs.Ythapedadnbkgnaa
