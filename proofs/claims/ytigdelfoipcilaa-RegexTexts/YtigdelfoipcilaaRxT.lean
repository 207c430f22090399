/- What the document's capped answers: the value itself, or the empty one. What the document's rep answers, walked. -/
import Derived.Test.YtigdelfoipcilaaRxK
import Derived.Test.YtigdelfoipcilaaRxL
import Derived.Test.YtigdelfoipcilaaRyQ
import Derived.Deep.DeepCutAuto
import Derived.Deep.CutBlock
namespace Go.Proofs.Ytigdelfoipcilaa
set_option linter.unusedVariables false
set_option linter.unusedSimpArgs false
open Go.RowKit
/-- behind capped: the value itself, where it may be -/
def Rx.KPostB (w : World) (r : Nat) (a : Option Addr) (L : List Int) (cap : Nat) (t : Option (List Int)) (big : Bool) (x : Rx) (v : Value) (e : Ending) (w' : World) : Prop :=
  ∃ v', e = .returned v' ∧ (x.may 1 = true → v' = v) ∧ (x.may 1 = false → v' = Rx.hdr 0 (fun _ => false) none 0 0) ∧ Rx.St w' r a L cap t (big || !x.may 1) ∧ w.grownBy w' (some r)
set_option maxRecDepth 100000 in
set_option maxHeartbeats 400000 in
theorem refCappedB_any (r : Nat) (a : Option Addr) (L : List Int) (cap : Nat) (t : Option (List Int)) (big : Bool) (x : Rx) (v : Value) (w : World) (h : Rx.St w r a L cap t big) (hx : Rx.Is w x v) : Calls Try.prog 69 #[.pointer (some ⟨r, 0, none⟩), v] w (Rx.KPostB w r a L cap t big x v) := by
  have HX := Lib.hid hx
  have hv : ∃ k f b n c, v = Rx.hdr k f b n c := by
    cases x
    obtain ⟨_, b, c, e, _⟩ := hx
    exact ⟨_, _, b, _, c, e⟩
  obtain ⟨k, f, b, n, c, rfl⟩ := hv
  clear hx
  unfold Rx.hdr at HX ⊢
  go_enter Try.func69, Try.ntmps69
  have A := Bs.below2 w (.cells #[.int .u8 k, .int .u64 (Bs.word f 0), .int .u64 (Bs.word f 1), .int .u64 (Bs.word f 2), .int .u64 (Bs.word f 3), .slice b n c] 28) (.cells #[.int .u8 0, .int .u64 0, .int .u64 0, .int .u64 0, .int .u64 0, .slice none 0 0] 28)
  go_wp2_with fail
  have C := (Rx.cell_new w k f b n c 28).up (Bs.below1 _ (.cells #[.int .u8 0, .int .u64 0, .int .u64 0, .int .u64 0, .int .u64 0, .slice none 0 0] 28))
  have d0 : ((w.alloc (.cells #[.int .u8 k, .int .u64 (Bs.word f 0), .int .u64 (Bs.word f 1), .int .u64 (Bs.word f 2), .int .u64 (Bs.word f 3), .slice b n c] 28)).alloc (.cells #[.int .u8 0, .int .u64 0, .int .u64 0, .int .u64 0, .int .u64 0, .slice none 0 0] 28)).cell? ⟨w.heap.size + 1, 0, none⟩ = some (.int .u8 0) := by simp [go_sem]
  have g0 : ((w.alloc (.cells #[.int .u8 k, .int .u64 (Bs.word f 0), .int .u64 (Bs.word f 1), .int .u64 (Bs.word f 2), .int .u64 (Bs.word f 3), .slice b n c] 28)).alloc (.cells #[.int .u8 0, .int .u64 0, .int .u64 0, .int .u64 0, .int .u64 0, .slice none 0 0] 28)).frozen? ⟨w.heap.size + 1, 0, none⟩ = false := by simp [go_sem]
  have d1 : ((w.alloc (.cells #[.int .u8 k, .int .u64 (Bs.word f 0), .int .u64 (Bs.word f 1), .int .u64 (Bs.word f 2), .int .u64 (Bs.word f 3), .slice b n c] 28)).alloc (.cells #[.int .u8 0, .int .u64 0, .int .u64 0, .int .u64 0, .int .u64 0, .slice none 0 0] 28)).cell? ⟨w.heap.size + 1, 1, none⟩ = some (.int .u64 0) := by simp [go_sem]
  have g1 : ((w.alloc (.cells #[.int .u8 k, .int .u64 (Bs.word f 0), .int .u64 (Bs.word f 1), .int .u64 (Bs.word f 2), .int .u64 (Bs.word f 3), .slice b n c] 28)).alloc (.cells #[.int .u8 0, .int .u64 0, .int .u64 0, .int .u64 0, .int .u64 0, .slice none 0 0] 28)).frozen? ⟨w.heap.size + 1, 1, none⟩ = false := by simp [go_sem]
  have d2 : ((w.alloc (.cells #[.int .u8 k, .int .u64 (Bs.word f 0), .int .u64 (Bs.word f 1), .int .u64 (Bs.word f 2), .int .u64 (Bs.word f 3), .slice b n c] 28)).alloc (.cells #[.int .u8 0, .int .u64 0, .int .u64 0, .int .u64 0, .int .u64 0, .slice none 0 0] 28)).cell? ⟨w.heap.size + 1, 2, none⟩ = some (.int .u64 0) := by simp [go_sem]
  have g2 : ((w.alloc (.cells #[.int .u8 k, .int .u64 (Bs.word f 0), .int .u64 (Bs.word f 1), .int .u64 (Bs.word f 2), .int .u64 (Bs.word f 3), .slice b n c] 28)).alloc (.cells #[.int .u8 0, .int .u64 0, .int .u64 0, .int .u64 0, .int .u64 0, .slice none 0 0] 28)).frozen? ⟨w.heap.size + 1, 2, none⟩ = false := by simp [go_sem]
  have d3 : ((w.alloc (.cells #[.int .u8 k, .int .u64 (Bs.word f 0), .int .u64 (Bs.word f 1), .int .u64 (Bs.word f 2), .int .u64 (Bs.word f 3), .slice b n c] 28)).alloc (.cells #[.int .u8 0, .int .u64 0, .int .u64 0, .int .u64 0, .int .u64 0, .slice none 0 0] 28)).cell? ⟨w.heap.size + 1, 3, none⟩ = some (.int .u64 0) := by simp [go_sem]
  have g3 : ((w.alloc (.cells #[.int .u8 k, .int .u64 (Bs.word f 0), .int .u64 (Bs.word f 1), .int .u64 (Bs.word f 2), .int .u64 (Bs.word f 3), .slice b n c] 28)).alloc (.cells #[.int .u8 0, .int .u64 0, .int .u64 0, .int .u64 0, .int .u64 0, .slice none 0 0] 28)).frozen? ⟨w.heap.size + 1, 3, none⟩ = false := by simp [go_sem]
  have d4 : ((w.alloc (.cells #[.int .u8 k, .int .u64 (Bs.word f 0), .int .u64 (Bs.word f 1), .int .u64 (Bs.word f 2), .int .u64 (Bs.word f 3), .slice b n c] 28)).alloc (.cells #[.int .u8 0, .int .u64 0, .int .u64 0, .int .u64 0, .int .u64 0, .slice none 0 0] 28)).cell? ⟨w.heap.size + 1, 4, none⟩ = some (.int .u64 0) := by simp [go_sem]
  have g4 : ((w.alloc (.cells #[.int .u8 k, .int .u64 (Bs.word f 0), .int .u64 (Bs.word f 1), .int .u64 (Bs.word f 2), .int .u64 (Bs.word f 3), .slice b n c] 28)).alloc (.cells #[.int .u8 0, .int .u64 0, .int .u64 0, .int .u64 0, .int .u64 0, .slice none 0 0] 28)).frozen? ⟨w.heap.size + 1, 4, none⟩ = false := by simp [go_sem]
  have d5 : ((w.alloc (.cells #[.int .u8 k, .int .u64 (Bs.word f 0), .int .u64 (Bs.word f 1), .int .u64 (Bs.word f 2), .int .u64 (Bs.word f 3), .slice b n c] 28)).alloc (.cells #[.int .u8 0, .int .u64 0, .int .u64 0, .int .u64 0, .int .u64 0, .slice none 0 0] 28)).cell? ⟨w.heap.size + 1, 5, none⟩ = some (.slice none 0 0) := by simp [go_sem]
  have g5 : ((w.alloc (.cells #[.int .u8 k, .int .u64 (Bs.word f 0), .int .u64 (Bs.word f 1), .int .u64 (Bs.word f 2), .int .u64 (Bs.word f 3), .slice b n c] 28)).alloc (.cells #[.int .u8 0, .int .u64 0, .int .u64 0, .int .u64 0, .int .u64 0, .slice none 0 0] 28)).frozen? ⟨w.heap.size + 1, 5, none⟩ = false := by simp [go_sem]
  have hs : w.heap.size + 1 < ((w.alloc (.cells #[.int .u8 k, .int .u64 (Bs.word f 0), .int .u64 (Bs.word f 1), .int .u64 (Bs.word f 2), .int .u64 (Bs.word f 3), .slice b n c] 28)).alloc (.cells #[.int .u8 0, .int .u64 0, .int .u64 0, .int .u64 0, .int .u64 0, .slice none 0 0] 28)).heap.size := by simp [go_sem]
  have hrl : r < w.heap.size := by obtain ⟨_, _, R⟩ := h.bad; exact R.lt
  have H0 := Lib.hid h
  have HX0 := HX
  have HF := Lib.hid (show ∀ y, a = some y → L ≠ [] → y.block ≠ w.heap.size + 1 from fun y e hL => by have := h.home y e hL; omega)
  replace h := h.up A
  have X := HX.out.up A
  generalize ((w.alloc (.cells #[.int .u8 k, .int .u64 (Bs.word f 0), .int .u64 (Bs.word f 1), .int .u64 (Bs.word f 2), .int .u64 (Bs.word f 3), .slice b n c] 28)).alloc (.cells #[.int .u8 0, .int .u64 0, .int .u64 0, .int .u64 0, .int .u64 0, .slice none 0 0] 28)) = W at *
  have CQ := refCount_any x.size x (Nat.le_refl _) _ 1 W X (by omega) (by omega)
  refine CQ.mono ?_
  rintro e w1 ⟨rfl, hb⟩
  clear CQ
  replace C := C.up hb
  replace g0 := Bs.frz_up hb d0 g0; replace d0 := Bs.cell_up hb d0
  replace g1 := Bs.frz_up hb d1 g1; replace d1 := Bs.cell_up hb d1
  replace g2 := Bs.frz_up hb d2 g2; replace d2 := Bs.cell_up hb d2
  replace g3 := Bs.frz_up hb d3 g3; replace d3 := Bs.cell_up hb d3
  replace g4 := Bs.frz_up hb d4 g4; replace d4 := Bs.cell_up hb d4
  replace g5 := Bs.frz_up hb d5 g5; replace d5 := Bs.cell_up hb d5
  replace h := h.up hb
  replace X := X.up hb
  replace A := Bs.below_up A hb
  clear hb hs HX
  have HA := Lib.hid A; clear A
  have HS := Lib.hid h
  have HI := Lib.hid X; clear X
  obtain ⟨i, bd, R⟩ := h.bad
  have HR := Lib.hid R
  have r3 := R.c3
  have q3 := R.z3
  clear R h
  obtain ⟨c0, c1, c2, c3, c4, c5⟩ := C
  simp only [Nat.zero_add] at c1 c2 c3 c4 c5
  rw [Rx.cnt_eq x 1 (by omega)]
  cases hm : x.may 1
  · have n1 : r ≠ w.heap.size + 1 := by omega
    simp only [Rx.cntI, Bool.false_eq_true, if_false]
    go_wp2_with fail
    have n2 : w.heap.size + 1 ≠ r := Ne.symm n1
    have n3 : w.heap.size ≤ w.heap.size + 1 := by omega
    refine bodyPost_ret (v := Rx.hdr 0 (fun _ => false) none 0 0) (by simp [results, Try.results69, go_sem, Rx.hdr_none, d0, d1, d2, d3, d4, d5, n1]) rfl ⟨_, rfl, fun e9 => by rw [hm] at e9; simp at e9, fun _ => rfl, ?_, ?_⟩
    · have h9 := (((((HS.out.setBig true).far n2 HF.out 0 (.int .u8 0)).far n2 HF.out 1 (.int .u64 0)).far n2 HF.out 2 (.int .u64 0)).far n2 HF.out 3 (.int .u64 0)).far n2 HF.out 4 (.int .u64 0)
      have h9 := h9.far n2 HF.out 5 (.slice none 0 0)
      rw [hm]
      simpa using h9
    · exact Rx.grown_far (Rx.grown_far (Rx.grown_far (Rx.grown_far (Rx.grown_far (Rx.grown_far (Rx.grown_set (Rx.grown_of r HA.out) _ _) n3 _ _) n3 _ _) n3 _ _) n3 _ _) n3 _ _) n3 _ _
  · simp only [Rx.cntI, if_true]
    have e1 : decide ((x.size : Int) < 0) = false := by simp
    go_wp2_with fail
    have n3 : w.heap.size ≤ w.heap.size + 1 := by omega
    have B := (((((HA.out.setCell (p := ⟨w.heap.size + 1, 0, none⟩) n3 (.int .u8 k)).setCell (p := ⟨w.heap.size + 1, 1, none⟩) n3 (.int .u64 (Bs.word f 0))).setCell (p := ⟨w.heap.size + 1, 2, none⟩) n3 (.int .u64 (Bs.word f 1))).setCell (p := ⟨w.heap.size + 1, 3, none⟩) n3 (.int .u64 (Bs.word f 2))).setCell (p := ⟨w.heap.size + 1, 4, none⟩) n3 (.int .u64 (Bs.word f 3))).setCell (p := ⟨w.heap.size + 1, 5, none⟩) n3 (.slice b n c)
    exact bodyPost_ret (v := Rx.hdr k f b n c) (by simp [results, Try.results69, go_sem, Rx.hdr, d0, d1, d2, d3, d4, d5]) rfl ⟨_, rfl, fun _ => rfl, fun e9 => by rw [hm] at e9; simp at e9, by rw [hm]; simpa using H0.out.up B, Rx.grown_of r B⟩
open Go.RowKit
/-- the worlds of rep: the reader, the result's block, and the variable's -/
structure Rx.RW (w : World) (r : Nat) (a : Option Addr) (L : List Int) (cap : Nat) (b : Nat) (t : Option (List Int)) (z : Bool) (y : Rx) (v : World) : Prop where
  st : Rx.St v r a L cap t z
  nod : Rx.Nod v w.heap.size 0 (fun _ => false) none 0 0
  var : ∃ k f x n c, Rx.Nod v b k f x n c ∧ Rx.IsB v (b < ·) y (Rx.hdr k f x n c)
  gr : w.grownBy v (some r)
  rq : r < w.heap.size
  ho : ∀ x, a = some x → L ≠ [] → x.block < w.heap.size
  qb : w.heap.size < b
theorem Rx.RW.on {w : World} {r : Nat} {a : Option Addr} {L : List Int} {cap b : Nat} {t t' : Option (List Int)} {z z' : Bool} {y : Rx} {v v' : World} (h : Rx.RW w r a L cap b t z y v) (hs : Rx.St v' r a L cap t' z') (g : v.grownBy v' (some r)) : Rx.RW w r a L cap b t' z' y v' := by
  have h1 := h.rq
  have h2 := h.qb
  obtain ⟨k, f, x, n, c, hn, hi⟩ := h.var
  exact ⟨hs, h.nod.grown g (by omega), ⟨k, f, x, n, c, hn.grown g (by omega), hi.grown g (fun j hj e => by injection e; omega)⟩, h.gr.trans g, h.rq, h.ho, h.qb⟩
theorem Rx.RW.up {w : World} {r : Nat} {a : Option Addr} {L : List Int} {cap b : Nat} {t : Option (List Int)} {z : Bool} {y : Rx} {v v' : World} (h : Rx.RW w r a L cap b t z y v) (hb : Below v.heap.size v v') : Rx.RW w r a L cap b t z y v' := h.on (h.st.up hb) (Rx.grown_of r hb)
theorem Rx.RW.put {w : World} {r : Nat} {a : Option Addr} {L : List Int} {cap b : Nat} {t : Option (List Int)} {z : Bool} {y y' : Rx} {v : World} {k : Nat} {f : Nat → Bool} {x : Option Addr} {n c : Nat} (h : Rx.RW w r a L cap b t z y v) (hx : Rx.IsB v (b < ·) y' (Rx.hdr k f x n c)) : Rx.RW w r a L cap b t z y' (Rx.wr v b k f x n c) := by
  have h1 := h.rq
  have h2 := h.qb
  have hn : ∀ x, a = some x → L ≠ [] → x.block ≠ b := fun x e e' => by have := h.ho x e e'; omega
  have hd : b ≠ r := by omega
  obtain ⟨k0, f0, x0, n0, c0, hn0, _⟩ := h.var
  exact ⟨(((((h.st.far hd hn _ _).far hd hn _ _).far hd hn _ _).far hd hn _ _).far hd hn _ _).far hd hn _ _, h.nod.grown (Rx.grown_set (Rx.grown_set (Rx.grown_set (Rx.grown_set (Rx.grown_set (Rx.grown_set (Rx.grown_of b (Below.refl _ _)) _ _) _ _) _ _) _ _) _ _) _ _) (by omega), ⟨k, f, x, n, c, hn0.wr k f x n c, hx.wr (by omega) k f x n c⟩, Rx.wr_far h.gr (by omega) k f x n c, h.rq, h.ho, h.qb⟩
theorem Rx.RW.bad {w : World} {r : Nat} {a : Option Addr} {L : List Int} {cap b : Nat} {t : Option (List Int)} {z : Bool} {y : Rx} {v : World} (h : Rx.RW w r a L cap b t z y v) : Rx.RW w r a L cap b none z y (v.setCell ⟨r, 2, none⟩ (.bool true)) := h.on h.st.setBad (Rx.grown_set (World.grownBy.refl _ _) _ _)
theorem Rx.RW.ret {w : World} {r : Nat} {a : Option Addr} {L : List Int} {cap b : Nat} {t : Option (List Int)} {z big : Bool} {y : Rx} {v : World} {k : Nat} {f : Nat → Bool} {x : Option Addr} {n c : Nat} (h : Rx.RW w r a L cap b t z y v) (hx : Rx.IsB v (b < ·) y (Rx.hdr k f x n c)) {o : Option (Rx × List Int)} (ho : o.map (·.2) = t) (hz : ∀ x t, o = some (x, t) → z = (big || !x.may 1) ∧ (z = false → y = x)) : Rx.GPost w r a L cap o big (.returned (Rx.hdr k f x n c)) (Rx.wr v w.heap.size k f x n c) := by
  have h1 := h.rq
  have h2 := h.qb
  have hn : ∀ x, a = some x → L ≠ [] → x.block ≠ w.heap.size := fun x e e' => by have := h.ho x e e'; omega
  have hd : w.heap.size ≠ r := by omega
  exact ⟨_, y, z, rfl, (hx.wr (b := w.heap.size) (by omega) k f x n c).mono (fun j hj => by omega), Rx.wr_far h.gr (Nat.le_refl _) k f x n c, by rw [ho]; exact (((((h.st.far hd hn _ _).far hd hn _ _).far hd hn _ _).far hd hn _ _).far hd hn _ _).far hd hn _ _, hz⟩
/-- how much is left to read -/
def Rx.left (w : World) (r n : Nat) : Nat := match w.cell? ⟨r, 2, none⟩, w.cell? ⟨r, 1, none⟩ with
  | some (.bool false), some (.int _ i) => n - i.toNat + 1
  | _, _ => 0
theorem Rx.left_some {w : World} {r : Nat} {a : Option Addr} {L : List Int} {cap : Nat} {u : List Int} {z : Bool} (h : Rx.St w r a L cap (some u) z) : Rx.left w r L.length = u.length + 1 := by
  obtain ⟨k, hk, rfl, R⟩ := h
  simp [Rx.left, R.c1, R.c2]
theorem Rx.left_none {w : World} {r : Nat} {a : Option Addr} {L : List Int} {cap : Nat} {z : Bool} (h : Rx.St w r a L cap none z) : Rx.left w r L.length = 0 := by
  obtain ⟨k, R⟩ := h
  simp [Rx.left, R.c2]
def Rx.AltC (l : List Int) : Prop := ∀ (r : Nat) (a : Option Addr) (L : List Int) (cap : Nat) (big : Bool) (w : World), Rx.St w r a L cap (some l) big → Calls Try.prog 40 #[.pointer (some ⟨r, 0, none⟩)] w (Rx.GPost w r a L cap ((Rx.alt l).map fun p => (Rx.several 3 p.1, p.2)) big)
def Rx.CatC (l : List Int) : Prop := ∀ (r : Nat) (a : Option Addr) (L : List Int) (cap : Nat) (big : Bool) (w : World), Rx.St w r a L cap (some l) big → Calls Try.prog 66 #[.pointer (some ⟨r, 0, none⟩)] w (Rx.GPost w r a L cap ((Rx.cat l).map fun p => (Rx.catOf p.1, p.2)) big)
def Rx.RepC (c : Int) (l : List Int) : Prop := ∀ (r : Nat) (a : Option Addr) (L : List Int) (cap : Nat) (big : Bool) (w : World), Rx.St w r a L cap (some (c :: l)) big → Calls Try.prog 86 #[.pointer (some ⟨r, 0, none⟩)] w (Rx.GPost w r a L cap (Rx.rep (c :: l)) big)
/-- what rep knows ahead of its loop, and in it -/
def Rx.RI (w : World) (r : Nat) (a : Option Addr) (L : List Int) (cap : Nat) (big : Bool) (b : Nat) (l : List Int) (v : World) : Prop := ∃ t z y, Rx.RW w r a L cap b t z y v ∧ (t = none → Rx.rep l = none) ∧ ∀ u, t = some u → ∃ x, Rx.rep l = some (Rx.post x u) ∧ z = (big || !x.may 1) ∧ (z = false → y = x)
theorem Rx.RI.of_bad {w : World} {r : Nat} {a : Option Addr} {L : List Int} {cap : Nat} {big : Bool} {b : Nat} {l : List Int} {v : World} {z : Bool} {y : Rx} (h : Rx.RW w r a L cap b none z y v) (e : Rx.rep l = none) : Rx.RI w r a L cap big b l v := ⟨none, z, y, h, fun _ => e, fun u h => by simp at h⟩
theorem Rx.RI.of_good {w : World} {r : Nat} {a : Option Addr} {L : List Int} {cap : Nat} {big : Bool} {b : Nat} {l u : List Int} {v : World} {z : Bool} {x y : Rx} (h : Rx.RW w r a L cap b (some u) z y v) (e : Rx.rep l = some (Rx.post x u)) (h1 : z = (big || !x.may 1)) (h2 : z = false → y = x) : Rx.RI w r a L cap big b l v := ⟨some u, z, y, h, fun h => by simp at h, fun u' e' => by injection e' with e'; subst e'; exact ⟨x, e, h1, h2⟩⟩
theorem Rx.wr_none (w : World) (b k : Nat) (a : Option Addr) (n c : Nat) : Rx.wr w b k (fun _ => false) a n c = (((((w.setCell ⟨b, 0, none⟩ (.int .u8 k)).setCell ⟨b, 1, none⟩ (.int .u64 0)).setCell ⟨b, 2, none⟩ (.int .u64 0)).setCell ⟨b, 3, none⟩ (.int .u64 0)).setCell ⟨b, 4, none⟩ (.int .u64 0)).setCell ⟨b, 5, none⟩ (.slice a n c) := by
  simp only [Rx.wr, Bs.word_none]; rfl
theorem Rx.wr_alloc (w : World) (o : Obj) {b : Nat} (hb : b < w.heap.size) (k : Nat) (f : Nat → Bool) (a : Option Addr) (n c : Nat) : Rx.wr (w.alloc o) b k f a n c = (Rx.wr w b k f a n c).alloc o := by
  have e : ∀ (v : World) (i : Nat) (x : Value), (v.setCell ⟨b, i, none⟩ x).heap.size = v.heap.size := fun v i x => by simp [go_sem]
  simp only [Rx.wr]
  rw [World.setCell_alloc_past _ _ _ _ hb, World.setCell_alloc_past _ _ _ _ (by rw [e]; exact hb), World.setCell_alloc_past _ _ _ _ (by rw [e, e]; exact hb), World.setCell_alloc_past _ _ _ _ (by rw [e, e, e]; exact hb), World.setCell_alloc_past _ _ _ _ (by rw [e, e, e, e]; exact hb), World.setCell_alloc_past _ _ _ _ (by rw [e, e, e, e, e]; exact hb)]
theorem Rx.flag_no {big z : Bool} {x y x' y' : Rx} (hz : z = (big || !x.may 1)) (hy : z = false → y = x) (hp : x'.may 1 = true → x.may 1 = true) (hm : y'.may 1 = false) (hxy : y = x → y' = x') : (z || !false) = (big || !x'.may 1) := by
  cases z with
  | false =>
    have := hxy (hy rfl)
    rw [← this, hm]
    simp
  | true =>
    cases hb : big with
    | true => simp
    | false =>
      rw [hb] at hz
      cases h' : x'.may 1 with
      | false => simp
      | true => rw [hp h'] at hz; simp at hz
theorem Rx.flag_yes {big z : Bool} {x y x' y' : Rx} (hz : z = (big || !x.may 1)) (hy : z = false → y = x) (hp : x'.may 1 = true → x.may 1 = true) (hm : y'.may 1 = true) (hxy : y = x → y' = x') : (z || !true) = (big || !x'.may 1) := by
  cases z with
  | false =>
    have h1 := hxy (hy rfl)
    rw [← h1, hm]
    cases hb : big with
    | true => rw [hb] at hz; simp at hz
    | false => rfl
  | true =>
    cases hb : big with
    | true => simp
    | false =>
      rw [hb] at hz
      cases h' : x'.may 1 with
      | false => simp
      | true => rw [hp h'] at hz; simp at hz
set_option maxRecDepth 100000 in
set_option maxHeartbeats 8000000 in
theorem refRep_of (c : Int) (l1 : List Int) (hA : ∀ l, l.length ≤ l1.length → Rx.AltC l) : Rx.RepC c l1 := by
  intro r a L cap big w h
  have hr : r < w.heap.size := by obtain ⟨i, b, R⟩ := h.bad; exact R.lt
  have hho := Lib.hid h.home
  have N := Rx.nod_zero w
  have B0 := Bs.below1 w (.cells #[.int .u8 0, .int .u64 0, .int .u64 0, .int .u64 0, .int .u64 0, .slice none 0 0] 28)
  have eN : w.heap.size < (w.alloc (.cells #[.int .u8 0, .int .u64 0, .int .u64 0, .int .u64 0, .int .u64 0, .slice none 0 0] 28)).heap.size := by simp [go_sem]
  replace h := h.up B0
  go_enter Try.func86, Try.ntmps86
  go_wp2_with fail
  generalize w.alloc (.cells #[.int .u8 0, .int .u64 0, .int .u64 0, .int .u64 0, .int .u64 0, .slice none 0 0] 28) = U at *
  have HTK := Lib.hid (refTake_any r a L cap (some (c :: l1)) big U h)
  refine HTK.out.mono ?_
  rintro e V ⟨rfl, S1, G1⟩
  have ehd : Rx.hd (some (c :: l1)) = c := rfl
  rw [ehd]
  replace S1 : Rx.St V r a L cap (some l1) big := S1
  have G := (Rx.grown_of r B0).trans G1
  replace N := N.grown G1 (by omega)
  have hsz : w.heap.size < V.heap.size := by have := G1.size; omega
  clear HTK h G1 ehd eN B0
  have BV := Bs.below1 V (.cells #[.int .u8 0, .int .u64 0, .int .u64 0, .int .u64 0, .int .u64 0, .slice none 0 0] 28)
  have C0 : Rx.RW w r a L cap V.heap.size (some l1) big Rx.nil (V.alloc (.cells #[.int .u8 0, .int .u64 0, .int .u64 0, .int .u64 0, .int .u64 0, .slice none 0 0] 28)) := ⟨S1.up BV, N.up BV, ⟨_, _, _, _, _, Rx.nod_zero V, Rx.isB_nil _ _⟩, G.trans (Rx.grown_of r BV), hr, hho.out, hsz⟩
  have C := C0
  have hbW : V.heap.size < (V.alloc (.cells #[.int .u8 0, .int .u64 0, .int .u64 0, .int .u64 0, .int .u64 0, .slice none 0 0] 28)).heap.size := by simp [go_sem]
  clear C0 BV S1 N G hsz hho
  go_upto_if 9 with fail
  generalize V.alloc (.cells #[.int .u8 0, .int .u64 0, .int .u64 0, .int .u64 0, .int .u64 0, .slice none 0 0] 28) = W at *
  generalize V.heap.size = b at *
  go_cut [] (fun wx => Rx.RI w r a L cap big b (c :: l1) wx)
  case first =>
    by_cases h40 : c = 40
    · subst h40
      have HA := Lib.hid (hA l1 (Nat.le_refl _) r a L cap big W C.st)
      go_wp2_with fail
      refine HA.out.mono ?_
      rintro e w1 ⟨v, y, z, rfl, hx, g1, S1, hz⟩
      clear HA
      replace C := C.on S1 g1
      replace hx : Rx.IsB w1 (b < ·) y v := hx.mono (fun j hj => by omega)
      have HZ := Lib.hid hz
      clear S1 g1 hz
      obtain ⟨k9, f9, a9, n9, c9, rfl⟩ := hx.form
      obtain ⟨k0, f0, x0, n0, m0, VN, _⟩ := C.var
      have d0 := VN.cell.c0; have d1 := VN.cell.c1; have d2 := VN.cell.c2; have d3 := VN.cell.c3; have d4 := VN.cell.c4; have d5 := VN.cell.c5
      have y := VN.frz
      simp only [Nat.zero_add] at d0 d1 d2 d3 d4 d5
      have y0 := y 0 (by decide); have y1 := y 1 (by decide); have y2 := y 2 (by decide); have y3 := y 3 (by decide); have y4 := y 4 (by decide); have y5 := y 5 (by decide)
      clear VN y
      have C2 := Lib.hid (C.put hx)
      clear C hx
      unfold Rx.hdr
      have HTK := Lib.hid (refTake_any r a L cap _ z _ C2.out.st)
      cases ha : Rx.alt l1 with
      | none =>
        have HR := Lib.hid (show Rx.rep (40 :: l1) = none by rw [Rx.rep_cons, if_pos rfl, ha])
        rw [ha] at HTK
        have eh : Rx.hd (Option.map (fun x : Rx × List Int => x.2) (Option.map (fun p : List Rx × List Int => (Rx.several 3 p.1, p.2)) none)) = -1 := rfl
        have et : Rx.tl (Option.map (fun x : Rx × List Int => x.2) (Option.map (fun p : List Rx × List Int => (Rx.several 3 p.1, p.2)) none)) = none := rfl
        rw [eh, et] at HTK
        clear eh et
        go_wp2_with fail
        refine HTK.out.mono ?_
        rintro e w2 ⟨rfl, S2, G2⟩
        have C3 := C2.out.on S2 G2
        clear HTK S2 G2 C2 HZ
        have sb2 := C3.st.b.2
        have sb1 := C3.st.b.1
        have HC3 := Lib.hid C3
        clear C3
        go_wp2_with fail
        go_meet
        case rel => exact .of_bad HC3.out.bad HR.out
      | some p9 =>
        obtain ⟨xs, u⟩ := p9
        rw [ha] at HTK
        have eh : Option.map (fun x : Rx × List Int => x.2) (Option.map (fun p : List Rx × List Int => (Rx.several 3 p.1, p.2)) (some (xs, u))) = some u := rfl
        rw [eh] at HTK
        clear eh
        by_cases h41 : u.head? = some 41
        · have HR := Lib.hid (show Rx.rep (40 :: l1) = some (Rx.post (Rx.several 3 xs) (u.drop 1)) by rw [Rx.rep_cons, if_pos rfl, ha]; simp only; rw [if_pos h41])
          rw [(Rx.hd_iff (by decide)).2 h41, Rx.tl_some h41] at HTK
          go_wp2_with fail
          refine HTK.out.mono ?_
          rintro e w2 ⟨rfl, S2, G2⟩
          have HC3 := Lib.hid (C2.out.on S2 G2)
          have HZ2 := Lib.hid (HZ.out (Rx.several 3 xs) u (by rw [ha]; rfl))
          clear HTK S2 G2 C2 HZ
          go_wp2_with fail
          go_meet
          case rel => exact .of_good HC3.out HR.out HZ2.out.1 HZ2.out.2
        · have HR := Lib.hid (show Rx.rep (40 :: l1) = none by rw [Rx.rep_cons, if_pos rfl, ha]; simp only; rw [if_neg h41])
          have hh : (Rx.hd (some u) == 41) = false := by rw [beq_eq_false_iff_ne]; exact fun e' => h41 ((Rx.hd_iff (by decide)).1 e')
          have hh' : (Rx.hd (some u) != 41) = true := by rw [bne, hh]; rfl
          generalize Rx.hd (some u) = c7 at *
          generalize Rx.tl (some u) = t7 at *
          go_wp2_with fail
          refine HTK.out.mono ?_
          rintro e w2 ⟨rfl, S2, G2⟩
          have C3 := C2.out.on S2 G2
          clear HTK S2 G2 C2 HZ
          have sb2 := C3.st.b.2
          have sb1 := C3.st.b.1
          have HC3 := Lib.hid C3
          clear C3
          go_wp2_with fail
          go_meet
          case rel => exact .of_bad HC3.out.bad HR.out
    · have k40 : (c == 40) = false := by simp; omega
      by_cases h91 : c = 91
      · subst h91
        have HA := Lib.hid (refClass_any r a L cap l1 big W C.st)
        go_wp2_with fail
        refine HA.out.mono ?_
        rintro e w1 ⟨v, y, z, rfl, hx, g1, S1, hz⟩
        clear HA
        replace C := C.on S1 g1
        replace hx : Rx.IsB w1 (b < ·) y v := hx.mono (fun j hj => by omega)
        have HZ := Lib.hid hz
        clear S1 g1 hz
        obtain ⟨k9, f9, a9, n9, c9, rfl⟩ := hx.form
        obtain ⟨k0, f0, x0, n0, m0, VN, _⟩ := C.var
        have d0 := VN.cell.c0; have d1 := VN.cell.c1; have d2 := VN.cell.c2; have d3 := VN.cell.c3; have d4 := VN.cell.c4; have d5 := VN.cell.c5
        have y := VN.frz
        simp only [Nat.zero_add] at d0 d1 d2 d3 d4 d5
        have y0 := y 0 (by decide); have y1 := y 1 (by decide); have y2 := y 2 (by decide); have y3 := y 3 (by decide); have y4 := y 4 (by decide); have y5 := y 5 (by decide)
        clear VN y
        have C2 := Lib.hid (C.put hx)
        clear C hx
        unfold Rx.hdr
        go_wp2_with fail
        go_meet
        case rel =>
          have HR : Rx.rep (91 :: l1) = (Rx.cls l1).map fun p => Rx.post p.1 p.2 := by rw [Rx.rep_cons, if_neg (by decide), if_pos rfl]
          have C3 := C2.out
          cases hc : Rx.cls l1 with
          | none => rw [hc] at C3 HR; exact .of_bad C3 HR
          | some p9 =>
            obtain ⟨x9, u9⟩ := p9
            rw [hc] at C3 HR
            have := HZ.out x9 u9 hc
            exact .of_good C3 HR this.1 this.2
      · have k91 : (c == 91) = false := by simp; omega
        by_cases h46 : c = 46
        · subst h46
          go_wp2_with fail
          refine (refSet_any 10 10 (by decide) (by decide) W).mono ?_
          rintro e w1 ⟨rfl, hb⟩
          replace C := C.up hb
          have hsz1 := hb.size
          clear hb
          have HB := Lib.hid (refBut_any (Rx.rng (10 : Nat) (10 : Nat)) w1)
          go_wp2_with fail
          refine HB.out.mono ?_
          rintro e w2 ⟨v, rfl, hx, hb⟩
          replace C := C.up hb
          replace hx : Rx.IsB w2 (b < ·) (Rx.but (Rx.rng (10 : Nat) (10 : Nat))) v := hx.mono (fun j hj => by omega)
          clear hb HB
          obtain ⟨k9, f9, a9, n9, c9, rfl⟩ := hx.form
          obtain ⟨k0, f0, x0, n0, m0, VN, _⟩ := C.var
          have d0 := VN.cell.c0; have d1 := VN.cell.c1; have d2 := VN.cell.c2; have d3 := VN.cell.c3; have d4 := VN.cell.c4; have d5 := VN.cell.c5
          have y := VN.frz
          simp only [Nat.zero_add] at d0 d1 d2 d3 d4 d5
          have y0 := y 0 (by decide); have y1 := y 1 (by decide); have y2 := y 2 (by decide); have y3 := y 3 (by decide); have y4 := y 4 (by decide); have y5 := y 5 (by decide)
          clear VN y
          have C2 := Lib.hid (C.put hx)
          clear C hx
          unfold Rx.hdr
          go_wp2_with fail
          go_meet
          case rel => exact .of_good (x := Rx.but (Rx.rng 10 10)) C2.out (by rw [Rx.rep_cons, if_neg (by decide), if_neg (by decide), if_pos rfl]) (by rw [Rx.may_but]; simp) (fun _ => rfl)
        · have k46 : (c == 46) = false := by simp; omega
          by_cases h92 : c = 92
          · subst h92
            have HE := Lib.hid (refEscape_any r a L cap (some l1) big W C.st)
            go_wp2_with fail
            refine HE.out.mono ?_
            intro e w1 HO
            clear HE
            have HOI := Rx.opost_int HO
            obtain ⟨c1, rfl⟩ := HOI
            have HG : ∃ t, Rx.St w1 r a L cap t big ∧ W.grownBy w1 (some r) ∧ (t = none → Rx.esc l1 = none) ∧ ∀ u, t = some u → Rx.esc l1 = some (c1, u) := by
              have e9 : (some l1).bind Rx.esc = Rx.esc l1 := rfl
              rw [e9] at HO
              cases he : Rx.esc l1 with
              | none => rw [he] at HO; obtain ⟨c', e1, S1, g1⟩ := HO; exact ⟨none, S1, g1, fun _ => rfl, fun u h => by simp at h⟩
              | some p9 =>
                obtain ⟨c', u'⟩ := p9
                rw [he] at HO
                obtain ⟨e1, S1, g1⟩ := HO
                simp only [Ending.returned.injEq, Value.int.injEq, true_and] at e1
                subst e1
                exact ⟨some u', S1, g1, fun h => by simp at h, fun u h => by injection h with h; rw [h]⟩
            obtain ⟨t1, S1, g1, hn1, hs1⟩ := HG
            have HNS := Lib.hid (And.intro hn1 hs1)
            replace C := C.on S1 g1
            have hsz1 := g1.size
            clear HO S1 g1 hn1 hs1
            have HB := Lib.hid (refSign_any c1 w1)
            go_wp2_with fail
            refine HB.out.mono ?_
            rintro e w2 ⟨v, rfl, hx, hb⟩
            replace C := C.up hb
            replace hx : Rx.IsB w2 (b < ·) (Rx.sign c1) v := hx.mono (fun j hj => by omega)
            clear hb HB
            obtain ⟨k9, f9, a9, n9, c9, rfl⟩ := hx.form
            obtain ⟨k0, f0, x0, n0, m0, VN, _⟩ := C.var
            have d0 := VN.cell.c0; have d1 := VN.cell.c1; have d2 := VN.cell.c2; have d3 := VN.cell.c3; have d4 := VN.cell.c4; have d5 := VN.cell.c5
            have y := VN.frz
            simp only [Nat.zero_add] at d0 d1 d2 d3 d4 d5
            have y0 := y 0 (by decide); have y1 := y 1 (by decide); have y2 := y 2 (by decide); have y3 := y 3 (by decide); have y4 := y 4 (by decide); have y5 := y 5 (by decide)
            clear VN y
            have C2 := Lib.hid (C.put hx)
            clear C hx
            unfold Rx.hdr
            go_wp2_with fail
            go_meet
            case rel =>
              have HR : Rx.rep (92 :: l1) = (Rx.esc l1).map fun p => Rx.post (Rx.sign p.1) p.2 := by rw [Rx.rep_cons, if_neg (by decide), if_neg (by decide), if_neg (by decide), if_pos rfl]
              have C3 := C2.out
              cases t1 with
              | none => rw [HNS.out.1 rfl] at HR; exact .of_bad C3 HR
              | some u9 => rw [HNS.out.2 u9 rfl] at HR; exact .of_good C3 HR (by rw [Rx.may_sign]; simp) (fun _ => rfl)
          · have k92 : (c == 92) = false := by simp; omega
            have HSP := Lib.hid (refSpecial_any c W)
            go_wp2_with fail
            refine HSP.out.mono ?_
            rintro e w1 ⟨rfl, rfl⟩
            clear HSP
            have HR := Lib.hid (show Rx.rep (c :: l1) = if Rx.special c = true then none else some (Rx.post (Rx.sign c) l1) by rw [Rx.rep_cons, if_neg h40, if_neg h91, if_neg h46, if_neg h92])
            clear h40 h91 h46 h92 k40 k91 k46 k92
            cases hsp : Rx.special c
            · have HB := Lib.hid (refSign_any c w1)
              go_wp2_with fail
              refine HB.out.mono ?_
              rintro e w2 ⟨v, rfl, hx, hb⟩
              replace C := C.up hb
              replace hx : Rx.IsB w2 (b < ·) (Rx.sign c) v := hx.mono (fun j hj => by omega)
              have HSC := Lib.hid hsp
              clear hb HB hsp
              obtain ⟨k9, f9, a9, n9, c9, rfl⟩ := hx.form
              obtain ⟨k0, f0, x0, n0, m0, VN, _⟩ := C.var
              have d0 := VN.cell.c0; have d1 := VN.cell.c1; have d2 := VN.cell.c2; have d3 := VN.cell.c3; have d4 := VN.cell.c4; have d5 := VN.cell.c5
              have y := VN.frz
              simp only [Nat.zero_add] at d0 d1 d2 d3 d4 d5
              have y0 := y 0 (by decide); have y1 := y 1 (by decide); have y2 := y 2 (by decide); have y3 := y 3 (by decide); have y4 := y 4 (by decide); have y5 := y 5 (by decide)
              clear VN y
              have C2 := Lib.hid (C.put hx)
              clear C hx
              unfold Rx.hdr
              go_wp2_with fail
              go_meet
              case rel => exact .of_good (x := Rx.sign c) C2.out (by rw [HR.out, HSC.out]; rfl) (by rw [Rx.may_sign]; simp) (fun _ => rfl)
            · have sb2 := C.st.b.2
              have sb1 := C.st.b.1
              have HC := Lib.hid C.bad
              have HSC := Lib.hid hsp
              have hwb : b < (w1.setCell ⟨r, 2, none⟩ (.bool true)).heap.size := by simp [go_sem]; omega
              clear hsp C
              have HB := Lib.hid (refSign_any c (w1.setCell ⟨r, 2, none⟩ (.bool true)))
              go_wp2_with fail
              refine HB.out.mono ?_
              rintro e w2 ⟨v, rfl, hx, hb⟩
              have C := HC.out.up hb
              replace hx : Rx.IsB w2 (b < ·) (Rx.sign c) v := hx.mono (fun j hj => by omega)
              clear hb HB HC
              obtain ⟨k9, f9, a9, n9, c9, rfl⟩ := hx.form
              obtain ⟨k0, f0, x0, n0, m0, VN, _⟩ := C.var
              have d0 := VN.cell.c0; have d1 := VN.cell.c1; have d2 := VN.cell.c2; have d3 := VN.cell.c3; have d4 := VN.cell.c4; have d5 := VN.cell.c5
              have y := VN.frz
              simp only [Nat.zero_add] at d0 d1 d2 d3 d4 d5
              have y0 := y 0 (by decide); have y1 := y 1 (by decide); have y2 := y 2 (by decide); have y3 := y 3 (by decide); have y4 := y 4 (by decide); have y5 := y 5 (by decide)
              clear VN y
              have C2 := Lib.hid (C.put hx)
              clear C hx
              unfold Rx.hdr
              go_wp2_with fail
              go_meet
              case rel => exact .of_bad C2.out (by rw [HR.out, HSC.out]; rfl)
  case rest =>
    have HCUT := Lib.hid hcut
    clear hcut
    go_wp2_with fail
    go_loopw [3] (fun _ wr => Rx.RI w r a L cap big b (c :: l1) wr) (fun _ wr => Rx.left wr r L.length)
    case atStart => exact HCUT.out
    case round =>
      clear HCUT
      obtain ⟨t, z, y, C, hn, hs⟩ := hrel
      cases t with
      | none =>
        have HR := Lib.hid (hn rfl)
        clear hn hs
        have sb1 := C.st.b.1
        simp only [Option.isNone] at sb1
        obtain ⟨k9, f9, a9, n9, c9, VN, VI⟩ := C.var
        have hbl := VN.lt
        have d0 := VN.cell.c0; have d1 := VN.cell.c1; have d2 := VN.cell.c2; have d3 := VN.cell.c3; have d4 := VN.cell.c4; have d5 := VN.cell.c5
        have y9 := VN.frz
        simp only [Nat.zero_add] at d0 d1 d2 d3 d4 d5
        have y0 := y9 0 (by decide); have y1 := y9 1 (by decide); have y2 := y9 2 (by decide); have y3 := y9 3 (by decide); have y4 := y9 4 (by decide); have y5 := y9 5 (by decide)
        have HVI := Lib.hid VI
        clear VN y9 VI
        have e0 := C.nod.cell.c0; have e1 := C.nod.cell.c1; have e2 := C.nod.cell.c2; have e3 := C.nod.cell.c3; have e4 := C.nod.cell.c4; have e5 := C.nod.cell.c5
        have z9 := C.nod.frz
        simp only [Nat.zero_add] at e0 e1 e2 e3 e4 e5
        have z0 := z9 0 (by decide); have z1 := z9 1 (by decide); have z2 := z9 2 (by decide); have z3 := z9 3 (by decide); have z4 := z9 4 (by decide); have z5 := z9 5 (by decide)
        clear z9
        have HC := Lib.hid C
        clear C
        go_wp2_with fail
        refine bodyPost_ret (v := Rx.hdr k9 f9 a9 n9 c9) (by simp [results, Try.results86, go_sem, Rx.hdr, e0, e1, e2, e3, e4, e5]) rfl ?_
        exact HC.out.ret HVI.out (by rw [HR.out]; rfl) (fun x t e => by rw [HR.out] at e; simp at e)
      | some u =>
        obtain ⟨x, hx1, hz, hy⟩ := hs u rfl
        have HRP := Lib.hid hx1
        have HZ := Lib.hid (And.intro hz hy)
        clear hn hs hx1 hz hy
        have sb1 := C.st.b.1
        simp only [Option.isNone] at sb1
        have HCW := Lib.hid C
        have HSE := Lib.hid (refSee_any r a L cap (some u) z _ C.st)
        obtain ⟨cc, hcc⟩ : ∃ cc, Rx.hd (some u) = cc := ⟨_, rfl⟩
        rw [hcc] at HSE
        go_wp2_with fail
        refine HSE.out.mono ?_
        rintro e w1 ⟨rfl, q1, hq1⟩
        replace C := C.up (Rx.see_below hq1)
        clear hq1 HSE sb1
        by_cases h42 : cc = 42
        · subst h42
          obtain ⟨u1, rfl⟩ : ∃ u1, u = 42 :: u1 := by
            cases u with
            | nil => simp [Rx.hd] at hcc
            | cons q u1 => simp only [Rx.hd] at hcc; exact ⟨u1, by rw [hcc]⟩
          have HP := Lib.hid (show Rx.post x (42 :: u1) = Rx.post (Rx.star x) u1 by simp [Rx.post])
          have HM := Lib.hid (show (Rx.star x).may 1 = true → x.may 1 = true from fun h => Rx.may_part h (by simp))

          obtain ⟨k9, f9, a9, n9, c9, VN, VI⟩ := C.var
          have hbl := VN.lt
          have d0 := VN.cell.c0; have d1 := VN.cell.c1; have d2 := VN.cell.c2; have d3 := VN.cell.c3; have d4 := VN.cell.c4; have d5 := VN.cell.c5
          have y9 := VN.frz
          simp only [Nat.zero_add] at d0 d1 d2 d3 d4 d5
          have y0 := y9 0 (by decide); have y1 := y9 1 (by decide); have y2 := y9 2 (by decide); have y3 := y9 3 (by decide); have y4 := y9 4 (by decide); have y5 := y9 5 (by decide)
          have HVI := Lib.hid VI
          clear VN y9 VI
          have HX : Rx.IsB (w1.alloc (.cells #[.int .u8 k9, .int .u64 (Bs.word f9 0), .int .u64 (Bs.word f9 1), .int .u64 (Bs.word f9 2), .int .u64 (Bs.word f9 3), .slice a9 n9 c9] 28)) (b < ·) (Rx.star y) (Rx.hdr 4 (fun _ => false) (some ⟨w1.heap.size, 0, none⟩) 1 1) := ⟨by omega, _, _, rfl, Rx.built (xs := [y]) (cs := Rx.six k9 f9 a9 n9 c9 ++ []) ⟨k9, f9, a9, n9, c9, _, rfl, HVI.out, rfl⟩ hbl rfl⟩
          have C2 := (C.up (Bs.below1 w1 (.cells #[.int .u8 k9, .int .u64 (Bs.word f9 0), .int .u64 (Bs.word f9 1), .int .u64 (Bs.word f9 2), .int .u64 (Bs.word f9 3), .slice a9 n9 c9] 28))).put HX
          rw [Rx.wr_alloc _ _ hbl, Rx.wr_none] at C2
          replace C2 := Lib.hid C2
          have HTK := Lib.hid (refTake_any r a L cap _ z _ C2.out.st)
          clear HX

          clear C hcc
          go_wp2_with fail
          refine HTK.out.mono ?_
          rintro e w3 ⟨rfl, S2, G2⟩
          have C3 : Rx.RW w r a L cap b (some u1) z (Rx.star y) w3 := C2.out.on S2 G2
          clear HTK S2 G2 C2 HVI d0 d1 d2 d3 d4 d5 y0 y1 y2 y3 y4 y5 hbl
          obtain ⟨k9, f9, a9, n9, c9, VN, VI⟩ := C3.var
          have hbl := VN.lt
          have d0 := VN.cell.c0; have d1 := VN.cell.c1; have d2 := VN.cell.c2; have d3 := VN.cell.c3; have d4 := VN.cell.c4; have d5 := VN.cell.c5
          have y9 := VN.frz
          simp only [Nat.zero_add] at d0 d1 d2 d3 d4 d5
          have y0 := y9 0 (by decide); have y1 := y9 1 (by decide); have y2 := y9 2 (by decide); have y3 := y9 3 (by decide); have y4 := y9 4 (by decide); have y5 := y9 5 (by decide)
          have HVI := Lib.hid VI
          clear VN y9 VI
          have HK := Lib.hid (refCappedB_any r a L cap (some u1) z (Rx.star y) _ w3 C3.st HVI.out.is)
          unfold Rx.hdr at HK
          clear hbl
          go_wp2_with fail
          refine HK.out.mono ?_
          rintro e w4 ⟨v', rfl, hv1, hv2, S4, G4⟩
          have hr4 := C3.rq
          have hb4 := C3.qb
          have C4 := C3.on S4 G4
          have HV4 := Lib.hid (HVI.out.grown G4 (fun j hj e => by injection e; omega))
          clear HK S4 G4 C3 HVI d0 d1 d2 d3 d4 d5 y0 y1 y2 y3 y4 y5
          obtain ⟨k7, f7, a7, n7, c7, VN, _⟩ := C4.var
          have d0 := VN.cell.c0; have d1 := VN.cell.c1; have d2 := VN.cell.c2; have d3 := VN.cell.c3; have d4 := VN.cell.c4; have d5 := VN.cell.c5
          have y9 := VN.frz
          simp only [Nat.zero_add] at d0 d1 d2 d3 d4 d5
          have y0 := y9 0 (by decide); have y1 := y9 1 (by decide); have y2 := y9 2 (by decide); have y3 := y9 3 (by decide); have y4 := y9 4 (by decide); have y5 := y9 5 (by decide)
          clear VN y9
          cases hm : (Rx.star y).may 1
          · have e9 := hv2 hm
            rw [hm] at C4
            have HMF := Lib.hid hm
            clear hv1 hv2 hm
            subst e9
            have C5 := C4.put (Rx.isB_nil _ _)
            rw [Rx.wr_zero] at C5
            have HC5 := Lib.hid C5
            clear C4 C5
            rw [Rx.hdr_none]
            go_wp2_with fail
            go_roundw
            case rel => exact .of_good HC5.out (by rw [HRP.out, HP.out]) (Rx.flag_no HZ.out.1 HZ.out.2 HM.out HMF.out (fun h => by rw [h])) (fun h => by simp at h)
            case measure => rw [Rx.left_some HC5.out.st, Rx.left_some HCW.out.st]; simp
          · have e9 := hv1 hm
            rw [hm] at C4
            have HMF := Lib.hid hm
            clear hv1 hv2 hm
            subst e9
            have HC5 := Lib.hid (C4.put HV4.out)
            clear C4
            go_wp2_with fail
            go_roundw
            case rel => exact .of_good HC5.out (by rw [HRP.out, HP.out]) (Rx.flag_yes HZ.out.1 HZ.out.2 HM.out HMF.out (fun h => by rw [h])) (fun h => by rw [HZ.out.2 (by simpa using h)])
            case measure =>
              have m1 := Rx.left_some HC5.out.st
              unfold Rx.wr at m1
              rw [m1, Rx.left_some HCW.out.st]
              simp
        · have k42 : (cc == 42) = false := by simp; omega
          by_cases h43 : cc = 43
          · subst h43
            obtain ⟨u1, rfl⟩ : ∃ u1, u = 43 :: u1 := by
              cases u with
              | nil => simp [Rx.hd] at hcc
              | cons q u1 => simp only [Rx.hd] at hcc; exact ⟨u1, by rw [hcc]⟩
            have HP := Lib.hid (show Rx.post x (43 :: u1) = Rx.post (Rx.plus x) u1 by simp [Rx.post])
            have HM := Lib.hid (show (Rx.plus x).may 1 = true → x.may 1 = true from fun h => Rx.may_part h (by simp))

            obtain ⟨k9, f9, a9, n9, c9, VN, VI⟩ := C.var
            have hbl := VN.lt
            have d0 := VN.cell.c0; have d1 := VN.cell.c1; have d2 := VN.cell.c2; have d3 := VN.cell.c3; have d4 := VN.cell.c4; have d5 := VN.cell.c5
            have y9 := VN.frz
            simp only [Nat.zero_add] at d0 d1 d2 d3 d4 d5
            have y0 := y9 0 (by decide); have y1 := y9 1 (by decide); have y2 := y9 2 (by decide); have y3 := y9 3 (by decide); have y4 := y9 4 (by decide); have y5 := y9 5 (by decide)
            have HVI := Lib.hid VI
            clear VN y9 VI
            have B1 := Bs.below1 w1 (.cells #[.int .u8 k9, .int .u64 (Bs.word f9 0), .int .u64 (Bs.word f9 1), .int .u64 (Bs.word f9 2), .int .u64 (Bs.word f9 3), .slice a9 n9 c9] 28)
            have hbl2 : b < (w1.alloc (.cells #[.int .u8 k9, .int .u64 (Bs.word f9 0), .int .u64 (Bs.word f9 1), .int .u64 (Bs.word f9 2), .int .u64 (Bs.word f9 3), .slice a9 n9 c9] 28)).heap.size := by have := B1.size; omega
            have esz : (w1.alloc (.cells #[.int .u8 k9, .int .u64 (Bs.word f9 0), .int .u64 (Bs.word f9 1), .int .u64 (Bs.word f9 2), .int .u64 (Bs.word f9 3), .slice a9 n9 c9] 28)).heap.size = w1.heap.size + 1 := by simp [go_sem]
            have HS1 : Rx.IsB (w1.alloc (.cells #[.int .u8 k9, .int .u64 (Bs.word f9 0), .int .u64 (Bs.word f9 1), .int .u64 (Bs.word f9 2), .int .u64 (Bs.word f9 3), .slice a9 n9 c9] 28)) (b < ·) (Rx.star y) (Rx.hdr 4 (fun _ => false) (some ⟨w1.heap.size, 0, none⟩) 1 1) := ⟨by omega, _, _, rfl, Rx.built (xs := [y]) (cs := Rx.six k9 f9 a9 n9 c9 ++ []) ⟨k9, f9, a9, n9, c9, _, rfl, HVI.out, rfl⟩ hbl rfl⟩
            have HX : Rx.IsB ((w1.alloc (.cells #[.int .u8 k9, .int .u64 (Bs.word f9 0), .int .u64 (Bs.word f9 1), .int .u64 (Bs.word f9 2), .int .u64 (Bs.word f9 3), .slice a9 n9 c9] 28)).alloc (.cells #[.int .u8 k9, .int .u64 (Bs.word f9 0), .int .u64 (Bs.word f9 1), .int .u64 (Bs.word f9 2), .int .u64 (Bs.word f9 3), .slice a9 n9 c9, .int .u8 4, .int .u64 0, .int .u64 0, .int .u64 0, .int .u64 0, .slice (some ⟨w1.heap.size, 0, none⟩) 1 1] 28)) (b < ·) (Rx.plus y) (Rx.hdr 2 (fun _ => false) (some ⟨(w1.alloc (.cells #[.int .u8 k9, .int .u64 (Bs.word f9 0), .int .u64 (Bs.word f9 1), .int .u64 (Bs.word f9 2), .int .u64 (Bs.word f9 3), .slice a9 n9 c9] 28)).heap.size, 0, none⟩) 2 2) := ⟨by omega, _, _, rfl, Rx.built (xs := [y, Rx.star y]) (cs := Rx.six k9 f9 a9 n9 c9 ++ (Rx.six 4 (fun _ => false) (some ⟨w1.heap.size, 0, none⟩) 1 1 ++ [])) ⟨k9, f9, a9, n9, c9, _, rfl, HVI.out.up B1, ⟨_, _, _, _, _, _, rfl, HS1, rfl⟩⟩ hbl2 (by simp [Rx.six, Bs.word_none])⟩
            have C2 := (C.up (Bs.below2 w1 (.cells #[.int .u8 k9, .int .u64 (Bs.word f9 0), .int .u64 (Bs.word f9 1), .int .u64 (Bs.word f9 2), .int .u64 (Bs.word f9 3), .slice a9 n9 c9] 28) (.cells #[.int .u8 k9, .int .u64 (Bs.word f9 0), .int .u64 (Bs.word f9 1), .int .u64 (Bs.word f9 2), .int .u64 (Bs.word f9 3), .slice a9 n9 c9, .int .u8 4, .int .u64 0, .int .u64 0, .int .u64 0, .int .u64 0, .slice (some ⟨w1.heap.size, 0, none⟩) 1 1] 28))).put HX
            rw [Rx.wr_alloc _ _ hbl2, Rx.wr_alloc _ _ hbl, Rx.wr_none, esz] at C2
            replace C2 := Lib.hid C2
            have HTK := Lib.hid (refTake_any r a L cap _ z _ C2.out.st)
            clear HX HS1 B1 hbl2 esz

            clear C hcc
            go_wp2_with fail
            refine HTK.out.mono ?_
            rintro e w3 ⟨rfl, S2, G2⟩
            have C3 : Rx.RW w r a L cap b (some u1) z (Rx.plus y) w3 := C2.out.on S2 G2
            clear HTK S2 G2 C2 HVI d0 d1 d2 d3 d4 d5 y0 y1 y2 y3 y4 y5 hbl
            obtain ⟨k9, f9, a9, n9, c9, VN, VI⟩ := C3.var
            have hbl := VN.lt
            have d0 := VN.cell.c0; have d1 := VN.cell.c1; have d2 := VN.cell.c2; have d3 := VN.cell.c3; have d4 := VN.cell.c4; have d5 := VN.cell.c5
            have y9 := VN.frz
            simp only [Nat.zero_add] at d0 d1 d2 d3 d4 d5
            have y0 := y9 0 (by decide); have y1 := y9 1 (by decide); have y2 := y9 2 (by decide); have y3 := y9 3 (by decide); have y4 := y9 4 (by decide); have y5 := y9 5 (by decide)
            have HVI := Lib.hid VI
            clear VN y9 VI
            have HK := Lib.hid (refCappedB_any r a L cap (some u1) z (Rx.plus y) _ w3 C3.st HVI.out.is)
            unfold Rx.hdr at HK
            clear hbl
            go_wp2_with fail
            refine HK.out.mono ?_
            rintro e w4 ⟨v', rfl, hv1, hv2, S4, G4⟩
            have hr4 := C3.rq
            have hb4 := C3.qb
            have C4 := C3.on S4 G4
            have HV4 := Lib.hid (HVI.out.grown G4 (fun j hj e => by injection e; omega))
            clear HK S4 G4 C3 HVI d0 d1 d2 d3 d4 d5 y0 y1 y2 y3 y4 y5
            obtain ⟨k7, f7, a7, n7, c7, VN, _⟩ := C4.var
            have d0 := VN.cell.c0; have d1 := VN.cell.c1; have d2 := VN.cell.c2; have d3 := VN.cell.c3; have d4 := VN.cell.c4; have d5 := VN.cell.c5
            have y9 := VN.frz
            simp only [Nat.zero_add] at d0 d1 d2 d3 d4 d5
            have y0 := y9 0 (by decide); have y1 := y9 1 (by decide); have y2 := y9 2 (by decide); have y3 := y9 3 (by decide); have y4 := y9 4 (by decide); have y5 := y9 5 (by decide)
            clear VN y9
            cases hm : (Rx.plus y).may 1
            · have e9 := hv2 hm
              rw [hm] at C4
              have HMF := Lib.hid hm
              clear hv1 hv2 hm
              subst e9
              have C5 := C4.put (Rx.isB_nil _ _)
              rw [Rx.wr_zero] at C5
              have HC5 := Lib.hid C5
              clear C4 C5
              rw [Rx.hdr_none]
              go_wp2_with fail
              go_roundw
              case rel => exact .of_good HC5.out (by rw [HRP.out, HP.out]) (Rx.flag_no HZ.out.1 HZ.out.2 HM.out HMF.out (fun h => by rw [h])) (fun h => by simp at h)
              case measure => rw [Rx.left_some HC5.out.st, Rx.left_some HCW.out.st]; simp
            · have e9 := hv1 hm
              rw [hm] at C4
              have HMF := Lib.hid hm
              clear hv1 hv2 hm
              subst e9
              have HC5 := Lib.hid (C4.put HV4.out)
              clear C4
              go_wp2_with fail
              go_roundw
              case rel => exact .of_good HC5.out (by rw [HRP.out, HP.out]) (Rx.flag_yes HZ.out.1 HZ.out.2 HM.out HMF.out (fun h => by rw [h])) (fun h => by rw [HZ.out.2 (by simpa using h)])
              case measure =>
                have m1 := Rx.left_some HC5.out.st
                unfold Rx.wr at m1
                rw [m1, Rx.left_some HCW.out.st]
                simp
          · have k43 : (cc == 43) = false := by simp; omega
            by_cases h63 : cc = 63
            · subst h63
              obtain ⟨u1, rfl⟩ : ∃ u1, u = 63 :: u1 := by
                cases u with
                | nil => simp [Rx.hd] at hcc
                | cons q u1 => simp only [Rx.hd] at hcc; exact ⟨u1, by rw [hcc]⟩
              have HP := Lib.hid (show Rx.post x (63 :: u1) = Rx.post (Rx.opt x) u1 by simp [Rx.post])
              have HM := Lib.hid (show (Rx.opt x).may 1 = true → x.may 1 = true from fun h => Rx.may_part h (by simp))

              obtain ⟨k9, f9, a9, n9, c9, VN, VI⟩ := C.var
              have hbl := VN.lt
              have d0 := VN.cell.c0; have d1 := VN.cell.c1; have d2 := VN.cell.c2; have d3 := VN.cell.c3; have d4 := VN.cell.c4; have d5 := VN.cell.c5
              have y9 := VN.frz
              simp only [Nat.zero_add] at d0 d1 d2 d3 d4 d5
              have y0 := y9 0 (by decide); have y1 := y9 1 (by decide); have y2 := y9 2 (by decide); have y3 := y9 3 (by decide); have y4 := y9 4 (by decide); have y5 := y9 5 (by decide)
              have HVI := Lib.hid VI
              clear VN y9 VI
              have HX : Rx.IsB (w1.alloc (.cells #[.int .u8 k9, .int .u64 (Bs.word f9 0), .int .u64 (Bs.word f9 1), .int .u64 (Bs.word f9 2), .int .u64 (Bs.word f9 3), .slice a9 n9 c9, .int .u8 0, .int .u64 0, .int .u64 0, .int .u64 0, .int .u64 0, .slice none 0 0] 28)) (b < ·) (Rx.opt y) (Rx.hdr 3 (fun _ => false) (some ⟨w1.heap.size, 0, none⟩) 2 2) := ⟨by omega, _, _, rfl, Rx.built (xs := [y, Rx.nil]) (cs := Rx.six k9 f9 a9 n9 c9 ++ (Rx.six 0 (fun _ => false) none 0 0 ++ [])) ⟨k9, f9, a9, n9, c9, _, rfl, HVI.out, ⟨_, _, _, _, _, _, rfl, Rx.isB_nil _ _, rfl⟩⟩ hbl (by simp [Rx.six, Bs.word_none])⟩
              have C2 := (C.up (Bs.below1 w1 (.cells #[.int .u8 k9, .int .u64 (Bs.word f9 0), .int .u64 (Bs.word f9 1), .int .u64 (Bs.word f9 2), .int .u64 (Bs.word f9 3), .slice a9 n9 c9, .int .u8 0, .int .u64 0, .int .u64 0, .int .u64 0, .int .u64 0, .slice none 0 0] 28))).put HX
              rw [Rx.wr_alloc _ _ hbl, Rx.wr_none] at C2
              replace C2 := Lib.hid C2
              have HTK := Lib.hid (refTake_any r a L cap _ z _ C2.out.st)
              clear HX

              clear C hcc
              go_wp2_with fail
              refine HTK.out.mono ?_
              rintro e w3 ⟨rfl, S2, G2⟩
              have C3 : Rx.RW w r a L cap b (some u1) z (Rx.opt y) w3 := C2.out.on S2 G2
              clear HTK S2 G2 C2 HVI d0 d1 d2 d3 d4 d5 y0 y1 y2 y3 y4 y5 hbl
              obtain ⟨k9, f9, a9, n9, c9, VN, VI⟩ := C3.var
              have hbl := VN.lt
              have d0 := VN.cell.c0; have d1 := VN.cell.c1; have d2 := VN.cell.c2; have d3 := VN.cell.c3; have d4 := VN.cell.c4; have d5 := VN.cell.c5
              have y9 := VN.frz
              simp only [Nat.zero_add] at d0 d1 d2 d3 d4 d5
              have y0 := y9 0 (by decide); have y1 := y9 1 (by decide); have y2 := y9 2 (by decide); have y3 := y9 3 (by decide); have y4 := y9 4 (by decide); have y5 := y9 5 (by decide)
              have HVI := Lib.hid VI
              clear VN y9 VI
              have HK := Lib.hid (refCappedB_any r a L cap (some u1) z (Rx.opt y) _ w3 C3.st HVI.out.is)
              unfold Rx.hdr at HK
              clear hbl
              go_wp2_with fail
              refine HK.out.mono ?_
              rintro e w4 ⟨v', rfl, hv1, hv2, S4, G4⟩
              have hr4 := C3.rq
              have hb4 := C3.qb
              have C4 := C3.on S4 G4
              have HV4 := Lib.hid (HVI.out.grown G4 (fun j hj e => by injection e; omega))
              clear HK S4 G4 C3 HVI d0 d1 d2 d3 d4 d5 y0 y1 y2 y3 y4 y5
              obtain ⟨k7, f7, a7, n7, c7, VN, _⟩ := C4.var
              have d0 := VN.cell.c0; have d1 := VN.cell.c1; have d2 := VN.cell.c2; have d3 := VN.cell.c3; have d4 := VN.cell.c4; have d5 := VN.cell.c5
              have y9 := VN.frz
              simp only [Nat.zero_add] at d0 d1 d2 d3 d4 d5
              have y0 := y9 0 (by decide); have y1 := y9 1 (by decide); have y2 := y9 2 (by decide); have y3 := y9 3 (by decide); have y4 := y9 4 (by decide); have y5 := y9 5 (by decide)
              clear VN y9
              cases hm : (Rx.opt y).may 1
              · have e9 := hv2 hm
                rw [hm] at C4
                have HMF := Lib.hid hm
                clear hv1 hv2 hm
                subst e9
                have C5 := C4.put (Rx.isB_nil _ _)
                rw [Rx.wr_zero] at C5
                have HC5 := Lib.hid C5
                clear C4 C5
                rw [Rx.hdr_none]
                go_wp2_with fail
                go_roundw
                case rel => exact .of_good HC5.out (by rw [HRP.out, HP.out]) (Rx.flag_no HZ.out.1 HZ.out.2 HM.out HMF.out (fun h => by rw [h])) (fun h => by simp at h)
                case measure => rw [Rx.left_some HC5.out.st, Rx.left_some HCW.out.st]; simp
              · have e9 := hv1 hm
                rw [hm] at C4
                have HMF := Lib.hid hm
                clear hv1 hv2 hm
                subst e9
                have HC5 := Lib.hid (C4.put HV4.out)
                clear C4
                go_wp2_with fail
                go_roundw
                case rel => exact .of_good HC5.out (by rw [HRP.out, HP.out]) (Rx.flag_yes HZ.out.1 HZ.out.2 HM.out HMF.out (fun h => by rw [h])) (fun h => by rw [HZ.out.2 (by simpa using h)])
                case measure =>
                  have m1 := Rx.left_some HC5.out.st
                  unfold Rx.wr at m1
                  rw [m1, Rx.left_some HCW.out.st]
                  simp
            · have k63 : (cc == 63) = false := by simp; omega
              have HP := Lib.hid (show Rx.post x u = (x, u) by
                cases u with
                | nil => rfl
                | cons q u1 =>
                  simp only [Rx.hd] at hcc
                  subst hcc
                  rw [Rx.post, if_neg h42, if_neg h43, if_neg h63])
              clear hcc h42 h43 h63
              obtain ⟨k9, f9, a9, n9, c9, VN, VI⟩ := C.var
              have hbl := VN.lt
              have d0 := VN.cell.c0; have d1 := VN.cell.c1; have d2 := VN.cell.c2; have d3 := VN.cell.c3; have d4 := VN.cell.c4; have d5 := VN.cell.c5
              have y9 := VN.frz
              simp only [Nat.zero_add] at d0 d1 d2 d3 d4 d5
              have y0 := y9 0 (by decide); have y1 := y9 1 (by decide); have y2 := y9 2 (by decide); have y3 := y9 3 (by decide); have y4 := y9 4 (by decide); have y5 := y9 5 (by decide)
              have HVI := Lib.hid VI
              clear VN y9 VI
              have e0 := C.nod.cell.c0; have e1 := C.nod.cell.c1; have e2 := C.nod.cell.c2; have e3 := C.nod.cell.c3; have e4 := C.nod.cell.c4; have e5 := C.nod.cell.c5
              have z9 := C.nod.frz
              simp only [Nat.zero_add] at e0 e1 e2 e3 e4 e5
              have z0 := z9 0 (by decide); have z1 := z9 1 (by decide); have z2 := z9 2 (by decide); have z3 := z9 3 (by decide); have z4 := z9 4 (by decide); have z5 := z9 5 (by decide)
              clear z9
              have HC := Lib.hid C
              clear C
              go_wp2_with fail
              refine bodyPost_ret (v := Rx.hdr k9 f9 a9 n9 c9) (by simp [results, Try.results86, go_sem, Rx.hdr, e0, e1, e2, e3, e4, e5]) rfl ?_
              exact HC.out.ret HVI.out (by rw [HRP.out, HP.out]; rfl) (fun x9 t9 e9 => by rw [HRP.out, HP.out] at e9; injection e9 with e9; injection e9 with e8 e9; subst e8; exact HZ.out)

end Go.Proofs.Ytigdelfoipcilaa
