/- A table in memory; the greatest class, walked. A region that draws its order, some edges of which bind no order: plain. A region that draws its order, whose world and answers hang on which operations are done, and on something of one's own that is kept beside (which blocks were made): plain. A rule for drawn regions with guards, whatever they say: what a guard doesn't want is left out. Whether a table may be, walked. has, Run, Rule of a table, walked. The state behind a text, by a table: plain facts; Run, Rule, walked. The document's Run of a table that may be, walked. The document's Right of a table, walked. -/
import Derived.Test.YthapedadnbkgnaaG11
import Derived.Test.YthapedadnbkgnaaG4
import Derived.Test.YthapedadnbkgnaaG5
namespace Go.Proofs.Ythapedadnbkgnaa
set_option linter.unusedVariables false
set_option linter.unusedSimpArgs false
open Go.RowKit
def Df.top (g : Nat → Nat) : Nat → Nat
  | 0 => g 0
  | k + 1 => max (Df.top g k) (g (k + 1))
theorem Df.top_lt {g : Nat → Nat} (h : ∀ c, g c < 256) : ∀ k, Df.top g k < 256
  | 0 => h 0
  | k + 1 => by
    have := Df.top_lt h k
    have := h (k + 1)
    rw [Df.top]
    omega
theorem Df.le_top (g : Nat → Nat) : ∀ k c, c ≤ k → g c ≤ Df.top g k
  | 0, c, h => by
    obtain rfl : c = 0 := by omega
    exact Nat.le_refl _
  | k + 1, c, h => by
    rw [Df.top]
    by_cases e : c = k + 1
    · subst e; omega
    · have := Df.le_top g k c (by omega)
      omega
def Df.tab (g : Nat → Nat) (vn vr : Value) : Value := .agg (Bs.arr g ++ #[vn, vr])
structure Df.TB (w : World) (b : Nat) (g : Nat → Nat) (vn vr : Value) : Prop where
  cls : ∀ c, c < 256 → w.cell? ⟨b, c, none⟩ = some (.int .u8 (g c))
  nx : w.cell? ⟨b, 256, none⟩ = some vn
  rl : w.cell? ⟨b, 257, none⟩ = some vr
theorem Df.TB.up {w w' : World} {b : Nat} {g : Nat → Nat} {vn vr : Value} (h : Df.TB w b g vn vr) (hb : Below w.heap.size w w') : Df.TB w' b g vn vr :=
  ⟨fun c hc => Bs.cell_up hb (h.cls c hc), Bs.cell_up hb h.nx, Bs.cell_up hb h.rl⟩
theorem Df.tb_new (w : World) (g : Nat → Nat) (vn vr : Value) (t : TypeId) : Df.TB (w.alloc (.cells (Bs.arr g ++ #[vn, vr]) t)) w.heap.size g vn vr := by
  have hc : ∀ i v, (Bs.arr g ++ #[vn, vr])[i]? = some v → (w.alloc (.cells (Bs.arr g ++ #[vn, vr]) t)).cell? ⟨w.heap.size, i, none⟩ = some v := by
    intro i v h
    rw [cell_of_row _ _ _ _ _ _ (heap_alloc_new w _)]
    exact h
  refine ⟨fun c h => hc c _ ?_, hc 256 _ ?_, hc 257 _ ?_⟩
  · rw [Array.getElem?_append_left (by rw [Bs.arr_size]; exact h)]
    exact Bs.arr_at g c h
  · rw [Array.getElem?_append_right (by rw [Bs.arr_size]; omega), Bs.arr_size]
    rfl
  · rw [Array.getElem?_append_right (by rw [Bs.arr_size]; omega), Bs.arr_size]
    rfl
set_option maxRecDepth 100000 in
set_option maxHeartbeats 1000000 in
theorem maxB_any (g : Nat → Nat) (b cap : Nat) (w : World) (hg : ∀ c, g c < 256) (h : ∀ c, c < 256 → w.cell? ⟨b, c, none⟩ = some (.int .u8 (g c))) :
    Calls Try.prog 58 #[.slice (some ⟨b, 0, none⟩) 256 cap] w fun e w' => e = .returned (.int .u8 (Df.top g 255)) ∧ w' = w := by
  have H := Lib.hid h
  have h0 := h 0 (by omega)
  clear h
  go_enter Try.func58, Try.ntmps58
  go_wp2_with fail
  go_loopw [3, 4] (fun m i wr => ∃ k : Nat, k < 256 ∧ i = .int .i64 (k + 1 : Nat) ∧ m = .int .u8 (Df.top g k) ∧ wr = w) (fun _ i _ => 257 - (intOf i).toNat)
  case atStart => exact ⟨0, by omega, rfl, rfl, by first | rfl | trivial⟩
  case round =>
    obtain ⟨k, hk, rfl, rfl, hwr⟩ := hrel
    subst hwr
    by_cases hlt : k < 255
    · have hx := H.out (k + 1) (by omega)
      have i1 : (0 : Int) ≤ (k : Int) + 1 := by omega
      have i2 : (k : Int) + 1 < 256 := by omega
      have e1 : decide ((k : Int) + 1 < 256) = true := decide_eq_true i2
      have HT := Lib.hid (show Df.top g (k + 1) = max (Df.top g k) (g (k + 1)) from rfl)
      generalize g (k + 1) = y at *
      generalize Df.top g k = z at *
      go_wp2_with fail
      go_roundw
      case rel => exact ⟨k + 1, by omega, by go_num, by rw [HT.out]; congr 1; omega, by first | rfl | trivial⟩
      case measure => simp [intOf]; omega
    · obtain rfl : k = 255 := by omega
      go_wp2_with fail
      go_ret
      exact ⟨rfl, by first | rfl | trivial⟩
end Go.Proofs.Ythapedadnbkgnaa
namespace Go.Proofs.Ythapedadnbkgnaa
set_option linter.unusedVariables false
set_option linter.unusedSimpArgs false
def Rg.StepsW (P : Program) (Rel : Nat → Value → World → Prop) (W : World → Prop) (M : World → World → Prop) (ρ : (Nat → Value) → Operand → Value) : List Oper → Nat → Prop
  | [], _ => True
  | o :: r, i => (∀ (f : Nat → Value) (w : World), W w → (∀ e ∈ o.after.toList, Region.binds .any e = true → Rel e.on (f e.on) w) → Rg.step P (ρ f) o w fun v w' => Rel i v w' ∧ W w' ∧ M w w') ∧ Rg.StepsW P Rel W M ρ r (i + 1)
theorem Rg.StepsW.get {P : Program} {Rel : Nat → Value → World → Prop} {W : World → Prop} {M : World → World → Prop} {ρ : (Nat → Value) → Operand → Value} : ∀ {l : List Oper} {i : Nat}, Rg.StepsW P Rel W M ρ l i → ∀ j o, l[j]? = some o → ∀ (f : Nat → Value) (w : World), W w → (∀ e ∈ o.after.toList, Region.binds .any e = true → Rel e.on (f e.on) w) → Rg.step P (ρ f) o w fun v w' => Rel (i + j) v w' ∧ W w' ∧ M w w'
  | [], _, _, j, o, h => by simp at h
  | o' :: r, i, hs, j, o, h => by
    cases j with
    | zero => simp at h; subst h; exact hs.1
    | succ j =>
      have := Rg.StepsW.get hs.2 j o (by simpa using h)
      rwa [show i + 1 + j = i + (j + 1) by omega] at this
end Go.Proofs.Ythapedadnbkgnaa
namespace Go.Proofs.Ythapedadnbkgnaa
set_option linter.unusedVariables false
set_option linter.unusedSimpArgs false
def Rg.StepsY {γ : Type} (P : Program) (Rel : γ → Nat → Value → World → Prop) (W : γ → (Nat → Bool) → World → Prop) (M : Nat → γ → World → γ → World → Prop) (ρ : (Nat → Value) → Operand → Value) : List Oper → Nat → Prop
  | [], _ => True
  | o :: r, i => (∀ (g : γ) (L : Nat → Bool) (f : Nat → Value) (w : World), L i = false → W g L w → (∀ e ∈ o.after.toList, Region.binds .any e = true → L e.on = true ∧ Rel g e.on (f e.on) w) → Rg.step P (ρ f) o w fun v w' => ∃ g', Rel g' i v w' ∧ W g' (fun k => if k = i then true else L k) w' ∧ M i g w g' w') ∧ Rg.StepsY P Rel W M ρ r (i + 1)
theorem Rg.StepsY.get {γ : Type} {P : Program} {Rel : γ → Nat → Value → World → Prop} {W : γ → (Nat → Bool) → World → Prop} {M : Nat → γ → World → γ → World → Prop} {ρ : (Nat → Value) → Operand → Value} : ∀ {l : List Oper} {i : Nat}, Rg.StepsY P Rel W M ρ l i → ∀ j o, l[j]? = some o → ∀ (g : γ) (L : Nat → Bool) (f : Nat → Value) (w : World), L (i + j) = false → W g L w → (∀ e ∈ o.after.toList, Region.binds .any e = true → L e.on = true ∧ Rel g e.on (f e.on) w) → Rg.step P (ρ f) o w fun v w' => ∃ g', Rel g' (i + j) v w' ∧ W g' (fun k => if k = i + j then true else L k) w' ∧ M (i + j) g w g' w'
  | [], _, _, j, o, h => by simp at h
  | o' :: r, i, hs, j, o, h => by
    cases j with
    | zero => simp at h; subst h; exact hs.1
    | succ j =>
      have := Rg.StepsY.get hs.2 j o (by simpa using h)
      rwa [show i + 1 + j = i + (j + 1) by omega] at this
end Go.Proofs.Ythapedadnbkgnaa
namespace Go.Proofs.Ythapedadnbkgnaa
set_option linter.unusedVariables false
set_option linter.unusedSimpArgs false
open Go.RowKit
def Rg.StepsG (P : Program) (Rel : Nat → Value → World → Prop) (W : World → Prop) (M : World → World → Prop) (ρ : (Nat → Value) → Operand → Value) : List Oper → Nat → Prop
  | [], _ => True
  | o :: r, i => (∀ (f : Nat → Value) (w : World), W w → (∀ e ∈ o.after.toList, Rel e.on (f e.on) w) → (match o.guard with
      | none => Rg.step P (ρ f) o w fun v w' => Rel i v w' ∧ W w' ∧ M w w'
      | some (j, b) => if Rg.isB (f j) b = true then Rg.step P (ρ f) o w fun v w' => Rel i v w' ∧ W w' ∧ M w w' else Rel i undef w)) ∧ Rg.StepsG P Rel W M ρ r (i + 1)
theorem Rg.StepsG.get {P : Program} {Rel : Nat → Value → World → Prop} {W : World → Prop} {M : World → World → Prop} {ρ : (Nat → Value) → Operand → Value} : ∀ {l : List Oper} {i : Nat}, Rg.StepsG P Rel W M ρ l i → ∀ (j : Nat) (o : Oper), l[j]? = some o → ∀ (f : Nat → Value) (w : World), W w → (∀ e ∈ o.after.toList, Rel e.on (f e.on) w) → (match o.guard with
      | none => Rg.step P (ρ f) o w fun v w' => Rel (i + j) v w' ∧ W w' ∧ M w w'
      | some (g, b) => if Rg.isB (f g) b = true then Rg.step P (ρ f) o w fun v w' => Rel (i + j) v w' ∧ W w' ∧ M w w' else Rel (i + j) undef w)
  | [], _, _, j, o, h => by simp at h
  | o' :: r, i, hs, j, o, h => by
    cases j with
    | zero => simp at h; subst h; exact hs.1
    | succ j =>
      have := Rg.StepsG.get hs.2 j o (by simpa using h)
      rwa [show i + 1 + j = i + (j + 1) by omega] at this
end Go.Proofs.Ythapedadnbkgnaa
namespace Go.Proofs.Ythapedadnbkgnaa
set_option linter.unusedVariables false
set_option linter.unusedSimpArgs false
open Go.RowKit
def Df.rt (g : Nat → Nat) (N : List (List Int)) (R : List Int) : Bool :=
  decide (1 ≤ N.length) && decide (N.length ≤ 500) && decide (R.length = N.length) && R.all (Df.wi 32) && decide (Df.top g 255 < (N.getD 0 []).length) && N.all (Df.rowOk (N.getD 0 []).length N.length)
structure Df.Tv (w : World) (v : Value) (g : Nat → Nat) (N : List (List Int)) (R : List Int) : Prop where
  cl : ∀ c, g c < 256
  is : ∃ a1 n1 c1 rows a2 n2 c2, v = Df.tab g (.slice a1 n1 c1) (.slice a2 n2 c2) ∧ rows.length = n1 ∧ Ng.Sv w a1 rows ∧ Df.Rws w rows N ∧ Nf.Row w (fun _ => True) (.slice a2 n2 c2) R
  lim : N.length ≤ 9223372036854775807 ∧ R.length ≤ 9223372036854775807 ∧ ∀ l ∈ N, l.length ≤ 9223372036854775807
theorem Df.Tv.up {w w' : World} {v : Value} {g : Nat → Nat} {N : List (List Int)} {R : List Int} (h : Df.Tv w v g N R) (hb : Below w.heap.size w w') : Df.Tv w' v g N R := by
  obtain ⟨a1, n1, c1, rows, a2, n2, c2, e, h1, h2, h3, h4⟩ := h.is
  exact ⟨h.cl, ⟨a1, n1, c1, rows, a2, n2, c2, e, h1, h2.up hb, h3.up hb, h4.up hb⟩, h.lim⟩
theorem Df.not_anyA {α : Type} (g : α → Bool) : ∀ l : List α, (!l.any fun x => !g x) = l.all g
  | [] => rfl
  | x :: r => by
    have := Df.not_anyA g r
    simp only [List.any_cons, List.all_cons, ← this]
    cases g x <;> simp
structure Df.RW (w0 : World) (b b4 bn : Nat) (ad : Addr) (n c wide : Nat) (vr : Value) (g : Nat → Nat) (rows : List Value) (N : List (List Int)) (v : World) : Prop where
  tb : Df.TB v b g (.slice (some ad) n c) vr
  sv : Ng.Sv v (some ad) rows
  rw' : Df.Rws v rows N
  cn : v.cell? ⟨bn, 0, none⟩ = some (.int .i64 n)
  cw : v.cell? ⟨b4, 0, none⟩ = some (.int .i64 wide)
  bel : Below w0.heap.size w0 v
theorem Df.RW.up {w0 : World} {b b4 bn : Nat} {ad : Addr} {n c wide : Nat} {vr : Value} {g : Nat → Nat} {rows : List Value} {N : List (List Int)} {v u : World} (h : Df.RW w0 b b4 bn ad n c wide vr g rows N v) (hb : Below v.heap.size v u) : Df.RW w0 b b4 bn ad n c wide vr g rows N u :=
  ⟨h.tb.up hb, h.sv.up hb, h.rw'.up hb, Bs.cell_up hb h.cn, Bs.cell_up hb h.cw, Bs.below_up h.bel hb⟩
theorem Df.RW.dr {w0 : World} {b b4 bn : Nat} {ad : Addr} {n c wide : Nat} {vr : Value} {g : Nat → Nat} {rows : List Value} {N : List (List Int)} {v : World} (h : Df.RW w0 b b4 bn ad n c wide vr g rows N v) : Df.RW w0 b b4 bn ad n c wide vr g rows N v.drew := h.up (Below.refl _ _).drew
theorem Df.cell_dr {v : World} {a : Addr} {x : Value} (h : v.cell? a = some x) : v.drew.cell? a = some x := h
theorem Df.max_b (g : Nat → Nat) (b cap : Nat) (w : World) (hg : ∀ c, g c < 256) (h : ∀ c, c < 256 → w.cell? ⟨b, c, none⟩ = some (.int .u8 (g c))) :
    Calls Try.prog 58 #[.slice (some ⟨b, 0, none⟩) 256 cap] w fun e w' => e = .returned (.int .u8 (Df.top g 255)) ∧ Below w.heap.size w w' :=
  (maxB_any g b cap w hg h).mono fun e w' ⟨h1, h2⟩ => ⟨h1, h2 ▸ Below.refl _ _⟩
set_option maxRecDepth 100000 in
set_option maxHeartbeats 1000000 in
theorem rightT_any (g : Nat → Nat) (N : List (List Int)) (R : List Int) (v : Value) (w : World) (h : Df.Tv w v g N R) : Calls Try.prog 34 #[v] w (Bs.BPost w (Df.rt g N R)) := by
  obtain ⟨hcl, ⟨a1, n1, c1, rows, a2, n2, c2, rfl, hlen, hS, hR, hRl⟩, hl1, hl2, hl3⟩ := h
  have TB := Df.tb_new w g (.slice a1 n1 c1) (.slice a2 n2 c2) 40
  have B1 := Bs.below1 w (.cells (Bs.arr g ++ #[.slice a1 n1 c1, .slice a2 n2 c2]) 40)
  have HTB := Lib.hid TB
  have HB := Lib.hid B1
  have HS := Lib.hid (hS.up B1)
  have HR := Lib.hid (hR.up B1)
  have HRl := Lib.hid (hRl.up B1)
  have hn1 : n1 = N.length := by rw [← hlen]; exact hR.1
  have hn2 : n2 = R.length := hRl.at.1
  have HN1 := Lib.hid hn1
  have HN2 := Lib.hid hn2
  have HL := Lib.hid hlen
  have HLN := Lib.hid hl3
  have b1' : n1 ≤ 9223372036854775807 := by omega
  have b2' : n2 ≤ 9223372036854775807 := by omega
  have hr : w.heap.size < (w.alloc (.cells (Bs.arr g ++ #[.slice a1 n1 c1, .slice a2 n2 c2]) 40)).heap.size := by simp [go_sem]
  clear TB B1 hS hR hRl hlen hn1 hn2 hl1 hl2 hl3
  unfold Df.tab
  go_enter Try.func34, Try.ntmps34
  go_upto_region 1 with fail
  generalize w.alloc (.cells (Bs.arr g ++ #[.slice a1 n1 c1, .slice a2 n2 c2]) 40) = W at *
  have x1 := HTB.out.nx
  go_upto_region 2 with fail
  have B2 := Bs.below1 W (.cells #[.int .i64 n1] 3)
  have HTB2 := Lib.hid (HTB.out.up B2)
  have HB2 := Lib.hid (Bs.below_up HB.out B2)
  have HS2 := Lib.hid (HS.out.up B2)
  have HR2 := Lib.hid (HR.out.up B2)
  have HRl2 := Lib.hid (HRl.out.up B2)
  have xn : (W.alloc (.cells #[.int .i64 n1] 3)).cell? ⟨W.heap.size, 0, none⟩ = some (.int .i64 n1) := by simp [go_sem]
  have hb2 : W.heap.size < (W.alloc (.cells #[.int .i64 n1] 3)).heap.size := by simp [go_sem]
  have hne : w.heap.size ≠ W.heap.size := by omega
  clear B2 HTB HB HS HR HRl x1
  generalize W.alloc (.cells #[.int .i64 n1] 3) = U at *
  generalize W.heap.size = bn at *
  have x1 := HTB2.out.nx
  have x2 := HTB2.out.rl
  by_cases h1 : n1 < 1
  · have d1 : decide ((n1 : Int) < 1) = true := decide_eq_true (by omega)
    have HF := Lib.hid (show Df.rt g N R = false by unfold Df.rt; rw [show decide (1 ≤ N.length) = false from decide_eq_false (by rw [← HN1.out]; omega)]; rfl)
    go_wp2_with fail
    go_ret
    exact ⟨by rw [HF.out]; rfl, HB2.out⟩
  have d1 : decide ((n1 : Int) < 1) = false := decide_eq_false (by omega)
  by_cases h2 : 500 < n1
  · have d2 : decide ((n1 : Int) > 500) = true := decide_eq_true (by omega)
    have HF := Lib.hid (show Df.rt g N R = false by unfold Df.rt; rw [show decide (N.length ≤ 500) = false from decide_eq_false (by rw [← HN1.out]; omega)]; simp)
    go_wp2_with fail
    go_ret
    exact ⟨by rw [HF.out]; rfl, HB2.out⟩
  have d2 : decide ((n1 : Int) > 500) = false := decide_eq_false (by omega)
  by_cases h3 : n2 = n1
  case neg =>
    have d3 : ((n2 : Int) == (n1 : Int)) = false := by simp; omega
    have d4 : ((n2 : Int) != (n1 : Int)) = true := by simp; omega
    have HF := Lib.hid (show Df.rt g N R = false by unfold Df.rt; rw [show decide (R.length = N.length) = false from decide_eq_false (by rw [← HN1.out, ← HN2.out]; exact h3)]; simp)
    go_wp2_with fail
    go_ret
    exact ⟨by rw [HF.out]; rfl, HB2.out⟩
  subst h3
  have C := Lib.hid (within_any R 32 _ U HRl2.out (by rw [← HN2.out]; exact b2'))
  have HP := Lib.hid (show Df.rt g N R = (R.all (Df.wi 32) && decide (Df.top g 255 < (N.getD 0 []).length) && N.all (Df.rowOk (N.getD 0 []).length N.length)) by
    unfold Df.rt
    rw [show decide (1 ≤ N.length) = true from decide_eq_true (by rw [← HN1.out]; omega), show decide (N.length ≤ 500) = true from decide_eq_true (by rw [← HN1.out]; omega), show decide (R.length = N.length) = true from decide_eq_true (by rw [← HN1.out, ← HN2.out])]
    rfl)
  replace h1 := Lib.hid h1
  replace h2 := Lib.hid h2
  have xnU := Lib.hid xn
  go_wp2_with fail
  refine C.out.mono ?_
  rintro e w1 ⟨rfl, hb⟩
  clear C x1 x2 xn
  have HTB3 := Lib.hid (HTB2.out.up hb)
  have HB3 := Lib.hid (Bs.below_up HB2.out hb)
  have HS3 := Lib.hid (HS2.out.up hb)
  have HR3 := Lib.hid (HR2.out.up hb)
  have xn := Bs.cell_up hb xnU.out
  have hb3 : bn < w1.heap.size := Nat.lt_of_lt_of_le hb2 hb.size
  clear hb HTB2 HB2 HS2 HR2 HRl2 hb2 xnU
  obtain ⟨bb, hbb⟩ : ∃ bb, bb = R.all (Df.wi 32) := ⟨_, rfl⟩
  rw [← hbb] at HP ⊢
  clear hbb
  cases bb
  · go_wp2_with fail
    go_ret
    exact ⟨by rw [HP.out]; rfl, HB3.out⟩
  have h0 : 0 < n2 := by have := h1.out; omega
  have h0' : 0 < rows.length := by rw [HL.out]; exact h0
  have h0'' : 0 < N.length := by rw [← HN1.out]; exact h0
  obtain ⟨ad, rfl, hx⟩ := HS3.out 0 h0'
  rw [Nf.add_zero] at hx
  obtain ⟨a5, c5, e5, r5⟩ := HR3.out.2 0 h0' h0''
  rw [e5] at hx
  have HG := Lib.hid (show (N.getD 0 []).length = N[0].length by rw [List.getD_eq_getElem?_getD, List.getElem?_eq_getElem h0'']; rfl)
  have HM5 := Lib.hid (show (N.getD 0 []).length ≤ 9223372036854775807 by rw [HG.out]; exact HLN.out _ (List.getElem_mem h0''))
  rw [← HG.out] at hx
  clear r5 e5
  generalize (N.getD 0 []).length = wide at *
  have x1 := HTB3.out.nx
  have x2 := HTB3.out.rl
  have i1 : (0 : Int) < (n2 : Int) := by omega
  replace h0 := Lib.hid h0
  go_upto_region 6 with fail
  have B4 := Bs.below1 w1 (.cells #[.int .i64 wide] 3)
  have RW : Df.RW w w.heap.size w1.heap.size bn ad n2 c1 wide (.slice a2 n2 c2) g rows N (w1.alloc (.cells #[.int .i64 wide] 3)) :=
    ⟨HTB3.out.up B4, HS3.out.up B4, HR3.out.up B4, Bs.cell_up B4 xn, by simp [go_sem], Bs.below_up HB3.out B4⟩
  have hne4 : w.heap.size ≠ w1.heap.size := by omega
  clear B4 HTB3 HS3 HR3 HB3 xn x1 x2 hx
  generalize w1.alloc (.cells #[.int .i64 wide] 3) = V at *
  generalize w1.heap.size = b4 at *
  have xw := RW.cw
  have xx := RW.tb.nx
  have HTOP := Df.top_lt hcl 255
  have j1 : IntKind.i64.wrap (Df.top g 255 : Int) = (Df.top g 255 : Int) := IntWalk.i64_in _ (by omega)
  have HM : ∀ u, Df.RW w w.heap.size b4 bn ad n2 c1 wide (.slice a2 n2 c2) g rows N u → Calls Try.prog 58 #[.slice (some ⟨w.heap.size, 0, none⟩) 256 256] u fun e w' => e = .returned (.int .u8 (Df.top g 255)) ∧ Below u.heap.size u w' := fun u hu => Df.max_b g _ 256 u hcl hu.tb.cls
  have HMH := Lib.hid HM
  have HQM := Lib.hid (fun (u : World) (hu : ∀ c, c < 256 → u.cell? ⟨w.heap.size, c, none⟩ = some (.int .u8 (g c))) => (maxB_any g w.heap.size 256 u hcl hu).mono (R' := fun e w' => e = .returned (.int .u8 (Df.top g 255)) ∧ u = w') fun e w' ⟨a, b⟩ => ⟨a, b.symm⟩)
  have HCL := Lib.hid RW.tb.cls
  have HC : ∀ u, Df.RW w w.heap.size b4 bn ad n2 c1 wide (.slice a2 n2 c2) g rows N u → Calls Try.prog 59 #[.slice (some ad) n2 c1, .func (.func 57) #[] #[.pointer (some ⟨b4, 0, none⟩), .pointer (some ⟨bn, 0, none⟩)]] u (Bs.BPost u (N.any fun l => !Df.rowOk wide n2 l)) := fun u hu =>
    containsN_any 57 _ _ rows N _ n2 c1 u HL.out hu.sv hu.rw' b2' (fun _ _ => by kernel_rfl) (fun l hl v x hv hx => right1_any l v wide n2 b4 bn x hv (HLN.out l hl) (Bs.cell_up hx hu.cw) (Bs.cell_up hx hu.cn))
  have HCH := Lib.hid HC
  clear HM HC hcl
  generalize Df.top g 255 = top at *
  by_cases ht : top < wide
  · have t1 : decide ((wide : Int) > (top : Int)) = true := decide_eq_true (by omega)
    have t2 : decide (top < wide) = true := decide_eq_true ht
    have HP2 := Lib.hid (show Df.rt g N R = !(N.any fun l => !Df.rowOk wide n2 l) by rw [HP.out, t2, Df.not_anyA, HN1.out]; rfl)
    have HT := Lib.hid ht
    clear ht
    go_region_held3 (fun v => v.cell? ⟨w.heap.size, 256, none⟩ = some (.slice (some ad) n2 c1) ∧ v.cell? ⟨b4, 0, none⟩ = some (.int .i64 wide) ∧ Df.RW w w.heap.size b4 bn ad n2 c1 wide (.slice a2 n2 c2) g rows N v)
      (first
        | (refine ⟨?_, ?_, ?_⟩ <;> with_reducible (first | (refine Df.cell_dr ?_; assumption) | (refine Df.RW.dr ?_; assumption)))
        | (go_split_ands; refine ⟨?_, ?_, ?_⟩ <;> with_reducible (first | (refine Bs.cell_up hb1 ?_; assumption) | (refine Df.RW.up ?_ hb1; assumption))))
      (first
        | (go_at_call 58; go_split_ands; refine (HMH.out _ (by assumption)).mono ?_; rintro e w9 ⟨rfl, hb1⟩)
        | (go_at_call 59; go_split_ands; refine (HCH.out _ (by assumption)).mono ?_; rintro e w9 ⟨rfl, hb1⟩))
    all_goals
      go_split_ands
      go_wp2_with fail
      go_ret
      exact ⟨by rw [HP2.out]; rfl, by first | exact (by assumption : Df.RW _ _ _ _ _ _ _ _ _ _ _ _ _).bel⟩
  · have t1 : decide ((wide : Int) > (top : Int)) = false := decide_eq_false (by omega)
    have t2 : decide (top < wide) = false := decide_eq_false ht
    have HP2 := Lib.hid (show Df.rt g N R = false by rw [HP.out, t2]; rfl)
    have HT := Lib.hid ht
    clear ht
    go_quiet ((go_at_call 58; exact quietly (HQM.out _ (fun c hc => HCL.out c hc))))
    go_wp2_with fail
    go_ret
    exact ⟨by rw [HP2.out]; rfl, below_drewN RW.bel nq⟩
end Go.Proofs.Ythapedadnbkgnaa
namespace Go.Proofs.Ythapedadnbkgnaa
set_option linter.unusedVariables false
set_option linter.unusedSimpArgs false
open Go.RowKit
end Go.Proofs.Ythapedadnbkgnaa
namespace Go.Proofs.Ythapedadnbkgnaa
set_option linter.unusedVariables false
set_option linter.unusedSimpArgs false
def Df.stp (g : Nat → Nat) (N : List (List Int)) (k : Int) (c : Nat) : Int := if 0 ≤ k then (N.getD k.toNat []).getD (g c) (-1) else k
def Df.rn (g : Nat → Nat) (N : List (List Int)) (b : Nat → Nat) : Nat → Int
  | 0 => 0
  | q + 1 => Df.stp g N (Df.rn g N b q) (b q)
structure Df.Rt (g : Nat → Nat) (N : List (List Int)) (R : List Int) : Prop where
  one : 1 ≤ N.length
  lim : N.length ≤ 500
  rl : R.length = N.length
  rr : ∀ x ∈ R, -1 ≤ x ∧ x < 32
  top : ∀ c, c < 256 → g c < (N.getD 0 []).length
  row : ∀ l ∈ N, l.length = (N.getD 0 []).length ∧ ∀ x ∈ l, -1 ≤ x ∧ x < N.length
theorem Df.rt_of {g : Nat → Nat} {N : List (List Int)} {R : List Int} (h : Df.rt g N R = true) : Df.Rt g N R := by
  unfold Df.rt at h
  simp only [Bool.and_eq_true, decide_eq_true_eq, List.all_eq_true] at h
  obtain ⟨⟨⟨⟨⟨h1, h2⟩, h3⟩, h4⟩, h5⟩, h6⟩ := h
  refine ⟨h1, h2, h3, fun x hx => ?_, fun c hc => ?_, fun l hl => ?_⟩
  · have := h4 x hx
    simpa [Df.wi] using this
  · have := Df.le_top g 255 c (by omega)
    omega
  · have := h6 l hl
    unfold Df.rowOk at this
    simp only [Bool.and_eq_true, decide_eq_true_eq, List.all_eq_true] at this
    refine ⟨this.1, fun x hx => ?_⟩
    have := this.2 x hx
    simpa [Df.wi] using this
theorem Df.Rt.at {g : Nat → Nat} {N : List (List Int)} {R : List Int} (h : Df.Rt g N R) {k c : Nat} (hk : k < N.length) (hc : c < 256) : ∃ hr : g c < N[k].length, N[k][g c] = Df.stp g N k c ∧ -1 ≤ Df.stp g N k c ∧ Df.stp g N k c < N.length := by
  have hm := h.row N[k] (List.getElem_mem hk)
  have hr : g c < N[k].length := by rw [hm.1]; exact h.top c hc
  have e : Df.stp g N k c = N[k][g c] := by
    unfold Df.stp
    have e1 : N.getD k [] = N[k] := by rw [List.getD_eq_getElem?_getD, List.getElem?_eq_getElem hk, Option.getD_some]
    rw [if_pos (by omega), Int.toNat_natCast, e1, List.getD_eq_getElem?_getD, List.getElem?_eq_getElem hr, Option.getD_some]
  have := hm.2 _ (List.getElem_mem hr)
  exact ⟨hr, e.symm, by rw [e]; exact this.1, by rw [e]; exact this.2⟩
theorem Df.Rt.rn {g : Nat → Nat} {N : List (List Int)} {R : List Int} (h : Df.Rt g N R) {b : Nat → Nat} (hb : ∀ i, b i < 256) : ∀ q, -1 ≤ Df.rn g N b q ∧ Df.rn g N b q < N.length
  | 0 => by have := h.one; simp only [Df.rn]; omega
  | q + 1 => by
    have ih := h.rn hb q
    rw [Df.rn]
    by_cases h0 : 0 ≤ Df.rn g N b q
    · obtain ⟨k, hk⟩ : ∃ k : Nat, Df.rn g N b q = k := ⟨(Df.rn g N b q).toNat, by omega⟩
      rw [hk] at ih ⊢
      obtain ⟨_, _, h1, h2⟩ := h.at (k := k) (by omega) (hb q)
      exact ⟨h1, h2⟩
    · unfold Df.stp
      rw [if_neg h0]
      exact ih
theorem Df.rn_stop {g : Nat → Nat} {N : List (List Int)} {b : Nat → Nat} {q : Nat} (h : Df.rn g N b q < 0) : ∀ d, Df.rn g N b (q + d) = Df.rn g N b q
  | 0 => rfl
  | d + 1 => by
    have ih := Df.rn_stop h d
    rw [Nat.add_succ, Df.rn, ih]
    unfold Df.stp
    rw [if_neg (by omega)]
theorem Df.by_at (s : ByteArray) (q : Nat) (h : q < s.size) : Px.by s q = s[q].toNat := by
  unfold Px.by
  rw [List.getD_eq_getElem?_getD, List.getElem?_eq_getElem (by simpa using h), Option.getD_some]
  rfl
theorem Df.by_lt (s : ByteArray) (q : Nat) : Px.by s q < 256 := by
  unfold Px.by
  exact UInt8.toNat_lt _
open Go.RowKit
structure Df.TW (w0 : World) (b : Nat) (g : Nat → Nat) (vn vr : Value) (a1 : Option Addr) (rows : List Value) (N : List (List Int)) (u : World) : Prop where
  tb : Df.TB u b g vn vr
  sv : Ng.Sv u a1 rows
  rw' : Df.Rws u rows N
  bel : Below w0.heap.size w0 u
theorem Df.TW.up {w0 : World} {b : Nat} {g : Nat → Nat} {vn vr : Value} {a1 : Option Addr} {rows : List Value} {N : List (List Int)} {u u' : World} (h : Df.TW w0 b g vn vr a1 rows N u) (hb : Below u.heap.size u u') : Df.TW w0 b g vn vr a1 rows N u' :=
  ⟨h.tb.up hb, h.sv.up hb, h.rw'.up hb, Bs.below_up h.bel hb⟩
end Go.Proofs.Ythapedadnbkgnaa
namespace Go.Proofs.Ythapedadnbkgnaa
set_option linter.unusedVariables false
set_option linter.unusedSimpArgs false
open Go.RowKit
end Go.Proofs.Ythapedadnbkgnaa
namespace Go.Proofs.Ythapedadnbkgnaa
set_option linter.unusedVariables false
set_option linter.unusedSimpArgs false
open Go.RowKit
theorem Df.getD_get {α : Type} (l : List α) (d : α) {k : Nat} (h : k < l.length) : l.getD k d = l[k] := by rw [List.getD_eq_getElem?_getD, List.getElem?_eq_getElem h]; rfl
end Go.Proofs.Ythapedadnbkgnaa
