/- Whether a table may be, walked. has, Run, Rule of a table, walked. The state behind a text, by a table: plain facts; Run, Rule, walked. A state's rule, by a table, walked. -/
import Derived.Test.YthapedadnbkgnaaG14
import Derived.Test.YthapedadnbkgnaaG17
import Derived.Test.YthapedadnbkgnaaG5
namespace Go.Proofs.Ythapedadnbkgnaa
set_option linter.unusedVariables false
set_option linter.unusedSimpArgs false
open Go.RowKit
def Df.rt (g : Nat → Nat) (N : List (List Int)) (R : List Int) : Bool :=
  decide (1 ≤ N.length) && decide (N.length ≤ 500) && decide (R.length = N.length) && R.all (Df.wi 32) && decide (Df.top g 255 < (N.getD 0 []).length) && N.all (Df.rowOk (N.getD 0 []).length N.length)
structure Df.Tv (w : World) (v : Value) (g : Nat → Nat) (N : List (List Int)) (R : List Int) : Prop where
  cl : ∀ c, g c < 256
  is : ∃ a1 n1 c1 rows a2 n2 c2, v = Df.tab g (.slice a1 n1 c1) (.slice a2 n2 c2) ∧ rows.length = n1 ∧ Ng.Sv w a1 rows ∧ Df.Rws w rows N ∧ Nf.Row w (fun _ => True) (.slice a2 n2 c2) R
  lim : N.length ≤ 9223372036854775807 ∧ R.length ≤ 9223372036854775807 ∧ ∀ l ∈ N, l.length ≤ 9223372036854775807
theorem Df.Tv.up {w w' : World} {v : Value} {g : Nat → Nat} {N : List (List Int)} {R : List Int} (h : Df.Tv w v g N R) (hb : Below w.heap.size w w') : Df.Tv w' v g N R := by
  obtain ⟨a1, n1, c1, rows, a2, n2, c2, e, h1, h2, h3, h4⟩ := h.is
  exact ⟨h.cl, ⟨a1, n1, c1, rows, a2, n2, c2, e, h1, h2.up hb, h3.up hb, h4.up hb⟩, h.lim⟩
theorem Df.not_anyA {α : Type} (g : α → Bool) : ∀ l : List α, (!l.any fun x => !g x) = l.all g
  | [] => rfl
  | x :: r => by
    have := Df.not_anyA g r
    simp only [List.any_cons, List.all_cons, ← this]
    cases g x <;> simp
structure Df.RW (w0 : World) (b b4 bn : Nat) (ad : Addr) (n c wide : Nat) (vr : Value) (g : Nat → Nat) (rows : List Value) (N : List (List Int)) (v : World) : Prop where
  tb : Df.TB v b g (.slice (some ad) n c) vr
  sv : Ng.Sv v (some ad) rows
  rw' : Df.Rws v rows N
  cn : v.cell? ⟨bn, 0, none⟩ = some (.int .i64 n)
  cw : v.cell? ⟨b4, 0, none⟩ = some (.int .i64 wide)
  bel : Below w0.heap.size w0 v
theorem Df.RW.up {w0 : World} {b b4 bn : Nat} {ad : Addr} {n c wide : Nat} {vr : Value} {g : Nat → Nat} {rows : List Value} {N : List (List Int)} {v u : World} (h : Df.RW w0 b b4 bn ad n c wide vr g rows N v) (hb : Below v.heap.size v u) : Df.RW w0 b b4 bn ad n c wide vr g rows N u :=
  ⟨h.tb.up hb, h.sv.up hb, h.rw'.up hb, Bs.cell_up hb h.cn, Bs.cell_up hb h.cw, Bs.below_up h.bel hb⟩
theorem Df.RW.dr {w0 : World} {b b4 bn : Nat} {ad : Addr} {n c wide : Nat} {vr : Value} {g : Nat → Nat} {rows : List Value} {N : List (List Int)} {v : World} (h : Df.RW w0 b b4 bn ad n c wide vr g rows N v) : Df.RW w0 b b4 bn ad n c wide vr g rows N v.drew := h.up (Below.refl _ _).drew
theorem Df.cell_dr {v : World} {a : Addr} {x : Value} (h : v.cell? a = some x) : v.drew.cell? a = some x := h
theorem Df.max_b (g : Nat → Nat) (b cap : Nat) (w : World) (hg : ∀ c, g c < 256) (h : ∀ c, c < 256 → w.cell? ⟨b, c, none⟩ = some (.int .u8 (g c))) :
    Calls Try.prog 58 #[.slice (some ⟨b, 0, none⟩) 256 cap] w fun e w' => e = .returned (.int .u8 (Df.top g 255)) ∧ Below w.heap.size w w' :=
  (maxB_any g b cap w hg h).mono fun e w' ⟨h1, h2⟩ => ⟨h1, h2 ▸ Below.refl _ _⟩
set_option maxRecDepth 100000 in
set_option maxHeartbeats 1000000 in
theorem rightT_any (g : Nat → Nat) (N : List (List Int)) (R : List Int) (v : Value) (w : World) (h : Df.Tv w v g N R) : Calls Try.prog 34 #[v] w (Bs.BPost w (Df.rt g N R)) := by
  obtain ⟨hcl, ⟨a1, n1, c1, rows, a2, n2, c2, rfl, hlen, hS, hR, hRl⟩, hl1, hl2, hl3⟩ := h
  have TB := Df.tb_new w g (.slice a1 n1 c1) (.slice a2 n2 c2) 40
  have B1 := Bs.below1 w (.cells (Bs.arr g ++ #[.slice a1 n1 c1, .slice a2 n2 c2]) 40)
  have HTB := Lib.hid TB
  have HB := Lib.hid B1
  have HS := Lib.hid (hS.up B1)
  have HR := Lib.hid (hR.up B1)
  have HRl := Lib.hid (hRl.up B1)
  have hn1 : n1 = N.length := by rw [← hlen]; exact hR.1
  have hn2 : n2 = R.length := hRl.at.1
  have HN1 := Lib.hid hn1
  have HN2 := Lib.hid hn2
  have HL := Lib.hid hlen
  have HLN := Lib.hid hl3
  have b1' : n1 ≤ 9223372036854775807 := by omega
  have b2' : n2 ≤ 9223372036854775807 := by omega
  have hr : w.heap.size < (w.alloc (.cells (Bs.arr g ++ #[.slice a1 n1 c1, .slice a2 n2 c2]) 40)).heap.size := by simp [go_sem]
  clear TB B1 hS hR hRl hlen hn1 hn2 hl1 hl2 hl3
  unfold Df.tab
  go_enter Try.func34, Try.ntmps34
  go_upto_region 1 with fail
  generalize w.alloc (.cells (Bs.arr g ++ #[.slice a1 n1 c1, .slice a2 n2 c2]) 40) = W at *
  have x1 := HTB.out.nx
  go_upto_region 2 with fail
  have B2 := Bs.below1 W (.cells #[.int .i64 n1] 3)
  have HTB2 := Lib.hid (HTB.out.up B2)
  have HB2 := Lib.hid (Bs.below_up HB.out B2)
  have HS2 := Lib.hid (HS.out.up B2)
  have HR2 := Lib.hid (HR.out.up B2)
  have HRl2 := Lib.hid (HRl.out.up B2)
  have xn : (W.alloc (.cells #[.int .i64 n1] 3)).cell? ⟨W.heap.size, 0, none⟩ = some (.int .i64 n1) := by simp [go_sem]
  have hb2 : W.heap.size < (W.alloc (.cells #[.int .i64 n1] 3)).heap.size := by simp [go_sem]
  have hne : w.heap.size ≠ W.heap.size := by omega
  clear B2 HTB HB HS HR HRl x1
  generalize W.alloc (.cells #[.int .i64 n1] 3) = U at *
  generalize W.heap.size = bn at *
  have x1 := HTB2.out.nx
  have x2 := HTB2.out.rl
  by_cases h1 : n1 < 1
  · have d1 : decide ((n1 : Int) < 1) = true := decide_eq_true (by omega)
    have HF := Lib.hid (show Df.rt g N R = false by unfold Df.rt; rw [show decide (1 ≤ N.length) = false from decide_eq_false (by rw [← HN1.out]; omega)]; rfl)
    go_wp2_with fail
    go_ret
    exact ⟨by rw [HF.out]; rfl, HB2.out⟩
  have d1 : decide ((n1 : Int) < 1) = false := decide_eq_false (by omega)
  by_cases h2 : 500 < n1
  · have d2 : decide ((n1 : Int) > 500) = true := decide_eq_true (by omega)
    have HF := Lib.hid (show Df.rt g N R = false by unfold Df.rt; rw [show decide (N.length ≤ 500) = false from decide_eq_false (by rw [← HN1.out]; omega)]; simp)
    go_wp2_with fail
    go_ret
    exact ⟨by rw [HF.out]; rfl, HB2.out⟩
  have d2 : decide ((n1 : Int) > 500) = false := decide_eq_false (by omega)
  by_cases h3 : n2 = n1
  case neg =>
    have d3 : ((n2 : Int) == (n1 : Int)) = false := by simp; omega
    have d4 : ((n2 : Int) != (n1 : Int)) = true := by simp; omega
    have HF := Lib.hid (show Df.rt g N R = false by unfold Df.rt; rw [show decide (R.length = N.length) = false from decide_eq_false (by rw [← HN1.out, ← HN2.out]; exact h3)]; simp)
    go_wp2_with fail
    go_ret
    exact ⟨by rw [HF.out]; rfl, HB2.out⟩
  subst h3
  have C := Lib.hid (within_any R 32 _ U HRl2.out (by rw [← HN2.out]; exact b2'))
  have HP := Lib.hid (show Df.rt g N R = (R.all (Df.wi 32) && decide (Df.top g 255 < (N.getD 0 []).length) && N.all (Df.rowOk (N.getD 0 []).length N.length)) by
    unfold Df.rt
    rw [show decide (1 ≤ N.length) = true from decide_eq_true (by rw [← HN1.out]; omega), show decide (N.length ≤ 500) = true from decide_eq_true (by rw [← HN1.out]; omega), show decide (R.length = N.length) = true from decide_eq_true (by rw [← HN1.out, ← HN2.out])]
    rfl)
  replace h1 := Lib.hid h1
  replace h2 := Lib.hid h2
  have xnU := Lib.hid xn
  go_wp2_with fail
  refine C.out.mono ?_
  rintro e w1 ⟨rfl, hb⟩
  clear C x1 x2 xn
  have HTB3 := Lib.hid (HTB2.out.up hb)
  have HB3 := Lib.hid (Bs.below_up HB2.out hb)
  have HS3 := Lib.hid (HS2.out.up hb)
  have HR3 := Lib.hid (HR2.out.up hb)
  have xn := Bs.cell_up hb xnU.out
  have hb3 : bn < w1.heap.size := Nat.lt_of_lt_of_le hb2 hb.size
  clear hb HTB2 HB2 HS2 HR2 HRl2 hb2 xnU
  obtain ⟨bb, hbb⟩ : ∃ bb, bb = R.all (Df.wi 32) := ⟨_, rfl⟩
  rw [← hbb] at HP ⊢
  clear hbb
  cases bb
  · go_wp2_with fail
    go_ret
    exact ⟨by rw [HP.out]; rfl, HB3.out⟩
  have h0 : 0 < n2 := by have := h1.out; omega
  have h0' : 0 < rows.length := by rw [HL.out]; exact h0
  have h0'' : 0 < N.length := by rw [← HN1.out]; exact h0
  obtain ⟨ad, rfl, hx⟩ := HS3.out 0 h0'
  rw [Nf.add_zero] at hx
  obtain ⟨a5, c5, e5, r5⟩ := HR3.out.2 0 h0' h0''
  rw [e5] at hx
  have HG := Lib.hid (show (N.getD 0 []).length = N[0].length by rw [List.getD_eq_getElem?_getD, List.getElem?_eq_getElem h0'']; rfl)
  have HM5 := Lib.hid (show (N.getD 0 []).length ≤ 9223372036854775807 by rw [HG.out]; exact HLN.out _ (List.getElem_mem h0''))
  rw [← HG.out] at hx
  clear r5 e5
  generalize (N.getD 0 []).length = wide at *
  have x1 := HTB3.out.nx
  have x2 := HTB3.out.rl
  have i1 : (0 : Int) < (n2 : Int) := by omega
  replace h0 := Lib.hid h0
  go_upto_region 6 with fail
  have B4 := Bs.below1 w1 (.cells #[.int .i64 wide] 3)
  have RW : Df.RW w w.heap.size w1.heap.size bn ad n2 c1 wide (.slice a2 n2 c2) g rows N (w1.alloc (.cells #[.int .i64 wide] 3)) :=
    ⟨HTB3.out.up B4, HS3.out.up B4, HR3.out.up B4, Bs.cell_up B4 xn, by simp [go_sem], Bs.below_up HB3.out B4⟩
  have hne4 : w.heap.size ≠ w1.heap.size := by omega
  clear B4 HTB3 HS3 HR3 HB3 xn x1 x2 hx
  generalize w1.alloc (.cells #[.int .i64 wide] 3) = V at *
  generalize w1.heap.size = b4 at *
  have xw := RW.cw
  have xx := RW.tb.nx
  have HTOP := Df.top_lt hcl 255
  have j1 : IntKind.i64.wrap (Df.top g 255 : Int) = (Df.top g 255 : Int) := IntWalk.i64_in _ (by omega)
  have HM : ∀ u, Df.RW w w.heap.size b4 bn ad n2 c1 wide (.slice a2 n2 c2) g rows N u → Calls Try.prog 58 #[.slice (some ⟨w.heap.size, 0, none⟩) 256 256] u fun e w' => e = .returned (.int .u8 (Df.top g 255)) ∧ Below u.heap.size u w' := fun u hu => Df.max_b g _ 256 u hcl hu.tb.cls
  have HMH := Lib.hid HM
  have HQM := Lib.hid (fun (u : World) (hu : ∀ c, c < 256 → u.cell? ⟨w.heap.size, c, none⟩ = some (.int .u8 (g c))) => (maxB_any g w.heap.size 256 u hcl hu).mono (R' := fun e w' => e = .returned (.int .u8 (Df.top g 255)) ∧ u = w') fun e w' ⟨a, b⟩ => ⟨a, b.symm⟩)
  have HCL := Lib.hid RW.tb.cls
  have HC : ∀ u, Df.RW w w.heap.size b4 bn ad n2 c1 wide (.slice a2 n2 c2) g rows N u → Calls Try.prog 59 #[.slice (some ad) n2 c1, .func (.func 57) #[] #[.pointer (some ⟨b4, 0, none⟩), .pointer (some ⟨bn, 0, none⟩)]] u (Bs.BPost u (N.any fun l => !Df.rowOk wide n2 l)) := fun u hu =>
    containsN_any 57 _ _ rows N _ n2 c1 u HL.out hu.sv hu.rw' b2' (fun _ _ => by kernel_rfl) (fun l hl v x hv hx => right1_any l v wide n2 b4 bn x hv (HLN.out l hl) (Bs.cell_up hx hu.cw) (Bs.cell_up hx hu.cn))
  have HCH := Lib.hid HC
  clear HM HC hcl
  generalize Df.top g 255 = top at *
  by_cases ht : top < wide
  · have t1 : decide ((wide : Int) > (top : Int)) = true := decide_eq_true (by omega)
    have t2 : decide (top < wide) = true := decide_eq_true ht
    have HP2 := Lib.hid (show Df.rt g N R = !(N.any fun l => !Df.rowOk wide n2 l) by rw [HP.out, t2, Df.not_anyA, HN1.out]; rfl)
    have HT := Lib.hid ht
    clear ht
    go_region_held3 (fun v => v.cell? ⟨w.heap.size, 256, none⟩ = some (.slice (some ad) n2 c1) ∧ v.cell? ⟨b4, 0, none⟩ = some (.int .i64 wide) ∧ Df.RW w w.heap.size b4 bn ad n2 c1 wide (.slice a2 n2 c2) g rows N v)
      (first
        | (refine ⟨?_, ?_, ?_⟩ <;> with_reducible (first | (refine Df.cell_dr ?_; assumption) | (refine Df.RW.dr ?_; assumption)))
        | (go_split_ands; refine ⟨?_, ?_, ?_⟩ <;> with_reducible (first | (refine Bs.cell_up hb1 ?_; assumption) | (refine Df.RW.up ?_ hb1; assumption))))
      (first
        | (go_at_call 58; go_split_ands; refine (HMH.out _ (by assumption)).mono ?_; rintro e w9 ⟨rfl, hb1⟩)
        | (go_at_call 59; go_split_ands; refine (HCH.out _ (by assumption)).mono ?_; rintro e w9 ⟨rfl, hb1⟩))
    all_goals
      go_split_ands
      go_wp2_with fail
      go_ret
      exact ⟨by rw [HP2.out]; rfl, by first | exact (by assumption : Df.RW _ _ _ _ _ _ _ _ _ _ _ _ _).bel⟩
  · have t1 : decide ((wide : Int) > (top : Int)) = false := decide_eq_false (by omega)
    have t2 : decide (top < wide) = false := decide_eq_false ht
    have HP2 := Lib.hid (show Df.rt g N R = false by rw [HP.out, t2]; rfl)
    have HT := Lib.hid ht
    clear ht
    go_quiet ((go_at_call 58; exact quietly (HQM.out _ (fun c hc => HCL.out c hc))))
    go_wp2_with fail
    go_ret
    exact ⟨by rw [HP2.out]; rfl, below_drewN RW.bel nq⟩
end Go.Proofs.Ythapedadnbkgnaa
namespace Go.Proofs.Ythapedadnbkgnaa
set_option linter.unusedVariables false
set_option linter.unusedSimpArgs false
open Go.RowKit
set_option maxRecDepth 100000 in
set_option maxHeartbeats 1000000 in
theorem hasT_any (g : Nat → Nat) (N : List (List Int)) (R : List Int) (v : Value) (k : Int) (w : World) (h : Df.Tv w v g N R) : Calls Try.prog 38 #[v, .int .i64 k] w (Bs.BPost w (decide (0 ≤ k) && decide (k < N.length))) := by
  obtain ⟨hcl, ⟨a1, n1, c1, rows, a2, n2, c2, rfl, hlen, hS, hR, hRl⟩, hl1, hl2, hl3⟩ := h
  have TB := Df.tb_new w g (.slice a1 n1 c1) (.slice a2 n2 c2) 40
  have B1 := Lib.hid (Bs.below1 w (.cells (Bs.arr g ++ #[.slice a1 n1 c1, .slice a2 n2 c2]) 40))
  have hn1 : N.length = n1 := by rw [← hlen]; exact hR.1.symm
  have x1 := TB.nx
  rw [hn1]
  clear TB hS hR hRl hlen hn1 hl1 hl2 hl3
  unfold Df.tab
  by_cases h1 : 0 ≤ k
  · have d1 : decide (0 ≤ k) = true := decide_eq_true h1
    by_cases h2 : k < (n1 : Int)
    · have d2 : decide (k < (n1 : Int)) = true := decide_eq_true h2
      rw [d1, d2]
      go_enter Try.func38, Try.ntmps38
      go_wp2_with fail
      go_ret
      exact ⟨rfl, B1.out⟩
    · have d2 : decide (k < (n1 : Int)) = false := decide_eq_false h2
      rw [d1, d2]
      go_enter Try.func38, Try.ntmps38
      go_wp2_with fail
      go_ret
      exact ⟨rfl, B1.out⟩
  · have d1 : decide (0 ≤ k) = false := decide_eq_false h1
    rw [d1]
    go_enter Try.func38, Try.ntmps38
    go_wp2_with fail
    go_ret
    exact ⟨rfl, B1.out⟩
end Go.Proofs.Ythapedadnbkgnaa
namespace Go.Proofs.Ythapedadnbkgnaa
set_option linter.unusedVariables false
set_option linter.unusedSimpArgs false
def Df.stp (g : Nat → Nat) (N : List (List Int)) (k : Int) (c : Nat) : Int := if 0 ≤ k then (N.getD k.toNat []).getD (g c) (-1) else k
def Df.rn (g : Nat → Nat) (N : List (List Int)) (b : Nat → Nat) : Nat → Int
  | 0 => 0
  | q + 1 => Df.stp g N (Df.rn g N b q) (b q)
structure Df.Rt (g : Nat → Nat) (N : List (List Int)) (R : List Int) : Prop where
  one : 1 ≤ N.length
  lim : N.length ≤ 500
  rl : R.length = N.length
  rr : ∀ x ∈ R, -1 ≤ x ∧ x < 32
  top : ∀ c, c < 256 → g c < (N.getD 0 []).length
  row : ∀ l ∈ N, l.length = (N.getD 0 []).length ∧ ∀ x ∈ l, -1 ≤ x ∧ x < N.length
theorem Df.rt_of {g : Nat → Nat} {N : List (List Int)} {R : List Int} (h : Df.rt g N R = true) : Df.Rt g N R := by
  unfold Df.rt at h
  simp only [Bool.and_eq_true, decide_eq_true_eq, List.all_eq_true] at h
  obtain ⟨⟨⟨⟨⟨h1, h2⟩, h3⟩, h4⟩, h5⟩, h6⟩ := h
  refine ⟨h1, h2, h3, fun x hx => ?_, fun c hc => ?_, fun l hl => ?_⟩
  · have := h4 x hx
    simpa [Df.wi] using this
  · have := Df.le_top g 255 c (by omega)
    omega
  · have := h6 l hl
    unfold Df.rowOk at this
    simp only [Bool.and_eq_true, decide_eq_true_eq, List.all_eq_true] at this
    refine ⟨this.1, fun x hx => ?_⟩
    have := this.2 x hx
    simpa [Df.wi] using this
theorem Df.Rt.at {g : Nat → Nat} {N : List (List Int)} {R : List Int} (h : Df.Rt g N R) {k c : Nat} (hk : k < N.length) (hc : c < 256) : ∃ hr : g c < N[k].length, N[k][g c] = Df.stp g N k c ∧ -1 ≤ Df.stp g N k c ∧ Df.stp g N k c < N.length := by
  have hm := h.row N[k] (List.getElem_mem hk)
  have hr : g c < N[k].length := by rw [hm.1]; exact h.top c hc
  have e : Df.stp g N k c = N[k][g c] := by
    unfold Df.stp
    have e1 : N.getD k [] = N[k] := by rw [List.getD_eq_getElem?_getD, List.getElem?_eq_getElem hk, Option.getD_some]
    rw [if_pos (by omega), Int.toNat_natCast, e1, List.getD_eq_getElem?_getD, List.getElem?_eq_getElem hr, Option.getD_some]
  have := hm.2 _ (List.getElem_mem hr)
  exact ⟨hr, e.symm, by rw [e]; exact this.1, by rw [e]; exact this.2⟩
theorem Df.Rt.rn {g : Nat → Nat} {N : List (List Int)} {R : List Int} (h : Df.Rt g N R) {b : Nat → Nat} (hb : ∀ i, b i < 256) : ∀ q, -1 ≤ Df.rn g N b q ∧ Df.rn g N b q < N.length
  | 0 => by have := h.one; simp only [Df.rn]; omega
  | q + 1 => by
    have ih := h.rn hb q
    rw [Df.rn]
    by_cases h0 : 0 ≤ Df.rn g N b q
    · obtain ⟨k, hk⟩ : ∃ k : Nat, Df.rn g N b q = k := ⟨(Df.rn g N b q).toNat, by omega⟩
      rw [hk] at ih ⊢
      obtain ⟨_, _, h1, h2⟩ := h.at (k := k) (by omega) (hb q)
      exact ⟨h1, h2⟩
    · unfold Df.stp
      rw [if_neg h0]
      exact ih
theorem Df.rn_stop {g : Nat → Nat} {N : List (List Int)} {b : Nat → Nat} {q : Nat} (h : Df.rn g N b q < 0) : ∀ d, Df.rn g N b (q + d) = Df.rn g N b q
  | 0 => rfl
  | d + 1 => by
    have ih := Df.rn_stop h d
    rw [Nat.add_succ, Df.rn, ih]
    unfold Df.stp
    rw [if_neg (by omega)]
theorem Df.by_at (s : ByteArray) (q : Nat) (h : q < s.size) : Px.by s q = s[q].toNat := by
  unfold Px.by
  rw [List.getD_eq_getElem?_getD, List.getElem?_eq_getElem (by simpa using h), Option.getD_some]
  rfl
theorem Df.by_lt (s : ByteArray) (q : Nat) : Px.by s q < 256 := by
  unfold Px.by
  exact UInt8.toNat_lt _
def Df.rnv (g : Nat → Nat) (N : List (List Int)) (R : List Int) (b : Nat → Nat) (n : Nat) : Int := if Df.rt g N R = true then Df.rn g N b n else -1
open Go.RowKit
structure Df.TW (w0 : World) (b : Nat) (g : Nat → Nat) (vn vr : Value) (a1 : Option Addr) (rows : List Value) (N : List (List Int)) (u : World) : Prop where
  tb : Df.TB u b g vn vr
  sv : Ng.Sv u a1 rows
  rw' : Df.Rws u rows N
  bel : Below w0.heap.size w0 u
theorem Df.TW.up {w0 : World} {b : Nat} {g : Nat → Nat} {vn vr : Value} {a1 : Option Addr} {rows : List Value} {N : List (List Int)} {u u' : World} (h : Df.TW w0 b g vn vr a1 rows N u) (hb : Below u.heap.size u u') : Df.TW w0 b g vn vr a1 rows N u' :=
  ⟨h.tb.up hb, h.sv.up hb, h.rw'.up hb, Bs.below_up h.bel hb⟩
set_option maxRecDepth 100000 in
set_option maxHeartbeats 1000000 in
theorem runT_any (g : Nat → Nat) (N : List (List Int)) (R : List Int) (v : Value) (s : ByteArray) (w : World) (h : Df.Tv w v g N R) (hs : s.size ≤ maxLen) : Calls Try.prog 18 #[v, .string s] w fun e w' => e = .returned (.int .i64 (Df.rnv g N R (Px.by s) s.size)) ∧ Below w.heap.size w w' := by
  have hs63 : s.size ≤ 9223372036854775807 := hs
  have H := h
  obtain ⟨hcl, ⟨a1, n1, c1, rows, a2, n2, c2, rfl, hlen, hS, hR, hRl⟩, hl1, hl2, hl3⟩ := h
  have TB := Df.tb_new w g (.slice a1 n1 c1) (.slice a2 n2 c2) 40
  have hrow := heap_alloc_new w (.cells (Bs.arr g ++ #[.slice a1 n1 c1, .slice a2 n2 c2]) 40)
  have B1 := Bs.below1 w (.cells (Bs.arr g ++ #[.slice a1 n1 c1, .slice a2 n2 c2]) 40)
  have HT := Lib.hid (H.up B1)
  have HTB := Lib.hid TB
  have HB := Lib.hid B1
  have HS := Lib.hid (hS.up B1)
  have HR := Lib.hid (hR.up B1)
  have HN1 := Lib.hid hlen
  have HCL := Lib.hid hcl
  have hinf : (Try.prog.info? 40).map (·.size) = some (Bs.arr g ++ #[Value.slice a1 n1 c1, Value.slice a2 n2 c2]).size := by
    rw [Array.size_append, Bs.arr_size]
    kernel_rfl
  have HINF := Lib.hid hinf
  have HROW := Lib.hid hrow
  clear TB B1 hS hR hRl hlen hl1 hl2 hl3 H hcl hinf hrow
  unfold Df.tab at HT ⊢
  go_enter Try.func18, Try.ntmps18
  go_upto_region 1 with fail
  generalize w.alloc (.cells (Bs.arr g ++ #[.slice a1 n1 c1, .slice a2 n2 c2]) 40) = W at *
  refine wp_region_lit ?_
  refine wpList_load_row ?h1 40 (.tmp 2) ?h2 w.heap.size ?h3 40 (Bs.arr g ++ #[.slice a1 n1 c1, .slice a2 n2 c2]) (0, 0) _ ?h4 Try.underlying40 ?h5 ?h6 ?h7
  case h1 => rfl
  case h2 => rfl
  case h3 => rfl
  case h4 => exact HROW.out
  case h5 => rfl
  case h6 => exact HINF.out
  clear HROW HINF
  have C := Lib.hid (rightT_any g N R _ W HT.out)
  generalize Bs.arr g ++ #[Value.slice a1 n1 c1, Value.slice a2 n2 c2] = ARR at *
  go_wp2_with fail
  refine C.out.mono ?_
  rintro e w1 ⟨rfl, hb⟩
  have HW1 := Lib.hid (show Df.TW w w.heap.size g (.slice a1 n1 c1) (.slice a2 n2 c2) a1 rows N w1 from ⟨HTB.out.up hb, HS.out.up hb, HR.out.up hb, Bs.below_up HB.out hb⟩)
  clear hb C HTB HB HS HR HT
  obtain ⟨bb, hbb⟩ : ∃ bb, Df.rt g N R = bb := ⟨_, rfl⟩
  have HBB := Lib.hid hbb
  rw [hbb]
  clear hbb
  cases bb
  · go_wp2_with fail
    go_ret
    exact ⟨by unfold Df.rnv; rw [HBB.out]; rfl, HW1.out.bel⟩
  have HRT := Lib.hid (Df.rt_of HBB.out)
  go_wp2_with fail
  go_loopw [5, 6] (fun k i wr => ∃ q : Nat, q ≤ s.size ∧ i = .int .i64 q ∧ k = .int .i64 (Df.rn g N (Px.by s) q) ∧ Hid (Df.TW w w.heap.size g (.slice a1 n1 c1) (.slice a2 n2 c2) a1 rows N wr)) (fun _ i _ => s.size - (intOf i).toNat)
  case atStart => exact ⟨0, by omega, rfl, rfl, HW1⟩
  case round =>
    clear HW1
    obtain ⟨q, hq, rfl, rfl, HW⟩ := hrel
    have hrn := HRT.out.rn (Df.by_lt s) q
    by_cases h0 : 0 ≤ Df.rn g N (Px.by s) q
    case neg =>
      have HE := Lib.hid (show Df.rn g N (Px.by s) s.size = Df.rn g N (Px.by s) q by rw [show s.size = q + (s.size - q) by omega]; exact Df.rn_stop (by omega) _)
      have d1 : decide (Df.rn g N (Px.by s) q ≥ 0) = false := decide_eq_false h0
      have d2 : decide (0 ≤ Df.rn g N (Px.by s) q) = false := decide_eq_false h0
      clear hrn
      by_cases hlt : q < s.size
      · go_wp2_with fail
        go_ret
        exact ⟨by unfold Df.rnv; rw [if_pos HBB.out, HE.out]; rfl, HW.out.bel⟩
      · go_wp2_with fail
        go_ret
        exact ⟨by unfold Df.rnv; rw [if_pos HBB.out, HE.out]; rfl, HW.out.bel⟩
    case pos =>
      obtain ⟨k, hk⟩ : ∃ k : Nat, Df.rn g N (Px.by s) q = k := ⟨(Df.rn g N (Px.by s) q).toNat, by omega⟩
      by_cases hlt : q < s.size
      · have hkN : k < N.length := by omega
        have hkr : k < rows.length := by rw [HW.out.rw'.1]; exact hkN
        have hby := Df.by_at s q hlt
        have hc := Df.by_lt s q
        obtain ⟨hgr, e1, h1, h2⟩ := HRT.out.at hkN hc
        obtain ⟨ad, rfl, hx⟩ := HW.out.sv k hkr
        obtain ⟨a5, c5, e5, y1, y2, hs5, y3⟩ := HW.out.rw'.2 k hkr hkN
        clear y1 y2 y3
        obtain ⟨ad5, y4, hy⟩ := hs5 _ hgr
        rw [y4] at e5
        clear y4
        rw [e5] at hx
        rw [e1] at hy
        have hcl := HW.out.tb.cls (Px.by s q) hc
        have x1 := HW.out.tb.nx
        have HST := Lib.hid (show Df.rn g N (Px.by s) (q + 1) = Df.stp g N k (Px.by s q) by rw [Df.rn, hk])
        have HGR : Hid (g (Px.by s q) < N[k].length) := Lib.hid hgr
        clear e1 e5 hs5 hgr h1 h2 hrn
        rw [hby] at hcl hy HGR HST hc
        rw [hk]
        have HQ := Lib.hid hk
        have hk63 : k < n1 := by rw [← HN1.out]; exact hkr
        generalize N[k].length = m5 at *
        clear hk hby h0 hkr hkN
        have hgm : g s[q].toNat < m5 := HGR.out
        have i1 : (0 : Int) ≤ (k : Int) := by omega
        have i2 : (k : Int) < (n1 : Int) := by omega
        have i3 : (0 : Int) ≤ (q : Int) := by omega
        have i4 : (q : Int) < (s.size : Int) := by omega
        have i5 : (0 : Int) ≤ (s[q].toNat : Int) := by omega
        have i6 : (s[q].toNat : Int) < 256 := by omega
        have i7 : (0 : Int) ≤ (g s[q].toNat : Int) := by omega
        have i8 : (g s[q].toNat : Int) < (m5 : Int) := by omega
        go_upto_region 7 with fail
        go_quiet (fail)
        go_wp2_with fail
        go_roundw
        case rel => exact ⟨q + 1, by omega, by go_num, by rw [HST.out], Lib.hid (HW.out.up (below_drewN (Below.refl _ _) _))⟩
        case measure => simp [intOf]; omega
      · obtain rfl : q = s.size := by omega
        rw [hk]
        have HQ := Lib.hid hk
        clear hk h0 hrn
        have i1 : (0 : Int) ≤ (k : Int) := by omega
        go_wp2_with fail
        go_ret
        exact ⟨by unfold Df.rnv; rw [if_pos HBB.out, HQ.out]; rfl, HW.out.bel⟩
end Go.Proofs.Ythapedadnbkgnaa
namespace Go.Proofs.Ythapedadnbkgnaa
set_option linter.unusedVariables false
set_option linter.unusedSimpArgs false
open Go.RowKit
def Df.rlv (g : Nat → Nat) (N : List (List Int)) (R : List Int) (k : Int) : Int × Bool :=
  if Df.rt g N R = true ∧ 0 ≤ k ∧ k < N.length ∧ 0 ≤ R.getD k.toNat (-1) then (R.getD k.toNat (-1), true) else (0, false)
set_option maxRecDepth 100000 in
set_option maxHeartbeats 400000 in
theorem ruleT_any (g : Nat → Nat) (N : List (List Int)) (R : List Int) (v : Value) (k : Int) (w : World) (h : Df.Tv w v g N R) : Calls Try.prog 17 #[v, .int .i64 k] w fun e w' => e = .returned (.tuple #[.int .i64 (Df.rlv g N R k).1, .bool (Df.rlv g N R k).2]) ∧ Below w.heap.size w w' := by
  have H := h
  obtain ⟨hcl, ⟨a1, n1, c1, rows, a2, n2, c2, rfl, hlen, hS, hR, hRl⟩, hl1, hl2, hl3⟩ := h
  have TB := Df.tb_new w g (.slice a1 n1 c1) (.slice a2 n2 c2) 40
  have hrow := heap_alloc_new w (.cells (Bs.arr g ++ #[.slice a1 n1 c1, .slice a2 n2 c2]) 40)
  have B1 := Bs.below1 w (.cells (Bs.arr g ++ #[.slice a1 n1 c1, .slice a2 n2 c2]) 40)
  have HT := Lib.hid (H.up B1)
  have HTB := Lib.hid TB
  have HB := Lib.hid B1
  have HRL := Lib.hid (hRl.up B1)
  have hinf : (Try.prog.info? 40).map (·.size) = some (Bs.arr g ++ #[Value.slice a1 n1 c1, Value.slice a2 n2 c2]).size := by
    rw [Array.size_append, Bs.arr_size]
    kernel_rfl
  have HINF := Lib.hid hinf
  have HROW := Lib.hid hrow
  have hszW : w.heap.size < (w.alloc (.cells (Bs.arr g ++ #[.slice a1 n1 c1, .slice a2 n2 c2]) 40)).heap.size := by simp [go_sem]
  clear TB B1 hS hR hRl hlen hl1 hl2 hl3 H hcl hinf hrow
  unfold Df.tab at HT ⊢
  go_enter Try.func17, Try.ntmps17
  go_upto_region 1 with fail
  generalize w.alloc (.cells (Bs.arr g ++ #[.slice a1 n1 c1, .slice a2 n2 c2]) 40) = W at *
  have C := Lib.hid (rightT_any g N R _ W HT.out)
  refine wp_region_lit ?_
  refine wpList_load_row ?h1 40 (.tmp 2) ?h2 w.heap.size ?h3 40 (Bs.arr g ++ #[.slice a1 n1 c1, .slice a2 n2 c2]) (0, 0) _ ?h4 Try.underlying40 ?h5 ?h6 ?h7
  case h1 => rfl
  case h2 => rfl
  case h3 => rfl
  case h4 => exact HROW.out
  case h5 => rfl
  case h6 => exact HINF.out
  go_wp2_with fail
  refine C.out.mono ?_
  rintro e w1 ⟨rfl, hb⟩
  have HTB1 := Lib.hid (HTB.out.up hb)
  have HB1 := Lib.hid (Bs.below_up HB.out hb)
  have HT1 := Lib.hid (HT.out.up hb)
  have HRL1 := Lib.hid (HRL.out.up hb)
  have HROW1 : Hid (w1.heap[w.heap.size]? = some (.cells (Bs.arr g ++ #[.slice a1 n1 c1, .slice a2 n2 c2]) 40)) := Lib.hid (by rw [hb.block _ hszW]; exact HROW.out)
  have hsz1 : w.heap.size < w1.heap.size := Nat.lt_of_lt_of_le hszW hb.size
  clear hb C HTB HB HT HRL HROW hszW
  obtain ⟨bb, hbb⟩ : ∃ bb, Df.rt g N R = bb := ⟨_, rfl⟩
  have HBB := Lib.hid hbb
  rw [hbb]
  clear hbb
  cases bb
  · go_wp2_with fail
    go_ret2
    have HV : Df.rlv g N R k = (0, false) := by unfold Df.rlv; rw [if_neg (by rw [HBB.out]; simp)]
    exact ⟨by rw [HV]; rfl, HB1.out⟩
  have HH := Lib.hid (hasT_any g N R _ k w1 HT1.out)
  go_wp2_with fail
  refine wp_load_row 40 (.tmp 2) ?m2 w.heap.size ?m3 40 (Bs.arr g ++ #[.slice a1 n1 c1, .slice a2 n2 c2]) (0, 0) _ ?m4 Try.underlying40 ?m5 ?m6 ?m7
  case m2 => rfl
  case m3 => rfl
  case m4 => exact HROW1.out
  case m5 => rfl
  case m6 => exact HINF.out
  clear HT1 HROW1 HINF
  generalize Bs.arr g ++ #[Value.slice a1 n1 c1, Value.slice a2 n2 c2] = ARR at *
  go_wp2_with fail
  refine HH.out.mono ?_
  rintro e w2 ⟨rfl, hb⟩
  have HTB2 := Lib.hid (HTB1.out.up hb)
  have HB2 := Lib.hid (Bs.below_up HB1.out hb)
  have HRL2 := Lib.hid (HRL1.out.up hb)
  clear hb HH HTB1 HB1 HRL1 hsz1
  by_cases hk : 0 ≤ k ∧ k < N.length
  case neg =>
    have HV := Lib.hid (show Df.rlv g N R k = (0, false) by unfold Df.rlv; rw [if_neg (by rintro ⟨_, h1, h2, _⟩; exact hk ⟨h1, h2⟩)])
    have HD : (decide (0 ≤ k) && decide (k < N.length)) = false := by
      rw [Bool.and_eq_false_iff, decide_eq_false_iff_not, decide_eq_false_iff_not]
      by_cases h1 : 0 ≤ k
      · exact .inr fun h2 => hk ⟨h1, h2⟩
      · exact .inl h1
    rw [HD]
    clear HD hk
    go_wp2_with fail
    go_ret2
    exact ⟨by rw [HV.out]; rfl, HB2.out⟩
  obtain ⟨hk1, hk2⟩ := hk
  obtain ⟨q, rfl⟩ : ∃ q : Nat, k = q := ⟨k.toNat, by omega⟩
  have hRT := Df.rt_of HBB.out
  have hq : q < R.length := by rw [hRT.rl]; omega
  obtain ⟨hn2, hsg⟩ := HRL2.out.at
  obtain ⟨ad, rfl, hx⟩ := hsg q hq
  have HD : (decide ((0 : Int) ≤ (q : Int)) && decide ((q : Int) < N.length)) = true := by
    rw [decide_eq_true hk1, decide_eq_true hk2]; rfl
  have HG := Lib.hid (show R.getD (q : Int).toNat (-1) = R[q] by rw [Int.toNat_natCast, List.getD_eq_getElem?_getD, List.getElem?_eq_getElem hq, Option.getD_some])
  have HQ2 := Lib.hid hk2
  have hq2 : q < n2 := by rw [hn2]; exact hq
  rw [HD]
  have HV0 := Lib.hid (show Df.rlv g N R q = if 0 ≤ R[q] then (R[q], true) else (0, false) by
    unfold Df.rlv
    rw [HG.out]
    by_cases h0 : 0 ≤ R[q]
    · rw [if_pos ⟨HBB.out, hk1, hk2, h0⟩, if_pos h0]
    · rw [if_neg (fun h => h0 h.2.2.2), if_neg h0])
  clear HD hsg hn2 hRT hk2 HG
  generalize R[q] = z at *
  have x2 := HTB2.out.rl
  have i2 : (q : Int) < (n2 : Int) := by omega
  by_cases h0 : 0 ≤ z
  · have d1 : decide (z < 0) = false := decide_eq_false (by omega)
    have HV := Lib.hid (show Df.rlv g N R q = (z, true) by rw [HV0.out, if_pos h0])
    clear h0 HV0
    go_wp2_with fail
    go_ret2
    exact ⟨by rw [HV.out]; rfl, HB2.out⟩
  · have d1 : decide (z < 0) = true := decide_eq_true (by omega)
    have HV := Lib.hid (show Df.rlv g N R q = (0, false) by rw [HV0.out, if_neg h0])
    clear h0 HV0
    go_wp2_with fail
    go_ret2
    exact ⟨by rw [HV.out]; rfl, HB2.out⟩
end Go.Proofs.Ythapedadnbkgnaa
