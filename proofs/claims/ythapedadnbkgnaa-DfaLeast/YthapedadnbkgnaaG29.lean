/- What the walk's table answers, walked. What Build answers, walked. -/
import Derived.Test.YthapedadnbkgnaaG28
namespace Go.Proofs.Ythapedadnbkgnaa
set_option linter.unusedVariables false
set_option linter.unusedSimpArgs false
open Go.RowKit
theorem Df.Im.add0 {u : World} {b : Nat} (h : Df.Im u b []) {z : Int} (hz : -1 ≤ z ∧ z < 1000000) : ∃ u', (Instr.mapUpdate 121 (.map (some b)) (.int .i64 z) (.int .i64 0)).run Try.prog u = .ok () u' ∧ Df.Im u' b ([] ++ [z]) ∧ u.grownBy u' (some b) := h.add hz (by simp) (by simp)
def Df.NB (A1 : World) (z : Int) (b5 bm : Nat) (wx : World) : Prop := wx.cell? ⟨b5, 0, none⟩ = some (.map (some bm)) ∧ Df.Im wx bm [z] ∧ Below A1.heap.size A1 wx ∧ A1.heap.size ≤ b5 ∧ A1.heap.size ≤ bm ∧ b5 ≠ bm
theorem Df.nb1 {A1 y : World} {z : Int} {bm : Nat} (hb : bm = A1.heap.size) (him : Df.Im y bm ([] ++ [z])) (hg : (A1.alloc (.map #[] 0)).drew.grownBy y (some bm)) (t : TypeId) : Df.NB A1 z y.heap.size bm (y.alloc (.cells #[.map (some bm)] t)) := by
  have h1 : (A1.alloc (.map #[] 0)).drew.heap.size = A1.heap.size + 1 := by simp
  have h2 := hg.size
  refine ⟨by simp [go_sem], him.same (Below.heap_alloc _ _ _ him.lt), ?_, by omega, by omega, by omega⟩
  exact Bs.below_up (((Bs.below1 A1 (.map #[] 0)).drew).grown hg (by omega) (fun k hk => by injection hk with hk; omega)) (Bs.below1 y _)
theorem Df.nb2 {A1 U y : World} {z : Int} {b5 bm : Nat} {v : Value} (hU : Below A1.heap.size A1 U) (h5 : A1.heap.size ≤ b5) (hb : A1.heap.size ≤ bm) (hne : b5 ≠ bm) (him : Df.Im y bm ([] ++ [z])) (hg : U.grownBy y (some bm)) (hc : U.cell? ⟨b5, 0, none⟩ = some v) : Df.NB A1 z b5 bm (y.setCell ⟨b5, 0, none⟩ (.map (some bm))) := by
  have hc2 := hg.cell hc (fun e => hne (by injection e))
  refine ⟨by simp [go_sem, hc2], him.same (Below.heap_setCell _ _ _ _ (fun e => hne e.symm)), (hU.grown hg hU.size (fun k hk => by injection hk with hk; omega)).setCell (p := ⟨b5, 0, none⟩) h5 _, h5, hb, hne⟩
def Df.TabPost (W0 : World) (nx : List (List Nat)) (r : List Int) (st : Nat) (e : Ending) (u' : World) : Prop :=
  ∃ v8 v9 rows p S, e = .returned (.tuple #[v8, v9]) ∧ Ng.Own W0.heap.size v8 rows u' ∧ (rows.length = (Df.tN p nx S).length ∧ ∀ i (h : i < rows.length) (h' : i < (Df.tN p nx S).length), Nf.Row u' (fun k => W0.heap.size ≤ k) rows[i] (Df.tN p nx S)[i]) ∧ Nf.Row u' (fun k => W0.heap.size ≤ k) v9 (Df.tR r S) ∧ Below W0.heap.size W0 u' ∧ Df.Fine nx r p ∧ Df.PartOk nx p ∧ ∃ m, Df.SWent (fun k => p.getD k 0) nx st m ∧ Df.sGone (fun k => p.getD k 0) nx st m = S ∧ S.length = m
def Df.rv (P : Nat → Int) (S us : List Nat) (k i : Nat) : Value := if i < k then .int .i64 (Df.sNum P S (us.getD i 0)) else .int .i64 0
theorem Df.rv_row {u : World} {B : Nat → Prop} {g n : Nat} {P : Nat → Int} {S us : List Nat} (h : u.rowIs g 3 n (Df.rv P S us us.length)) (hn : us.length = n) (hB : B g) : Nf.Row u B (.slice (some ⟨g, 0, none⟩) n n) (us.map (Df.sNum P S)) := by
  have hl : (us.map (Df.sNum P S)).length = n := by simp [hn]
  refine ⟨some ⟨g, 0, none⟩, n, by rw [hl], by rw [hl]; exact Nat.le_refl _, fun e => (by cases e), fun i hi => ⟨_, rfl, ?_⟩, fun x e _ => by injection e with e; subst e; exact hB⟩
  have e0 : (⟨g, 0, none⟩ : Addr).add i = ⟨g, i, none⟩ := by unfold Addr.add; split <;> simp_all
  have hi2 : i < us.length := by rw [hl] at hi; omega
  rw [e0, h.cell (by omega)]
  simp [Df.rv, hi2]
set_option maxRecDepth 100000 in
set_option maxHeartbeats 2000000 in
theorem tableW_any (w0 : World) (r b gx rm : Nat) (vb : Value) (l : List Rx) (st : Nat) (ks : List (List Nat)) (vF : Value) (F : List Df.Fr) (vs : List (Value × Value × Value)) (nx : List (List Nat)) (W0 : World) (HK0 : Df.WK w0 r b gx rm vb l st ks vF F vs nx W0)
    (hnx : nx.length = F.length) (hF : F.length ≤ 1000) (hF0 : 0 < F.length) (wd : Nat) (hwd : ∀ x ∈ nx, x.length = wd) (hw1 : wd ≤ 1000) (hin : ∀ x ∈ nx, ∀ k ∈ x, k < nx.length) (hrl : ∀ f ∈ F, -1 ≤ Df.rle f.2 ∧ Df.rle f.2 < 60000) (hll : l.length ≤ 1000) (hst : st < nx.length) :
    Calls Try.prog 31 #[.pointer (some ⟨r, 0, none⟩)] W0 (Df.TabPost W0 nx (Df.rl F) st) := by
  have C := Lib.hid (alikeW_any w0 r b gx rm vb l st ks vF F vs nx W0 HK0 hnx hF hF0 wd hwd hw1 hin hrl hll)
  have HK := Lib.hid HK0
  have HNX := Lib.hid hnx
  have HWD := Lib.hid hwd
  have HIN := Lib.hid hin
  have HRL := Lib.hid hrl
  clear HK0 hnx hwd hin hrl
  go_enter Try.func31, Try.ntmps31
  go_wp2_with fail
  refine C.out.mono ?_
  rintro e u1 ⟨v, p, rfl, hrow, hfi, hpo, hb1⟩
  have HFI := Lib.hid hfi
  have HPO := Lib.hid hpo
  obtain ⟨ap0, N, c1, rfl⟩ := hrow.form
  have hN : N = p.length := Nf.Row.len hrow
  have hNn : N = nx.length := by rw [hN]; exact hpo.len
  have B1 := Bs.below1 u1 (.cells #[.slice ap0 N c1] 38)
  have HPR := Lib.hid (hrow.lt.up B1)
  have hst2 : st < p.length := by rw [← hN, hNn]; exact hst
  obtain ⟨zz, ap, rfl, cq⟩ := (hrow.up B1).get st hst2
  have HA := Lib.hid (Bs.below_up hb1 B1)
  have HKA := Lib.hid (HK.out.up (Bs.below_up hb1 B1))
  have HCP := Lib.hid (show (u1.alloc (.cells #[.slice (some ap) N c1] 38)).cell? ⟨u1.heap.size, 0, none⟩ = some (.slice (some ap) N c1) by simp [go_sem])
  have HB4 := Lib.hid (show u1.heap.size < (u1.alloc (.cells #[.slice (some ap) N c1] 38)).heap.size by simp)
  have HBU := Lib.hid hb1.size
  have HN := Lib.hid hN
  have HNN := Lib.hid hNn
  clear C hrow hfi hpo hb1 B1 hN hNn zz
  go_upto_region 2 with fail
  generalize hA1 : u1.alloc (.cells #[.slice (some ap) N c1] 38) = A1 at *
  generalize hb4 : u1.heap.size = b4 at *
  clear hA1 hb4
  obtain ⟨z0, hz0⟩ : ∃ z, z = p.getD st 0 := ⟨_, rfl⟩
  rw [← hz0] at cq
  have HZ0 := Lib.hid hz0
  have HZB := Lib.hid (show -1 ≤ z0 ∧ z0 < 1000000 by rw [hz0]; have := HPO.out.get st; omega)
  clear hz0
  have i1 : (0 : Int) ≤ (st : Int) := by omega
  have i2 : (st : Int) < (N : Int) := by rw [HN.out]; omega
  have i3 : st < N := by omega
  go_cut [5] (fun v5 wx => ∃ b5 bm : Nat, v5 = .pointer (some ⟨b5, 0, none⟩) ∧ Hid (Df.NB A1 z0 b5 bm wx))
  case first =>
    have c4 := HKA.out.c4
    have cp := HCP.out
    have Ba := Bs.below1 A1 (.map #[] 0)
    have Bb := Bs.below1 A1 (.cells #[.map none] 121)
    have Bc := Bs.below_up Ba (Bs.below1 _ (.cells #[.map none] 121))
    have Bd := Bs.below_up Bb (Bs.below1 _ (.map #[] 0))
    have c4a := Bs.cell_up Ba c4; have c4b := Bs.cell_up Bb c4; have c4c := Bs.cell_up Bc c4; have c4d := Bs.cell_up Bd c4
    have cpa := Bs.cell_up Ba cp; have cpb := Bs.cell_up Bb cp; have cpc := Bs.cell_up Bc cp; have cpd := Bs.cell_up Bd cp
    have cqa := Bs.cell_up Ba cq; have cqb := Bs.cell_up Bb cq; have cqc := Bs.cell_up Bc cq; have cqd := Bs.cell_up Bd cq
    have hmm := @run_makeMap Try.prog
    have sa : (A1.alloc (.cells #[.map none] 121)).heap.size = A1.heap.size + 1 := by simp
    obtain ⟨y1, hr1, im1, g1⟩ := ((Df.im_new A1).same (u' := (A1.alloc (.map #[] 0)).drew) rfl).add0 HZB.out
    obtain ⟨y2, hr2, im2, g2⟩ := (((Df.im_new A1).same (u' := (A1.alloc (.map #[] 0)).alloc (.cells #[.map none] 121)) (Below.heap_alloc _ _ _ (by simp))).same (u' := ((A1.alloc (.map #[] 0)).alloc (.cells #[.map none] 121)).drew) rfl).add0 HZB.out
    have im3' := Df.im_new (A1.alloc (.cells #[.map none] 121))
    rw [sa] at im3'
    obtain ⟨y3, hr3, im3, g3⟩ := (im3'.same (u' := ((A1.alloc (.cells #[.map none] 121)).alloc (.map #[] 0)).drew) rfl).add0 HZB.out
    have HI1 := Lib.hid im1; have HG1 := Lib.hid g1
    have HI2 := Lib.hid im2; have HG2 := Lib.hid g2
    have HI3 := Lib.hid im3; have HG3 := Lib.hid g3
    have c52 := g2.cell (a := ⟨A1.heap.size + 1, 0, none⟩) (v := .map none) (by simp [go_sem]) (by simp)
    have c53 := g3.cell (a := ⟨A1.heap.size, 0, none⟩) (v := .map none) (by simp [go_sem]) (by simp)
    have f52 : y2.frozen? ⟨A1.heap.size + 1, 0, none⟩ = false := by rw [(Ng.Only.of_grown g2).frozen (by simp) (by simp)]; simp [go_sem]
    have f53 : y3.frozen? ⟨A1.heap.size, 0, none⟩ = false := by rw [(Ng.Only.of_grown g3).frozen (by simp; omega) (by simp)]; simp [go_sem]
    clear Ba Bb Bc Bd im1 g1 im2 g2 im3 g3 im3' sa
    go_region
    all_goals go_wp2_with fail
    all_goals go_meet
    · exact ⟨_, _, rfl, Lib.hid (Df.nb1 rfl HI1.out HG1.out _)⟩
    · exact ⟨_, _, rfl, Lib.hid (Df.nb2 (Below.drew (Bs.below_up (Bs.below1 A1 _) (Bs.below1 _ _))) (by omega) (by omega) (by omega) HI2.out HG2.out (v := .map none) (by simp [go_sem]))⟩
    · exact ⟨_, _, rfl, Lib.hid (Df.nb2 (Below.drew (Bs.below_up (Bs.below1 A1 _) (Bs.below1 _ _))) (by omega) (by omega) (by omega) HI3.out HG3.out (v := .map none) (by simp [go_sem]))⟩
  case rest =>
    obtain ⟨b5, bm, rfl, HNB⟩ := hcut
    clear cq
    have c4 := (HKA.out.up HNB.out.2.2.1).c4
    have B1 := Bs.below1 wc (.cells #[.int .i64 st] 3)
    have B2 := Bs.below_up B1 (Bs.below1 _ (.cells #[.slice (some ⟨wc.heap.size, 0, none⟩) 1 1] 38))
    have s1 : (wc.alloc (.cells #[.int .i64 st] 3)).heap.size = wc.heap.size + 1 := by simp
    have hA1c : A1.heap.size ≤ wc.heap.size := HNB.out.2.2.1.size
    have HLT := Lib.hid (show b5 < wc.heap.size ∧ bm < wc.heap.size from ⟨World.block_lt_of_cell? wc _ HNB.out.1, HNB.out.2.1.lt⟩)
    have HTS : Hid (Df.TS A1 b4 b5 (wc.heap.size + 1) bm p (.slice (some ap) N c1) (Df.sGone (fun k => p.getD k 0) nx st 0) (.slice (some ⟨wc.heap.size, 0, none⟩) 1 1) ((wc.alloc (.cells #[.int .i64 st] 3)).alloc (.cells #[.slice (some ⟨wc.heap.size, 0, none⟩) 1 1] 38))) := by
      have hn : ∀ k, k < wc.heap.size → k ≠ bm → ¬ Df.W6 (wc.heap.size + 1) bm (.slice (some ⟨wc.heap.size, 0, none⟩) 1 1) k := fun k hk hm => by
        rintro (e | e | e)
        · omega
        · exact hm e
        · simp only [Value.ownBlock] at e; injection e with e; omega
      have hlt := HLT.out
      have hnb := HNB.out
      have hb4 := HB4.out
      have hbm := hnb.2.2.2.2.1
      have hb5 := hnb.2.2.2.1
      refine Lib.hid ⟨Bs.below_up hnb.2.2.1 B2, Bs.cell_up B2 (Bs.cell_up hnb.2.2.1 HCP.out), Bs.cell_up B2 hnb.1, by simp [go_sem], by simp [go_sem], ?_, ?_, (Nf.own_one wc A1.heap.size st hA1c).up (Bs.below1 _ _), hn _ (by omega) (by omega), hn _ hlt.1 hnb.2.2.2.2.2, ⟨by omega, by simp only [Value.ownBlock]; intro e; injection e with e; omega⟩, by simp only [Value.ownBlock]; intro e; injection e with e; omega, by omega, hnb.2.2.2.2.1⟩
      · exact (((HPR.out.up hnb.2.2.1).mono (fun k hk => hn k (by have := hk.2; omega) (by have := hk.2; have := hnb.2.2.2.2.1; omega))).up B2)
      · have h1 : Df.Im wc bm [z0] := hnb.2.1
        have e1 : (Df.sGone (fun k => p.getD k 0) nx st 0).map (fun k => p.getD k 0) = [z0] := by rw [HZ0.out]; rfl
        rw [e1]
        exact h1.same (B2.block _ hlt.2)
    have HPA := Lib.hid (show Nf.Row wc (fun k => k < A1.heap.size) (.slice (some ap) N c1) p from (HPR.out.up HNB.out.2.2.1).mono (fun k hk => by have := hk.2; have := HB4.out; omega))
    have HPB := Lib.hid (HPA.out.up B2)
    have HTL : Hid (Df.TL A1 (wc.heap.size + 1 + 1) b4 b5 (wc.heap.size + 1) bm p (.slice (some ap) N c1) (Df.sGone (fun k => p.getD k 0) nx st 0) (.slice (some ⟨wc.heap.size, 0, none⟩) 1 1) (.slice none 0 0) (.slice none 0 0) [] [] [] ((wc.alloc (.cells #[.int .i64 st] 3)).alloc (.cells #[.slice (some ⟨wc.heap.size, 0, none⟩) 1 1] 38))) := by
      have hlt := HLT.out
      exact Lib.hid ⟨HTS.out, by omega, by omega, by omega, by omega, by simp, Ng.own_nil _ _, Nf.own_nil _ _, fun k hk => by simp [Value.ownBlock] at hk, fun k hk => by simp [Value.ownBlock] at hk, fun k hk => by simp [Value.ownBlock] at hk, rfl, fun i h => by simp at h⟩
    go_upto_region 8 with fail
    clear c4 B1 B2 s1 HTS
    generalize (wc.alloc (.cells #[.int .i64 st] 3)).alloc (.cells #[.slice (some ⟨wc.heap.size, 0, none⟩) 1 1] 38) = U at *
    generalize wc.heap.size + 1 + 1 = G at *
    generalize wc.heap.size + 1 = b6 at *
    generalize (Value.slice (some ⟨wc.heap.size, 0, none⟩) 1 1) = vS0 at *
    have HGL := Lib.hid (fun q => Df.sGone_len (P := fun k => p.getD k 0) HIN.out hst q)
    go_loopw [8, 9, 10] (fun v8 v9 i wr => ∃ (q : Nat) (vS : Value) (rows : List Value) (NN : List (List Int)) (R : List Int), q ≤ 1000 ∧ i = .int .i64 q ∧ Hid (Df.TL A1 G b4 b5 b6 bm p (.slice (some ap) N c1) (Df.sGone (fun k => p.getD k 0) nx st q) vS v8 v9 rows NN R wr) ∧ Hid (Nf.Row wr (fun k => k < A1.heap.size) (.slice (some ap) N c1) p) ∧ Hid (Df.SWent (fun k => p.getD k 0) nx st q) ∧ Hid (Df.NOk (fun k => p.getD k 0) nx (Df.rl F) (Df.sGone (fun k => p.getD k 0) nx st q) q NN R)) (fun _ _ i _ => 1001 - (intOf i).toNat)
    case atStart => exact ⟨0, vS0, [], [], [], by omega, rfl, HTL, HPB, Lib.hid (fun i hi => by omega), Lib.hid ⟨rfl, fun j h => by simp at h, fun j h => by omega, by omega, rfl⟩⟩
    case round =>
      clear HTL HPB
      obtain ⟨q, vS, rows, NN, R, hq, rfl, HTL, HPB, HSW, HNK⟩ := hrel
      obtain ⟨aS, nS, cS, rfl⟩ := (Nf.Own.row (B := fun _ => True) HTL.out.ts.os (fun _ _ => trivial)).form
      obtain ⟨S, hS⟩ : ∃ S, S = Df.sGone (fun k => p.getD k 0) nx st q := ⟨_, rfl⟩
      have HSE := Lib.hid hS
      have hgl := HGL.out q
      rw [← hS] at HTL HNK hgl
      clear hS
      have hnS : nS = S.length := by rw [Nf.Row.len (Nf.Own.row (B := fun _ => True) HTL.out.ts.os (fun _ _ => trivial))]; simp
      have HNS := Lib.hid hnS
      have hqS : q ≤ nS := by rw [hnS]; exact HNK.out.le
      have hnS3 : nS ≤ 1000 := by rw [hnS]; have := hgl.2; have := HNX.out; omega
      have HGL1 := Lib.hid hgl.1
      have cs := HTL.out.ts.cs
      clear hnS hgl
      by_cases hlt : q < nS
      case neg =>
        have hqn : q = nS := by omega
        subst hqn
        obtain ⟨a8, c8, e8, _⟩ := HTL.out.o8.cells
        obtain ⟨a9, n9, c9, e9⟩ := (Nf.Own.row (B := fun _ => True) HTL.out.o9 (fun _ _ => trivial)).form
        subst e8
        subst e9
        go_wp2_with fail
        go_ret2
        have hWG : W0.heap.size ≤ G := by have h1 := HTL.out.ga; have h2 := HA.out.size; omega
        refine ⟨_, _, rows, p, S, rfl, World.ownsRow.mono HTL.out.o8 hWG, ⟨?_, fun i h1 h2 => ?_⟩, ?_, ?_, HFI.out, HPO.out, q, HSW.out, HSE.out.symm, HNS.out.symm⟩
        · rw [HTL.out.len, HNK.out.ln, HNS.out]; simp [Df.tN]
        · have h3 : i < NN.length := by rw [← HTL.out.len]; exact h1
          have hiS : i < S.length := by rw [← HNS.out, ← HNK.out.ln]; exact h3
          have h4 := HNK.out.row i h3
          have e4 : (Df.tN p nx S)[i] = NN[i] := by
            rw [h4]
            simp only [Df.tN, List.getElem_map]
            rw [List.getD_eq_getElem?_getD (l := S), List.getElem?_eq_getElem hiS]
            rfl
          rw [e4]
          exact (HTL.out.rw' i h1 h3).mono (fun k hk => Nat.le_trans hWG hk.1)
        · have e5 : Df.tR (Df.rl F) S = R := by
            rw [HNK.out.rl, List.take_of_length_le (by rw [← HNS.out]; exact Nat.le_refl _)]
            rfl
          rw [e5]
          exact Nf.Own.row HTL.out.o9 (fun k hk => Nat.le_trans hWG hk)
        · exact HA.out.trans (HTL.out.ts.bel.mono HA.out.size)
      case pos =>
        have hqS2 : q < S.length := by rw [← HNS.out]; exact hlt
        have hKw := HKA.out.up HTL.out.ts.bel
        obtain ⟨s, hs⟩ : ∃ s, s = S.getD q 0 := ⟨_, rfl⟩
        have HSQ := Lib.hid hs
        have hsm : s ∈ S := by rw [hs, List.getD_eq_getElem?_getD, List.getElem?_eq_getElem hqS2]; exact List.getElem_mem hqS2
        have hsn : s < nx.length := HGL1.out s hsm
        have hsF : s < F.length := by rw [← HNX.out]; exact hsn
        have hsv : s < vs.length := by rw [hKw.rw'.len]; exact hsF
        obtain ⟨zz, aSp, rfl, cel⟩ := (Nf.Own.row (B := fun _ => True) HTL.out.ts.os (fun _ _ => trivial)).get q (by simpa using hqS2)
        have e0 : (Ng.nums S).getD q 0 = (s : Int) := by rw [hs, List.getD_eq_getElem?_getD, List.getElem?_map, List.getD_eq_getElem?_getD, List.getElem?_eq_getElem hqS2]; rfl
        rw [e0] at cel
        clear zz e0 hs hsm
        obtain ⟨aF, nF, cF, rfl⟩ : ∃ a n c, vF = .slice a n c := by
          rcases HK.out.of.2 with ⟨e, _⟩ | ⟨g, cap, cur, e, _⟩
          · exact ⟨_, _, _, e⟩
          · exact ⟨_, _, _, e⟩
        have hnF : nF = F.length := by rw [(hKw.at).1, hKw.rw'.len]
        have hsf2 : s < nF := by rw [hnF]; exact hsF
        have hnF2 : nF ≤ 1000 := by rw [hnF]; exact hF
        obtain ⟨pF, rfl, x0, x1, x2, z2, gg, ep, eq3⟩ := hKw.atp s hsv
        have c3 := hKw.c3
        have hy := HKA.out.rw'.ra s hsv hsF
        have hn := (HKA.out.rw'.rn s hsv).1 hsn
        have HRQ := Lib.hid (show Df.rle (F[s]).2 = (Df.rl F).getD s 0 by unfold Df.rl; rw [List.getD_eq_getElem?_getD, List.getElem?_map, List.getElem?_eq_getElem hsF]; rfl)
        have HRLN := Lib.hid (show (F[s]).2.length ≤ 1000000 by have := (hKw.ok _ (List.getElem_mem hsF)).2.1; omega)
        have HUSE := Lib.hid (show nx.getD s [] = nx[s] by rw [List.getD_eq_getElem?_getD, List.getElem?_eq_getElem hsn]; rfl)
        have HUW := Lib.hid (HWD.out _ (List.getElem_mem hsn))
        have HUI := Lib.hid (HIN.out _ (List.getElem_mem hsn))
        obtain ⟨f, hf⟩ : ∃ f, f = F[s] := ⟨_, rfl⟩
        rw [← hf] at HRQ HRLN hy
        obtain ⟨us, hus⟩ : ∃ us, us = nx[s] := ⟨_, rfl⟩
        rw [← hus] at HUSE HUW HUI hn
        obtain ⟨vsq, hvsq⟩ : ∃ v, v = vs[s] := ⟨_, rfl⟩
        rw [← hvsq] at x0 x1 x2 hy hn
        clear hvsq hf hus z2 ep eq3 hnF
        obtain ⟨y1, y2, y3⟩ := vsq
        simp only at x0 x1 x2 hy hn
        obtain ⟨d1, d2, d3, rfl⟩ := hy.1.form
        obtain ⟨d4, d5, d6, rfl⟩ := hy.2.form
        obtain ⟨d7, wd', d9, rfl⟩ := hn.form
        have hwl : wd' = us.length := by rw [Nf.Row.len hn]; simp
        have hww : wd' = wd := by rw [hwl]; exact HUW.out
        subst hww
        have HWL := Lib.hid hwl
        have HY1 := Lib.hid hy.1
        have HY2 := Lib.hid hy.2
        have HNR := Lib.hid hn
        have i4 : (0 : Int) ≤ (q : Int) := by omega
        have i5 : (q : Int) < (nS : Int) := by omega
        have i6 : (0 : Int) ≤ (s : Int) := by omega
        have i7 : (s : Int) < (nF : Int) := by omega
        have Bz := Bs.below1 wr (.cells #[.slice none 0 0, .slice none 0 0, .slice none 0 0] 119)
        have c3' := Bs.cell_up Bz c3; have cs' := Bs.cell_up Bz cs; have cel' := Bs.cell_up Bz cel
        have x0' := Bs.cell_up Bz x0; have x1' := Bs.cell_up Bz x1; have x2' := Bs.cell_up Bz x2
        clear hKw hy hn hwl Bz
        go_upto_region 10 with fail
        go_cut [11] (fun v11 wx => ∃ b11 : Nat, v11 = .pointer (some ⟨b11, 0, none⟩) ∧ Hid (Df.B3 wx b11 (.slice d1 d2 d3) (.slice d4 d5 d6) (.slice d7 wd' d9)) ∧ Hid (Below wr.heap.size wr wx) ∧ Hid (wr.heap.size ≤ b11))
        case first =>
          go_region
          all_goals go_wp2_with fail
          all_goals go_meet
          exact ⟨_, rfl, Lib.hid ((Df.b3_new wr _ _ _ _).up (Below.refl _ _).drew), Lib.hid (Bs.below1 wr _).drew, Lib.hid (Nat.le_refl _)⟩
        case rest =>
          clear c3 c3' cs cs' cel cel' x0 x0' x1 x1' x2 x2' i4 i5 i6 i7
          obtain ⟨b11, rfl, HP3, HBW, HB11⟩ := hcut
          have HTL2 := Lib.hid (HTL.out.up HBW.out)
          have HPB2 := Lib.hid (HPB.out.up HBW.out)
          have HFB := Lib.hid (Df.fre_new HTL.out b11 HB11.out)
          have p2 := HP3.out.p2
          have hmk := run_make_row' (P := Try.prog) 38 3 (.int .i64 0) 8 Try.underlying38 Nf.infoInt rfl .i64 .i64 wd' (by omega) (by omega)
          have B1 := Bs.below1 wc (.cells (madeCells #[.int .i64 0] wd') 3)
          have p2' := Bs.cell_up B1 p2
          have HRW0 := Lib.hid (World.rowIs_made wc (.int .i64 0) wd' 3)
          have HTL3 := Lib.hid (HTL2.out.up B1)
          have HPB3 := Lib.hid (HPB2.out.up B1)
          have HP33 := Lib.hid (HP3.out.up B1)
          have HFG := Lib.hid (Df.fre_new HTL2.out wc.heap.size (Nat.le_refl _))
          have HGB := Lib.hid (show wc.heap.size ≠ b11 from fun e => by have := HP3.out.lt; omega)
          have HNRO := Lib.hid (show ∀ i (h : i < rows.length) (h' : i < NN.length), Nf.Row (wc.alloc (.cells (madeCells #[.int .i64 0] wd') 3)) (fun k => Df.Fre G (.slice (some aSp) nS cS) u8 u9 k ∧ k ≠ wc.heap.size) rows[i] NN[i] from fun i h1 h2 => (((HTL2.out.rw' i h1 h2).lt).mono (fun k hk => ⟨hk.1, by have := hk.2; omega⟩)).up B1)
          go_wp2_with fail
          clear p2 p2' hmk B1 HTL2 HPB2 HP3
          generalize hY9 : wc.alloc (.cells (madeCells #[.int .i64 0] wd') 3) = Y at *
          generalize hg12 : wc.heap.size = g12 at *
          clear hY9 hg12
          go_loopw [55] (fun i wx => ∃ (k : Nat) (vS : Value), k ≤ wd' ∧ i = .int .i64 k ∧ Hid (Df.TL A1 G b4 b5 b6 bm p (.slice (some ap) N c1) ((us.take k).foldl (Df.sMeet fun k => p.getD k 0) S) vS u8 u9 rows NN R wx) ∧ Hid (wx.rowIs g12 3 wd' (Df.rv (fun k => p.getD k 0) ((us.take k).foldl (Df.sMeet fun k => p.getD k 0) S) us k)) ∧ Hid (Df.B3 wx b11 (.slice d1 d2 d3) (.slice d4 d5 d6) (.slice d7 wd' d9)) ∧ Hid (Df.Fre G vS u8 u9 g12 ∧ Df.Fre G vS u8 u9 b11) ∧ Hid (Nf.Row wx (fun k => k < A1.heap.size) (.slice (some ap) N c1) p) ∧ Hid (∀ i (h : i < rows.length) (h' : i < NN.length), Nf.Row wx (fun k => Df.Fre G vS u8 u9 k ∧ k ≠ g12) rows[i] NN[i])) (fun i _ => wd' - (intOf i).toNat)
          case atStart => exact ⟨0, .slice (some aSp) nS cS, by omega, rfl, HTL3, Lib.hid (HRW0.out.congr fun i hi => by simp [Df.rv]), HP33, Lib.hid ⟨HFG.out, HFB.out⟩, HPB3, HNRO⟩
          case round =>
            clear HTL3 HRW0 HP33 HFG HFB HPB3 HNRO HTL HPB
            obtain ⟨k, vS, hk, rfl, HTL, HRW, HP3, HFR, HPB, HNRO⟩ := hrel
            have HSL := Lib.hid (show ((us.take k).foldl (Df.sMeet fun k => p.getD k 0) S).length ≤ 10000 by
              have h1 : ∀ (us ks : List Nat), (us.foldl (Df.sMeet fun k => p.getD k 0) ks).length ≤ ks.length + us.length := by
                intro us
                induction us with
                | nil => intro ks; simp
                | cons u us ih =>
                  intro ks
                  rw [List.foldl_cons, List.length_cons]
                  have h2 := ih (Df.sMeet (fun k => p.getD k 0) ks u)
                  have h3 : (Df.sMeet (fun k => p.getD k 0) ks u).length ≤ ks.length + 1 := by
                    unfold Df.sMeet
                    split
                    · omega
                    · split
                      · omega
                      · simp
                  omega
              have h2 := h1 (us.take k) S
              rw [List.length_take] at h2
              have := HNS.out
              have := HWL.out
              omega)
            by_cases hkw : k < wd'
            · have hku : k < us.length := by rw [← HWL.out]; exact hkw
              obtain ⟨zz, aN, rfl, cel⟩ := (HNR.out.up HTL.out.ts.bel).get k (by simpa using hku)
              have e0 : (Ng.nums us).getD k 0 = (us[k] : Int) := by rw [List.getD_eq_getElem?_getD, List.getElem?_map, List.getElem?_eq_getElem hku]; rfl
              rw [e0] at cel
              have HTK := Lib.hid (show (us.take (k + 1)).foldl (Df.sMeet fun k => p.getD k 0) S = Df.sMeet (fun k => p.getD k 0) ((us.take k).foldl (Df.sMeet fun k => p.getD k 0) S) us[k] by rw [List.take_succ_eq_append_getElem hku, List.foldl_append]; rfl)
              have HUD := Lib.hid (show us.getD k 0 = us[k] by rw [List.getD_eq_getElem?_getD, List.getElem?_eq_getElem hku]; rfl)
              have hmp : us[k] < p.length := by have h1 := HUI.out _ (List.getElem_mem hku); have h2 := HNN.out; have h3 := HN.out; omega
              generalize us[k] = m at *
              have C := Lib.hid (stateOf_any A1 b4 b5 b6 bm p (.slice (some ap) N c1) _ vS m wr HTL.out.ts hmp HPO.out.get HSL.out (by have h2 := HNN.out; have h3 := HN.out; have h4 := HNX.out; omega))
              have i4 : (0 : Int) ≤ (k : Int) := by omega
              have i5 : (k : Int) < (wd' : Int) := by omega
              clear zz e0
              go_wp2_with fail
              refine C.out.mono ?_
              rintro e y ⟨rfl, vS2, ht2, ho2, hx2⟩
              have htl2 := HTL.out.state ht2 ho2 hx2
              have ng := Df.fre_w6 HTL.out HFR.out.1
              have nb := Df.fre_w6 HTL.out HFR.out.2
              have hrow2 := HRW.out.of_block (ho2.block g12 HRW.out.lt ng)
              have hfr2 : Df.Fre G vS2 u8 u9 g12 ∧ Df.Fre G vS2 u8 u9 b11 := ⟨Df.fre_nx HFR.out.1 HRW.out.lt hx2, Df.fre_nx HFR.out.2 HP3.out.lt hx2⟩
              have hb3 : Df.B3 y b11 (.slice d1 d2 d3) (.slice d4 d5 d6) (.slice (some aN) wd' d9) := ⟨ho2.cell HP3.out.p0 nb, ho2.cell HP3.out.p1 nb, ho2.cell HP3.out.p2 nb⟩
              have hp2 : Nf.Row y (fun k => k < A1.heap.size) (.slice (some ap) N c1) p := Df.row_far HPB.out ho2 (fun k _ hk => by
                rintro (e | e | e)
                · have := HTL.out.ts.l6; omega
                · have := HTL.out.ts.lm; omega
                · have := (World.ownsRow.lt HTL.out.ts.os k e.symm).1; omega) (fun k _ hk => hk)
              have hn2 : ∀ i (h : i < rows.length) (h' : i < NN.length), Nf.Row y (fun k => Df.Fre G vS2 u8 u9 k ∧ k ≠ g12) rows[i] NN[i] := fun i h1 h2 => Df.row_far (HNRO.out i h1 h2) ho2 (fun k _ hk => Df.fre_w6 HTL.out hk.1) (fun k hl hk => ⟨Df.fre_nx hk.1 hl hx2, hk.2⟩)
              have cg := hrow2.cell hkw
              have zg := hrow2.frozen k
              obtain ⟨S2, hS2⟩ : ∃ S2, S2 = (us.take k).foldl (Df.sMeet fun k => p.getD k 0) S := ⟨_, rfl⟩
              have HS2 := Lib.hid hS2
              rw [← hS2] at htl2 hrow2 HTK ⊢
              obtain ⟨z, hz⟩ : ∃ z, z = Df.sNum (fun k => p.getD k 0) S2 m := ⟨_, rfl⟩
              rw [← hz]
              have HZ := Lib.hid hz
              have HTLX := Lib.hid (htl2.far (G' := 0) HB4.out hfr2.1 hn2 hp2 k (.int .i64 z))
              have HRWX := Lib.hid (hrow2.set k (.int .i64 z))
              have hne : b11 ≠ g12 ∨ True := .inr trivial
              have HPX := Lib.hid (show Nf.Row (y.setCell ⟨g12, k, none⟩ (.int .i64 z)) (fun k => k < A1.heap.size) (.slice (some ap) N c1) p from hp2.set (by have h1 := hfr2.1.1; have h2 := HTL.out.ga; omega) _)
              have HNX2 := Lib.hid (show ∀ i (h : i < rows.length) (h' : i < NN.length), Nf.Row (y.setCell ⟨g12, k, none⟩ (.int .i64 z)) (fun k => Df.Fre G vS2 u8 u9 k ∧ k ≠ g12) rows[i] NN[i] from fun i h1 h2 => (hn2 i h1 h2).set (fun e => e.2 rfl) _)
              have HFR2 := Lib.hid hfr2
              have HBX := Lib.hid (show Df.B3 (y.setCell ⟨g12, k, none⟩ (.int .i64 z)) b11 (.slice d1 d2 d3) (.slice d4 d5 d6) (.slice (some aN) wd' d9) from ⟨Bs.cell_set hb3.p0 HGB.out, Bs.cell_set hb3.p1 HGB.out, Bs.cell_set hb3.p2 HGB.out⟩)
              clear C ht2 ho2 hx2 htl2 ng nb hrow2 hfr2 hb3 hp2 hn2 hS2 hz hne cel
              go_wp2_with fail
              go_roundw
              case rel =>
                refine ⟨k + 1, vS2, by omega, by go_num, by rw [HTK.out]; exact HTLX, ?_, HBX, HFR2, HPX, HNX2⟩
                refine Lib.hid (HRWX.out.congr fun i hi => ?_)
                rw [HTK.out]
                unfold Df.rv
                by_cases e : i = k
                · subst e
                  rw [if_pos rfl, if_pos (by omega), HUD.out, Df.sNum_met, HZ.out]
                · rw [if_neg e]
                  by_cases e2 : i < k
                  · rw [if_pos e2, if_pos (by omega)]
                    have hiu : i < us.length := by rw [← HWL.out]; omega
                    have hcv : Df.Cov (fun k => p.getD k 0) S2 (us.getD i 0) := by
                      rw [HS2.out]
                      refine Df.cov_meets _ (us.take k) S _ ?_
                      rw [List.getD_eq_getElem?_getD, List.getElem?_eq_getElem hiu, Option.getD_some]
                      exact List.mem_take_iff_getElem.2 ⟨i, by omega, rfl⟩
                    obtain ⟨ys, ey⟩ := Df.sMeet_pre (fun k => p.getD k 0) S2 m
                    rw [ey, Df.sNum_pre hcv]
                  · rw [if_neg e2, if_neg (by omega)]
              case measure => simp [intOf]; omega
            · have hkn : k = wd' := by omega
              subst hkn
              have ht : us.take k = us := List.take_of_length_le (by rw [← HWL.out]; exact Nat.le_refl _)
              rw [ht] at HTL HRW
              clear HSL ht
              have HUS2 := Lib.hid (show us = nx.getD (S.getD q 0) [] by rw [← HSQ.out, HUSE.out])
              obtain ⟨S2, hS2⟩ : ∃ S2, S2 = us.foldl (Df.sMeet fun k => p.getD k 0) S := ⟨_, rfl⟩
              have HS2 := Lib.hid hS2
              rw [← hS2] at HTL HRW
              have HSG := Lib.hid (show Df.sGone (fun k => p.getD k 0) nx st (q + 1) = S2 by
                have e1 : Df.sGone (fun k => p.getD k 0) nx st (q + 1) = Df.sPass (fun k => p.getD k 0) nx (Df.sGone (fun k => p.getD k 0) nx st q) q := rfl
                rw [e1, ← HSE.out, Df.sPass_at _ _ _ hqS2, hS2, HUS2.out, List.getD_eq_getElem?_getD (l := S), List.getElem?_eq_getElem hqS2]
                rfl)
              have HNK2 := Lib.hid (HNK.out.next hqS2 HUS2.out hS2)
              have HSW2 := Lib.hid (HSW.out.succ (by rw [← HSE.out]; exact hqS2))
              have hS2l := (HGL.out (q + 1)).2
              rw [HSG.out] at hS2l
              have hlnx := HNX.out
              have hq9 : q + 1 ≤ 1000 := by omega
              have HRV := Lib.hid (Df.rv_row (B := Df.Fre G vS u8 u9) (by rw [← HWL.out]; exact HRW.out) HWL.out.symm HFR.out.1)
              have B1 := Bs.below1 wr (.cells #[.slice (some ⟨g12, 0, none⟩) k k] 38)
              have HT8 := Lib.hid (HTL.out.up B1)
              have HV8 := Lib.hid (HRV.out.up B1)
              have HPA8 := Lib.hid (HPB.out.up B1)
              have HB38 := Lib.hid (HP3.out.up B1)
              have HNB8 := Lib.hid (Ng.new_at wr _ rfl (.cells #[.slice (some ⟨g12, 0, none⟩) k k] 38))
              have hrl8 : rows.length ≤ 1000000 := by rw [HTL.out.len, HNK.out.ln]; omega
              have hbs8 : G ≤ (wr.alloc (.cells #[.slice (some ⟨g12, 0, none⟩) k k] 38)).heap.size := HT8.out.gu
              have HRL8 := Lib.hid (show rows.length = q by rw [HTL.out.len, HNK.out.ln])
              have HRL9 := Lib.hid (show R.length = q by rw [HNK.out.rl, List.length_map, List.length_take]; omega)
              clear B1 hS2
              go_upto_region 17 with fail
              go_wp2_with (first
                | (at_builtin; refine Ng.appendL rfl _ _ rfl G u8 rows rfl HT8.out.o8 wr.heap.size 1 (.slice (some ⟨g12, 0, none⟩) k k) rfl HNB8.out rfl hrl8 hbs8 ?_; intro g8 cp8 w8 O8 gr8 l8; rw [HRL8.out]; rw [HRL8.out] at O8; have HT9 := Lib.hid (HT8.out.push8 HB4.out HPA8.out HV8.out gr8 O8 l8); have HB39 := Lib.hid (HB38.out.grown gr8 (fun e => HFR.out.2.2.2.1 e)); have HPA9 := Lib.hid (show Nf.Row w8 (fun k => k < A1.heap.size) (.slice (some ap) N c1) p from Df.row_far HPA8.out (Ng.Only.of_grown gr8) (fun k _ hk e => (by have h1 := (World.ownsRow.lt HT8.out.o8 k e).1; have h2 := HT8.out.ga; omega)) (fun k _ hk => hk)); have HF9 := Lib.hid (show Df.Fre G vS (.slice (some ⟨g8, 0, none⟩) (q + 1) cp8) u9 b11 from ⟨HFR.out.2.1, HFR.out.2.2.1, (fun e => by simp only [Value.ownBlock] at e; injection e with e; rcases l8 with e2 | e2; exact HFR.out.2.2.2.1 (by rw [e2, e]); have h1 := HB38.out.lt; omega), HFR.out.2.2.2.2⟩); have p0 := HB39.out.p0; have p1 := HB39.out.p1; have p2 := HB39.out.p2; clear O8 gr8 l8))
              have CR := Lib.hid (frontRule_any f.1 f.2 (.slice d1 d2 d3) (.slice d4 d5 d6) (.slice d7 k d9) w8 ((HY1.out.up HT9.out.ts.bel).mono (fun _ _ => trivial)) ((HY2.out.up HT9.out.ts.bel).mono (fun _ _ => trivial)) ⟨_, _, _, rfl⟩ HRLN.out)
              refine CR.out.mono ?_
              rintro e y ⟨rfl, by1⟩
              obtain ⟨z, hz⟩ : ∃ z, z = (if (Nf.rule f.2).2 = true then (Nf.rule f.2).1 else -1) := ⟨_, rfl⟩
              rw [← hz]
              have HZR := Lib.hid (show z = (Df.rl F).getD (S.getD q 0) 0 by rw [← HSQ.out, ← HRQ.out, hz]; rfl)
              clear hz CR p0 p1 p2
              have B2 := Bs.below_up by1 (Bs.below1 y (.cells #[.int .i64 z] 3))
              have HT10 := Lib.hid (HT9.out.up B2)
              have HPA10 := Lib.hid (HPA9.out.up B2)
              have HNB10 := Lib.hid (Ng.new_at y _ rfl (.cells #[.int .i64 z] 3))
              have hrl10 : R.length ≤ 10000000 := by rw [HRL9.out]; omega
              have hbs10 : G ≤ (y.alloc (.cells #[.int .i64 z] 3)).heap.size := HT10.out.gu
              clear B2 by1
              go_wp2_with (first
                | (at_builtin; refine Nf.appendL rfl _ _ rfl G u9 R rfl HT10.out.o9 y.heap.size 1 z rfl HNB10.out hrl10 hbs10 ?_; intro g9 cp9 w9 O9 gr9 l9; rw [HRL9.out]; rw [HRL9.out] at O9; have HT11 := Lib.hid (HT10.out.push9 HB4.out HPA10.out gr9 O9 l9); have HPA11 := Lib.hid (show Nf.Row w9 (fun k => k < A1.heap.size) (.slice (some ap) N c1) p from Df.row_far HPA10.out (Ng.Only.of_grown gr9) (fun k _ hk e => (by have h1 := (World.ownsRow.lt HT10.out.o9 k e).1; have h2 := HT10.out.ga; omega)) (fun k _ hk => hk)); clear O9 gr9 l9))
              go_roundw
              case rel =>
                refine ⟨q + 1, vS, _, _, _, hq9, by go_num, by rw [HSG.out]; exact HT11, HPA11, HSW2, ?_⟩
                rw [HSG.out, HZR.out]
                exact HNK2
              case measure => simp [intOf]; omega
end Go.Proofs.Ythapedadnbkgnaa
namespace Go.Proofs.Ythapedadnbkgnaa
set_option linter.unusedVariables false
set_option linter.unusedSimpArgs false
open Go.RowKit
def Df.zT : Array Value := Bs.zeros ++ #[Value.slice none 0 0, Value.slice none 0 0]
theorem Df.zT_size : Df.zT.size = 258 := by unfold Df.zT Bs.zeros; rw [Array.size_append, Bs.arr_size]; rfl
theorem Df.zero258 : (∀ w, (zeroValue 40).run Try.prog w = .ok (.agg Df.zT) w) ∧ (Try.prog.info? 40).map (·.size) = some 258 := zero_of_info (by kernel_rfl)
theorem Df.build0 (w : World) : (Instr.build 40 #[]).run Try.prog w = .ok (.agg Df.zT) w := run_build w 40 #[] Df.zT (by kernel_rfl)
theorem Df.lay_get : ∀ (l : List Value) (n : Nat) (cs : Array Value) (i : Nat), n + l.length ≤ cs.size → (((l.zipIdx n).foldl (fun cs (p : Value × Nat) => cs.setIfInBounds (0 + p.2) p.1) cs)[i]? = if n ≤ i ∧ i < n + l.length then l[i - n]? else cs[i]?)
  | [], n, cs, i, h => by
    rw [if_neg (by simp)]; rfl
  | x :: r, n, cs, i, h => by
    rw [List.zipIdx_cons, List.foldl_cons, Df.lay_get r (n + 1) _ i (by simp at h ⊢; omega)]
    simp only [List.length_cons] at h ⊢
    by_cases e : i = n
    · subst e
      rw [if_neg (by omega), if_pos ⟨Nat.le_refl _, by omega⟩, Array.getElem?_setIfInBounds, Nat.zero_add, if_pos rfl, if_pos (by omega), Nat.sub_self, List.getElem?_cons_zero]
    · by_cases e2 : n + 1 ≤ i ∧ i < n + 1 + r.length
      · rw [if_pos e2, if_pos (by omega), show i - n = (i - (n + 1)) + 1 by omega, List.getElem?_cons_succ]
      · rw [if_neg e2, if_neg (by omega), Array.getElem?_setIfInBounds, if_neg (by omega)]
theorem Df.lay_arr (g : Nat → Nat) : (Bs.arr g).zipIdx.foldl (fun cs (x : Value × Nat) => match x with | (c, j) => cs.setIfInBounds (0 + j) c) Df.zT = Bs.arr g ++ #[Value.slice none 0 0, Value.slice none 0 0] := by
  have e : (Bs.arr g).zipIdx.foldl (fun cs (x : Value × Nat) => match x with | (c, j) => cs.setIfInBounds (0 + j) c) Df.zT = ((Bs.arr g).toList.zipIdx 0).foldl (fun cs (p : Value × Nat) => cs.setIfInBounds (0 + p.2) p.1) Df.zT := by
    rw [← Array.foldl_toList, Array.toList_zipIdx]
  rw [e]
  apply Array.ext_getElem?
  intro i
  have hl : (Bs.arr g).toList.length = 256 := by simpa using Bs.arr_size g
  rw [Df.lay_get _ 0 _ i (by rw [hl, Df.zT_size]; omega), hl]
  by_cases hi : i < 256
  · rw [if_pos (by omega), Array.getElem?_append_left (by rw [Bs.arr_size]; exact hi)]
    simp
  · rw [if_neg (by omega), Array.getElem?_append_right (by rw [Bs.arr_size]; omega), Bs.arr_size]
    unfold Df.zT Bs.zeros
    rw [Array.getElem?_append_right (by rw [Bs.arr_size]; omega), Bs.arr_size]
theorem Df.places : (match Try.prog.info? 40, Try.prog.underlying 40 with | some it, some (.struct fields) => (it.zero, fields.toList.mapM (fun f => (Try.prog.info? f.type).map fun i => (f.offset, i.size))) | _, _ => (none, none)) = (some (.agg Df.zT), some [(0, 256), (256, 1), (257, 1)]) := by kernel_rfl
set_option maxRecDepth 100000 in
theorem Df.fill3 (g : Nat → Nat) (a b : Value) (ha : a.cells = #[a]) (hb : b.cells = #[b]) : Instr.fill ([(0, 256), (256, 1), (257, 1)].toArray[·]?) Df.zT [(0, .agg (Bs.arr g)), (1, a), (2, b)] = some (Bs.arr g ++ #[a, b]) := by
  have s0 := Bs.arr_size g
  have sz := Df.zT_size
  have e1 : (Bs.arr g ++ #[Value.slice none 0 0, Value.slice none 0 0]).size = 258 := by rw [Array.size_append, s0]; rfl
  have e2 : (Bs.arr g ++ #[Value.slice none 0 0, Value.slice none 0 0]).setIfInBounds 256 a = Bs.arr g ++ #[a, Value.slice none 0 0] := by
    apply Array.ext_getElem?
    intro i
    rw [Array.getElem?_setIfInBounds]
    by_cases h : 256 = i
    · subst h
      rw [if_pos rfl, if_pos (by rw [e1]; omega), Array.getElem?_append_right (by rw [s0]; omega), s0]
      rfl
    · rw [if_neg h]
      by_cases h2 : i < 256
      · rw [Array.getElem?_append_left (by rw [s0]; exact h2), Array.getElem?_append_left (by rw [s0]; exact h2)]
      · rw [Array.getElem?_append_right (by rw [s0]; omega), Array.getElem?_append_right (by rw [s0]; omega), s0]
        obtain ⟨d, hd⟩ : ∃ d, i - 256 = d + 1 := ⟨i - 257, by omega⟩
        rw [hd]
        simp
  have e3 : (Bs.arr g ++ #[a, Value.slice none 0 0]).size = 258 := by rw [Array.size_append, s0]; rfl
  have e4 : (Bs.arr g ++ #[a, Value.slice none 0 0]).setIfInBounds 257 b = Bs.arr g ++ #[a, b] := by
    apply Array.ext_getElem?
    intro i
    rw [Array.getElem?_setIfInBounds]
    by_cases h : 257 = i
    · subst h
      rw [if_pos rfl, if_pos (by rw [e3]; omega), Array.getElem?_append_right (by rw [s0]; omega), s0]
      rfl
    · rw [if_neg h]
      by_cases h2 : i < 256
      · rw [Array.getElem?_append_left (by rw [s0]; exact h2), Array.getElem?_append_left (by rw [s0]; exact h2)]
      · rw [Array.getElem?_append_right (by rw [s0]; omega), Array.getElem?_append_right (by rw [s0]; omega), s0]
        by_cases h3 : i = 256
        · subst h3; rfl
        · have q1 : (#[a, Value.slice none 0 0] : Array Value).size ≤ i - 256 := by show 2 ≤ i - 256; omega
          have q2 : (#[a, b] : Array Value).size ≤ i - 256 := by show 2 ≤ i - 256; omega
          rw [Array.getElem?_eq_none q1, Array.getElem?_eq_none q2]
  have c0 : (Value.agg (Bs.arr g)).cells = Bs.arr g := rfl
  have p0 : [(0, 256), (256, 1), (257, 1)].toArray[0]? = some ((0, 256) : Nat × Nat) := rfl
  have p1 : [(0, 256), (256, 1), (257, 1)].toArray[1]? = some ((256, 1) : Nat × Nat) := rfl
  have p2 : [(0, 256), (256, 1), (257, 1)].toArray[2]? = some ((257, 1) : Nat × Nat) := rfl
  rw [Instr.fill]
  simp only [p0, c0, s0, sz]
  rw [if_neg (by simp), Df.lay_arr, Instr.fill]
  simp only [p1, ha, e1]
  rw [if_neg (by simp)]
  have f1 : (#[a] : Array Value).zipIdx.foldl (fun cs (x : Value × Nat) => match x with | (c, j) => cs.setIfInBounds (256 + j) c) (Bs.arr g ++ #[Value.slice none 0 0, Value.slice none 0 0]) = (Bs.arr g ++ #[Value.slice none 0 0, Value.slice none 0 0]).setIfInBounds 256 a := by simp
  rw [f1, e2, Instr.fill]
  simp only [p2, hb, e3]
  rw [if_neg (by simp)]
  have f2 : (#[b] : Array Value).zipIdx.foldl (fun cs (x : Value × Nat) => match x with | (c, j) => cs.setIfInBounds (257 + j) c) (Bs.arr g ++ #[a, Value.slice none 0 0]) = (Bs.arr g ++ #[a, Value.slice none 0 0]).setIfInBounds 257 b := by simp
  rw [f2, e4, Instr.fill]
theorem Df.build3 (g : Nat → Nat) (a b : Value) (ha : a.cells = #[a]) (hb : b.cells = #[b]) (w : World) : (Instr.build 40 #[(0, .agg (Bs.arr g)), (1, a), (2, b)]).run Try.prog w = .ok (.agg (Bs.arr g ++ #[a, b])) w := by
  refine run_build w 40 _ _ ?_
  have hp := Df.places
  unfold Program.built
  cases hi : Try.prog.info? 40 with
  | none => rw [hi] at hp; simp at hp
  | some it =>
    cases hu : Try.prog.underlying 40 with
    | none => rw [hi, hu] at hp; simp at hp
    | some d =>
      rw [hi, hu] at hp
      cases d <;> simp only [Prod.mk.injEq, reduceCtorEq, false_and] at hp
      case struct fields =>
        obtain ⟨h1, h2⟩ := hp
        simp only [h1, h2]
        exact Df.fill3 g a b ha hb
end Go.Proofs.Ythapedadnbkgnaa
