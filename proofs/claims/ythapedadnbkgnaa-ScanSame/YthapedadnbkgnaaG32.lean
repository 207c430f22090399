/- What a table of texts' rules is, walked. What All and Whole answer, walked: the program's. What the document's Next answers, walked. What the document's All answers, and the program's Whole, walked. The chapter's example of layer 9, plain; pieces by a planned table. The chapter's example of layer 9, walked. -/
import Derived.Test.YthapedadnbkgnaaG31
namespace Go.Proofs.Ythapedadnbkgnaa
set_option linter.unusedVariables false
set_option linter.unusedSimpArgs false
open Go.RowKit
theorem Df.zT_val {i : Nat} {x : Value} (h : Df.zT[i]? = some x) : x = .int .u8 0 ∨ x = .slice none 0 0 := by
  unfold Df.zT Bs.zeros at h
  by_cases hi : i < 256
  · rw [Array.getElem?_append_left (by rw [Bs.arr_size]; exact hi), Bs.arr_at _ _ hi] at h
    injection h with h
    exact .inl h.symm
  · rw [Array.getElem?_append_right (by rw [Bs.arr_size]; omega), Bs.arr_size] at h
    rcases Nat.lt_or_ge (i - 256) 2 with h2 | h2
    · rcases (by omega : i - 256 = 0 ∨ i - 256 = 1) with e | e <;> (rw [e] at h; injection h with h; exact .inr h.symm)
    · rw [Array.getElem?_eq_none (by show 2 ≤ i - 256; omega)] at h
      injection h
set_option maxRecDepth 100000 in
theorem Df.cell_kept {u : World} {b : Nat} {t : TypeId} {p : Addr} {x : Value} (hz : u.heap[b]? = some (.cells Df.zT t)) (D : Array Value) (h : u.cell? p = some x) (h1 : x ≠ .int .u8 0) (h2 : x ≠ .slice none 0 0) : (u.setRow b D).cell? p = some x := by
  obtain ⟨k, o, sb⟩ := p
  by_cases e : k = b
  · subst e
    simp only [World.cell?, hz] at h
    have h : Df.zT[o]? = some x := by
      split at h
      · exact absurd h (by simp)
      · exact h
    rcases Df.zT_val h with e | e
    · exact absurd e h1
    · exact absurd e h2
  · simp only [World.cell?, setRow_other _ _ _ _ e] at h ⊢
    exact h
theorem Df.row_kept {u : World} {b : Nat} {t : TypeId} (hz : u.heap[b]? = some (.cells Df.zT t)) (D : Array Value) {v : Value} {l : List Int} (h : Nf.Row u (fun _ => True) v l) : Nf.Row (u.setRow b D) (fun _ => True) v l := by
  obtain ⟨a, cap, e, h1, h2, h3, h4⟩ := h
  refine ⟨a, cap, e, h1, h2, fun i hi => ?_, h4⟩
  obtain ⟨p, ep, hc⟩ := h3 i hi
  exact ⟨p, ep, Df.cell_kept hz D hc (by simp) (by simp)⟩
theorem Df.Tv.row {u : World} {b : Nat} {t : TypeId} (hz : u.heap[b]? = some (.cells Df.zT t)) (D' : Array Value) {v : Value} {g : Nat → Nat} {N : List (List Int)} {R : List Int} (h : Df.Tv u v g N R) (hrt : Df.rt g N R = true) : Df.Tv (u.setRow b D') v g N R := by
  obtain ⟨t1, m1, q1, rows, t2, m2, q2, e, hl, hS, hR, hRl⟩ := h.is
  have hr := Df.rt_of hrt
  refine ⟨h.cl, ⟨t1, m1, q1, rows, t2, m2, q2, e, hl, fun i hi => ?_, ⟨hR.1, fun i h1 h2 => Df.row_kept hz D' (hR.2 i h1 h2)⟩, Df.row_kept hz D' hRl⟩, h.lim⟩
  obtain ⟨p, ep, hc⟩ := hS i hi
  have hiN : i < N.length := by rw [← hR.1]; exact hi
  obtain ⟨a5, c5, e5, _⟩ := hR.2 i hi hiN
  have hw := (hr.row _ (List.getElem_mem hiN)).1
  have h0 := hr.top 0 (by omega)
  refine ⟨p, ep, Df.cell_kept hz D' hc ?_ ?_⟩
  · rw [e5]; simp
  · rw [e5]
    intro e6
    injection e6 with _ e6 _
    omega
def Sc.Strs (w : World) (a : Option Addr) (ts : List ByteArray) : Prop := ∀ i (h : i < ts.length), ∃ p, a = some p ∧ w.cell? (p.add i) = some (.string ts[i])
theorem Sc.Strs.up {w w' : World} {a : Option Addr} {ts : List ByteArray} (h : Sc.Strs w a ts) (hb : Below w.heap.size w w') : Sc.Strs w' a ts := fun i hi => by
  obtain ⟨p, e, hc⟩ := h i hi
  exact ⟨p, e, Bs.cell_up hb hc⟩
def Sc.Read (ts : List ByteArray) (xs : List Rx) : Prop := ts.length = xs.length ∧ ∀ i (h : i < ts.length) (h' : i < xs.length), Px.code ts[i] = 0 ∧ Px.parse ts[i] = some xs[i] ∧ xs[i].may 1 = true
theorem Sc.Read.snoc {ts : List ByteArray} {xs : List Rx} {q : Nat} (h : Sc.Read (ts.take q) xs) (hq : q < ts.length) {y : Rx} (h1 : Px.code ts[q] = 0) (h2 : Px.parse ts[q] = some y) (h3 : y.may 1 = true) : Sc.Read (ts.take (q + 1)) (xs ++ [y]) := by
  obtain ⟨hl, H⟩ := h
  rw [List.length_take] at hl
  refine ⟨by rw [List.length_take, List.length_append, List.length_singleton]; omega, fun i hi hi' => ?_⟩
  rw [List.length_take] at hi
  rw [List.length_append, List.length_singleton] at hi'
  by_cases e : i = q
  · have e2 : i = xs.length := by omega
    simp only [List.getElem_take, List.getElem_append, e2]
    rw [dif_neg (by omega)]
    have e3 : q = xs.length := by omega
    subst e3
    exact ⟨h1, by simpa using h2, by simpa using h3⟩
  · have := H i (by rw [List.length_take]; omega) (by omega)
    simp only [List.getElem_take] at this ⊢
    rw [List.getElem_append_left (by omega)]
    exact this
def Sc.No (ts : List ByteArray) : Prop := (∃ i, ∃ h : i < ts.length, Px.code ts[i] ≠ 0) ∨ ∃ xs, Sc.Read ts xs ∧ (Ng.code xs ≠ 0 ∨ ∃ n, 501 < (Df.fs xs n).length)
def Sc.TPost (w : World) (ts : List ByteArray) (e : Ending) (w' : World) : Prop :=
  (∃ xs v F nx p st S, e = .returned (.tuple #[v, .bool true]) ∧ Sc.Read ts xs ∧ Ng.code xs = 0 ∧ Df.Tv w' v (Df.kg xs) (Df.tN p nx S) (Df.tR (Df.rl F) S) ∧ Below w.heap.size w w' ∧ Df.Plan xs F nx (Df.rl F) p st S) ∨
  (e = .returned (.tuple #[.agg Df.zT, .bool false]) ∧ Below w.heap.size w w' ∧ Sc.No ts)
set_option maxRecDepth 100000 in
set_option maxHeartbeats 4000000 in
theorem table9_any (ts : List ByteArray) (hts : ∀ t ∈ ts, t.size ≤ maxLen) (hn : ts.length ≤ 1000) (a : Option Addr) (cap : Nat) (w : World) (H : Sc.Strs w a ts) : Calls Try.prog 32 #[.slice a ts.length cap] w (Sc.TPost w ts) := by
  have zz := Df.zero258.1
  have B1 := Bs.below1 w (.cells Df.zT 40)
  have HZ := Lib.hid (heap_alloc_new w (.cells Df.zT 40))
  have hs1 : (w.alloc (.cells Df.zT 40)).heap.size = w.heap.size + 1 := by simp
  have HT := Lib.hid H
  obtain ⟨m, hm⟩ : ∃ m, ts.length = m := ⟨_, rfl⟩
  have HM := Lib.hid hm
  have HTS := Lib.hid hts
  rw [hm] at hn ⊢
  clear H hm hts
  go_enter Try.func32, Try.ntmps32
  go_upto_region 1 with fail
  clear zz
  generalize hb2 : w.heap.size = b2 at *
  generalize w.alloc (.cells Df.zT 40) = W1 at *
  go_wp2_with fail
  have HO := Lib.hid (Rx.own_nil (b2 + 1) W1)
  have HB := Lib.hid B1
  have hsz1 : b2 + 1 ≤ W1.heap.size := by omega
  clear B1 hs1
  go_loopg [4, 5] m (fun g v4 v5 wr => ∃ (q : Nat) (xs : List Rx), q + g = m ∧ v5 = .int .i64 q ∧ Hid (Sc.Read (ts.take q) xs) ∧ Hid (Rx.Own (b2 + 1) v4 xs wr) ∧ Hid (Below b2 w wr) ∧ Hid (wr.heap[b2]? = some (.cells Df.zT 40)) ∧ b2 + 1 ≤ wr.heap.size)
  case atStart => exact ⟨0, [], by omega, rfl, Lib.hid ⟨rfl, fun i hi => by simp at hi⟩, HO, HB, HZ, hsz1⟩
  case round =>
    clear HO HB HZ hsz1
    obtain ⟨q, xs, hq, rfl, HRD, HO, HB, HZ, hsz⟩ := hrel
    have HB1 : Hid (Below w.heap.size w wr) := Lib.hid (by rw [hb2]; exact HB.out)
    have hb0 := Df.build0
    have HZI := Lib.hid (show (Try.prog.info? 40).map (·.size) = some Df.zT.size by rw [Df.zT_size]; exact Df.zero258.2)
    have HZO := Lib.hid (show Df.zT.all (·.oneCell') = true by unfold Df.zT Bs.zeros; rw [Array.all_append, Bs.arr_one]; simp [Value.oneCell'])
    have HZS := Lib.hid Df.zT_size
    by_cases hlt : q < m
    case pos =>
      have hqt : q < ts.length := by rw [HM.out]; exact hlt
      obtain ⟨p, rfl, hp⟩ := (HT.out.up HB1.out) q hqt
      have P := Lib.hid (Parse_any ts[q] (HTS.out _ (List.getElem_mem hqt)) wr)
      have HTQ := Lib.hid (show ts[q]? = some ts[q] by simp [hqt])
      generalize htq : ts[q] = tq at *
      have d1 : decide ((q : Int) < (m : Int)) = true := decide_eq_true (by omega)
      have i1 : (0 : Int) ≤ (q : Int) := by omega
      have i2 : (q : Int) < (m : Int) := by omega
      go_wp2_with fail
      refine P.out.mono ?_
      rintro e v1 ⟨_, y, rfl, hy, h1, _, hb⟩
      have hO := World.ownsRow.lt HO.out.1.choose_spec.1
      obtain ⟨k1, f1, a1, n1, c1, rfl⟩ := hy.form
      have A := Bs.below1 v1 (.cells #[.int .u8 k1, .int .u64 (Bs.word f1 0), .int .u64 (Bs.word f1 1), .int .u64 (Bs.word f1 2), .int .u64 (Bs.word f1 3), .slice a1 n1 c1] 28)
      have hN := Rx.nod_new v1 k1 f1 a1 n1 c1
      have HY := Lib.hid ((hy.up A).mono (B' := fun j => b2 + 1 ≤ j ∧ some j ≠ u4.ownBlock) (fun j hj => ⟨by omega, fun e => by have := (hO j e.symm).2; omega⟩))
      replace HO := Lib.hid ((HO.out.up hb).up A)
      have hbz : b2 < wr.heap.size := by omega
      have hbz2 : b2 < v1.heap.size := by have := hb.size; omega
      replace HZ : Hid ((v1.alloc (.cells #[.int .u8 k1, .int .u64 (Bs.word f1 0), .int .u64 (Bs.word f1 1), .int .u64 (Bs.word f1 2), .int .u64 (Bs.word f1 3), .slice a1 n1 c1] 28)).heap[b2]? = some (.cells Df.zT 40)) := Lib.hid (by rw [A.block _ hbz2, hb.block _ hbz]; exact HZ.out)
      have HB2 : Hid (Below b2 w (v1.alloc (.cells #[.int .u8 k1, .int .u64 (Bs.word f1 0), .int .u64 (Bs.word f1 1), .int .u64 (Bs.word f1 2), .int .u64 (Bs.word f1 3), .slice a1 n1 c1] 28))) := Lib.hid ((HB.out.trans (hb.mono (by omega))).trans (A.mono (by omega)))
      have hsz2 : b2 + 1 ≤ (v1.alloc (.cells #[.int .u8 k1, .int .u64 (Bs.word f1 0), .int .u64 (Bs.word f1 1), .int .u64 (Bs.word f1 2), .int .u64 (Bs.word f1 3), .slice a1 n1 c1] 28)).heap.size := by have := A.size; omega
      have H1 := Lib.hid h1
      clear P hb A hy h1 hO HB HB1 hsz d1 hp
      obtain ⟨cd, hcd⟩ : ∃ c, Px.code tq = c := ⟨_, rfl⟩
      have HCD := Lib.hid hcd
      rw [hcd] at H1 ⊢
      clear hcd
      unfold Rx.hdr at HY ⊢
      go_upto_region 6 with fail
      generalize v1.alloc (.cells #[.int .u8 k1, .int .u64 (Bs.word f1 0), .int .u64 (Bs.word f1 1), .int .u64 (Bs.word f1 2), .int .u64 (Bs.word f1 3), .slice a1 n1 c1] 28) = W4 at *
      generalize v1.heap.size = b4 at *
      by_cases hz : cd = 0
      case neg =>
        have d3 : (cd != 0) = true := by simp [hz]
        have hZ := HZ.out
        generalize hzt : Df.zT = D at *
        go_wp2_with (first
          | (refine Df.wpList_built0 rfl 40 rfl D hb0 ?_)
          | (refine wpList_store_row rfl 40 _ _ rfl b2 D rfl rfl 40 D hZ HZI.out rfl HZO.out ?_))
        have hld := run_loadVar_row (P := Try.prog) (W4.setRow b2 D) b2 40 40 _ (0, 0) _ (setRow_heap _ _ _ _ _ _ hZ) Try.underlying40 rfl HZI.out
        refine bodyPost_ret (v := .tuple #[.agg D, .bool false]) ?_ rfl ?_
        · rw [results_cell_tmp (p := 2) (u := 3) (ty := 40) rfl]
          simp [asAddr, Result.andThen, hld]
        · refine .inr ⟨by rw [hzt], ?_, .inl ⟨q, hqt, by rw [htq, HCD.out]; exact hz⟩⟩
          have h1 := HB2.out
          rw [← hb2] at h1 ⊢
          exact Df.below_row h1 (Nat.le_refl _) D
      case pos =>
        subst hz
        have d3 : ((0 : Int) != 0) = false := rfl
        have hh := H1.out rfl
        have HRD2 := Lib.hid (HRD.out.snoc hqt (by rw [htq]; exact HCD.out) (by rw [htq]; exact hh.1) hh.2)
        have c0 := hN.cell.c0; have c1' := hN.cell.c1; have c2' := hN.cell.c2; have c3 := hN.cell.c3; have c4 := hN.cell.c4; have c5 := hN.cell.c5
        simp only [Nat.zero_add] at c0 c1' c2' c3 c4 c5
        have A := Bs.below1 W4 (.cells #[.int .u8 k1, .int .u64 (Bs.word f1 0), .int .u64 (Bs.word f1 1), .int .u64 (Bs.word f1 2), .int .u64 (Bs.word f1 3), .slice a1 n1 c1] 28)
        replace HY := Lib.hid (HY.out.up A)
        replace HO := Lib.hid (HO.out.up A)
        have HB3 := Lib.hid (HB2.out.trans (A.mono (by omega)))
        have HZ3 := Lib.hid (show (W4.alloc (.cells #[.int .u8 k1, .int .u64 (Bs.word f1 0), .int .u64 (Bs.word f1 1), .int .u64 (Bs.word f1 2), .int .u64 (Bs.word f1 3), .slice a1 n1 c1] 28)).heap[b2]? = some (.cells Df.zT 40) by rw [A.block _ (by omega)]; exact HZ.out)
        have hxl : xs.length ≤ 100000 := by
          have := HRD.out.1
          rw [List.length_take] at this
          omega
        have hsz3 : b2 + 1 ≤ (W4.alloc (.cells #[.int .u8 k1, .int .u64 (Bs.word f1 0), .int .u64 (Bs.word f1 1), .int .u64 (Bs.word f1 2), .int .u64 (Bs.word f1 3), .slice a1 n1 c1] 28)).heap.size := by have := A.size; omega
        have hw1 : IntKind.i64.wrap ((q : Int) + 1) = ((q + 1 : Nat) : Int) := by rw [IntWalk.i64_in _ (by omega)]; omega
        have hOlt := HO.out.lt
        clear A hN HB2 HZ hh H1 hb0
        go_wp2_with (first
          | (at_builtin; refine Rx.append rfl _ _ rfl (b2 + 1) _ xs rfl HO.out W4.heap.size 1 rfl k1 f1 a1 n1 c1 (heap_alloc_new W4 _) y HY.out hxl hsz3 ?_; intro v7 w7 O7 g7))
        have hg : (W4.alloc (.cells #[.int .u8 k1, .int .u64 (Bs.word f1 0), .int .u64 (Bs.word f1 1), .int .u64 (Bs.word f1 2), .int .u64 (Bs.word f1 3), .slice a1 n1 c1] 28)).grownBy w7 u4.ownBlock := g7
        go_roundg (gk - 1)
        case measure => omega
        refine ⟨q + 1, xs ++ [y], by omega, by first | rfl | simp, HRD2, Lib.hid O7, Lib.hid ?_, Lib.hid ?_, ?_⟩
        · exact HB3.out.grown hg (by omega) (fun k hk => by have := (hOlt k hk).1; omega)
        · rw [hg.block b2 (by omega) (fun e => by have := (hOlt b2 e.symm).1; omega)]
          exact HZ3.out
        · have := hg.size
          omega
    case neg =>
      obtain rfl : q = m := by omega
      have HRQ : Hid (Sc.Read ts xs) := Lib.hid (by have := HRD.out; rwa [List.take_of_length_le (by rw [HM.out]; exact Nat.le_refl _)] at this)
      have d1 : decide ((q : Int) < (q : Int)) = false := decide_eq_false (by omega)
      have hxl : xs.length = q := by rw [← HRQ.out.1, HM.out]
      obtain ⟨ax, cx, e1, hx⟩ := HO.out.slice
      subst e1
      have C := Lib.hid (build_any xs (by omega) ax cx wr hx.is)
      rw [hxl] at C ⊢
      clear hx d1
      go_wp2_with fail
      refine C.out.mono ?_
      rintro e w3 hpo
      have hbz : b2 < wr.heap.size := by omega
      by_cases hcd : Ng.code xs = 0
      case neg =>
        obtain ⟨rfl, hb⟩ := Ng.build_no hpo hcd
        have hZ3 : w3.heap[b2]? = some (.cells Df.zT 40) := by rw [hb.block _ hbz]; exact HZ.out
        have HB3 := Lib.hid (HB.out.trans (hb.mono (by omega)))
        have d3 : (Ng.code xs != 0) = true := by simp [hcd]
        obtain ⟨cd, hcq⟩ : ∃ c, Ng.code xs = c := ⟨_, rfl⟩
        have HCD := Lib.hid hcq
        rw [hcq] at d3 hcd ⊢
        clear hcq hpo C hb
        generalize hzt : Df.zT = D at *
        go_wp2_with (first
          | (refine Df.wpList_built0 rfl 40 rfl D hb0 ?_)
          | (refine wpList_store_row rfl 40 _ _ rfl b2 D rfl rfl 40 D hZ3 HZI.out rfl HZO.out ?_))
        have hld := run_loadVar_row (P := Try.prog) (w3.setRow b2 D) b2 40 40 _ (0, 0) _ (setRow_heap _ _ _ _ _ _ hZ3) Try.underlying40 rfl HZI.out
        refine bodyPost_ret (v := .tuple #[.agg D, .bool false]) ?_ rfl ?_
        · rw [results_cell_tmp (p := 2) (u := 3) (ty := 40) rfl]
          simp [asAddr, Result.andThen, hld]
        · refine .inr ⟨by rw [hzt], ?_, .inr ⟨xs, HRQ.out, .inl (by rw [HCD.out]; exact hcd)⟩⟩
          have h1 := HB3.out
          rw [← hb2] at h1 ⊢
          exact Df.below_row h1 (Nat.le_refl _) D
      case pos =>
        obtain ⟨r, rfl, MC, hb⟩ := Ng.build_yes hpo hcd
        have HCD := Lib.hid hcd
        have C1 := Lib.hid (buildD_any w3 _ r xs MC)
        have hZ3 : w3.heap[b2]? = some (.cells Df.zT 40) := by rw [hb.block _ hbz]; exact HZ.out
        have HB3 := Lib.hid (HB.out.trans (hb.mono (by omega)))
        have hbz3 : b2 < w3.heap.size := by have := hb.size; omega
        have zz := Df.zero258.1
        clear C hpo MC hb hcd hb0 HZ HO
        go_wp2_with fail
        refine C1.out.mono ?_
        rintro e w5 hpo
        have HZ5 := Lib.hid (heap_alloc_new w5 (.cells Df.zT 40))
        rcases hpo with ⟨v, F, nx, p, st, S, rfl, tv, bel, pl⟩ | ⟨rfl, bel, hno⟩
        · obtain ⟨D, rfl, hDs, hDo⟩ := tv.cells
          have HDI := Lib.hid (show (Try.prog.info? 40).map (·.size) = some D.size by rw [hDs]; exact Df.zero258.2)
          have HDO := Lib.hid hDo
          have HDS := Lib.hid hDs
          have HPL := Lib.hid pl
          have hb := Df.below_row (Bs.below1 w5 (.cells Df.zT 40)) (Nat.le_refl _) D
          have HTV := Lib.hid (tv.up hb)
          have hZ5 : ((w5.alloc (.cells Df.zT 40)).setRow w5.heap.size D).heap[b2]? = some (.cells Df.zT 40) := by
            rw [hb.block _ (by have := bel.size; omega), bel.block _ hbz3]
            exact hZ3
          have HRT := Lib.hid pl.rtg
          have HTV2 := Lib.hid (HTV.out.row hZ5 D HRT.out)
          have HB5 : Hid (Below b2 w (((w5.alloc (.cells Df.zT 40)).setRow w5.heap.size D).setRow b2 D)) := Lib.hid (by
            have h1 := (HB3.out.trans (bel.mono (by omega))).trans (hb.mono (by have := bel.size; omega))
            rw [← hb2] at h1 ⊢
            exact Df.below_row h1 (Nat.le_refl _) D)
          have HR5 := Lib.hid (setRow_heap _ _ _ D _ _ HZ5.out)
          clear C1 bel pl tv hb HB3 HTV hDs hDo hZ3 HB HZI HZO
          go_upto_region 13 with (first
            | (refine wpList_store_row rfl 40 _ _ rfl w5.heap.size D rfl rfl 40 Df.zT HZ5.out HDI.out (by rw [Df.zT_size, HDS.out]) HDO.out ?_))
          clear zz HZ5
          generalize (w5.alloc (.cells Df.zT 40)).setRow w5.heap.size D = W5 at *
          go_wp2_with (first
            | (refine wpList_load_row rfl 40 _ rfl w5.heap.size rfl 40 D (0, 0) _ HR5.out Try.underlying40 rfl HDI.out ?_)
            | (refine wpList_store_row rfl 40 _ _ rfl b2 D rfl rfl 40 Df.zT hZ5 HDI.out (by rw [Df.zT_size, HDS.out]) HDO.out ?_))
          have hld := run_loadVar_row (P := Try.prog) (W5.setRow b2 D) b2 40 40 _ (0, 0) _ (setRow_heap _ _ _ _ _ _ hZ5) Try.underlying40 rfl HDI.out
          refine bodyPost_ret (v := .tuple #[.agg D, .bool true]) ?_ rfl ?_
          · rw [results_cell_tmp (p := 2) (u := 3) (ty := 40) rfl]
            simp [asAddr, Result.andThen, hld]
          · exact .inl ⟨xs, .agg D, F, nx, p, st, S, rfl, HRQ.out, HCD.out, HTV2.out, by rw [hb2]; exact HB5.out, HPL.out⟩
        · have HNO := Lib.hid (show Sc.No ts from .inr ⟨xs, HRQ.out, .inr (by obtain ⟨n, _, h5⟩ := hno; exact ⟨n, h5⟩)⟩)
          have hb := Df.below_row (Bs.below1 w5 (.cells Df.zT 40)) (Nat.le_refl _) Df.zT
          have hZ5 : ((w5.alloc (.cells Df.zT 40)).setRow w5.heap.size Df.zT).heap[b2]? = some (.cells Df.zT 40) := by
            rw [hb.block _ (by have := bel.size; omega), bel.block _ hbz3]
            exact hZ3
          have HB5 : Hid (Below b2 w (((w5.alloc (.cells Df.zT 40)).setRow w5.heap.size Df.zT).setRow b2 Df.zT)) := Lib.hid (by
            have h1 := (HB3.out.trans (bel.mono (by omega))).trans (hb.mono (by have := bel.size; omega))
            rw [← hb2] at h1 ⊢
            exact Df.below_row h1 (Nat.le_refl _) Df.zT)
          have HR5 := Lib.hid (setRow_heap _ _ _ Df.zT _ _ HZ5.out)
          clear C1 bel hb HB3 hZ3 HB hno
          generalize hzt : Df.zT = D at *
          go_upto_region 13 with (first
            | (refine wpList_store_row rfl 40 _ _ rfl w5.heap.size D rfl rfl 40 D HZ5.out HZI.out rfl HZO.out ?_))
          clear zz HZ5
          generalize (w5.alloc (.cells D 40)).setRow w5.heap.size D = W5 at *
          go_wp2_with (first
            | (refine wpList_load_row rfl 40 _ rfl w5.heap.size rfl 40 D (0, 0) _ HR5.out Try.underlying40 rfl HZI.out ?_)
            | (refine wpList_store_row rfl 40 _ _ rfl b2 D rfl rfl 40 D hZ5 HZI.out rfl HZO.out ?_))
          have hld := run_loadVar_row (P := Try.prog) (W5.setRow b2 D) b2 40 40 _ (0, 0) _ (setRow_heap _ _ _ _ _ _ hZ5) Try.underlying40 rfl HZI.out
          refine bodyPost_ret (v := .tuple #[.agg D, .bool false]) ?_ rfl ?_
          · rw [results_cell_tmp (p := 2) (u := 3) (ty := 40) rfl]
            simp [asAddr, Result.andThen, hld]
          · exact .inr ⟨by rw [hzt], by rw [hb2]; exact HB5.out, HNO.out⟩
end Go.Proofs.Ythapedadnbkgnaa
namespace Go.Proofs.Ythapedadnbkgnaa
set_option linter.unusedVariables false
set_option linter.unusedSimpArgs false
open Go.RowKit
def Sc.Fin (g : Nat → Nat) (N : List (List Int)) (R : List Int) (s : ByteArray) (l : List Sc.Lx) (c : Nat) : Prop :=
  if Df.rt g N R = true then Sc.Ch g N R (Px.by s) s.size 0 l c ∧ ¬ Sc.On g N R (Px.by s) s.size c ∧ c ≤ s.size else l = [] ∧ c = 0
theorem Sc.Fin.one {g : Nat → Nat} {N : List (List Int)} {R : List Int} {s : ByteArray} {l l' : List Sc.Lx} {c c' : Nat} (h : Sc.Fin g N R s l c) (h' : Sc.Fin g N R s l' c') : l = l' ∧ c = c' := by
  unfold Sc.Fin at h h'
  split at h
  · rename_i e
    rw [if_pos e] at h'
    exact Sc.Ch.one h.1 h.2.1 h'.1 h'.2.1
  · rename_i e
    rw [if_neg e] at h'
    rw [h.1, h'.1, h.2, h'.2]
    exact ⟨rfl, rfl⟩
theorem Sc.Fin.le {g : Nat → Nat} {N : List (List Int)} {R : List Int} {s : ByteArray} {l : List Sc.Lx} {c : Nat} (h : Sc.Fin g N R s l c) : c ≤ s.size := by
  unfold Sc.Fin at h
  split at h
  · exact h.2.2
  · omega
def Sc.APost (w : World) (g : Nat → Nat) (N : List (List Int)) (R : List Int) (s : ByteArray) (e : Ending) (w' : World) : Prop :=
  ∃ v l c, e = .returned (.tuple #[v, .int .i64 (c : Nat)]) ∧ Sc.Row w' v l ∧ Sc.Fin g N R s l c ∧ Below w.heap.size w w'
set_option maxRecDepth 100000 in
set_option maxHeartbeats 2000000 in
theorem allT_any (g : Nat → Nat) (N : List (List Int)) (R : List Int) (v : Value) (s : ByteArray) (w : World) (h : Df.Tv w v g N R) (hs : s.size ≤ 100000) : Calls Try.prog 33 #[v, .string s] w (Sc.APost w g N R s) := by
  have HSM := Lib.hid (show s.size < maxLen by unfold maxLen; omega)
  obtain ⟨D, rfl, hsz, _⟩ := h.cells
  have HINF := Lib.hid (show (Try.prog.info? 40).map (·.size) = some D.size by rw [hsz]; exact Df.zero258.2)
  have HSZ := Lib.hid hsz
  have HA := Lib.hid (Df.aw_new h)
  clear h hsz
  go_enter Try.func33, Try.ntmps33
  go_upto_region 1 with fail
  generalize w.alloc (.cells D 40) = W at *
  have C := Lib.hid (rightT_any g N R _ W HA.out.tv)
  go_wp2_with (first
    | (refine wpList_load_row rfl 40 _ rfl w.heap.size rfl 40 D (0, 0) _ HA.out.row Try.underlying40 rfl HINF.out ?_))
  refine C.out.mono ?_
  rintro e w1 ⟨rfl, hb⟩
  replace HA := Lib.hid (HA.out.up hb)
  clear hb C
  obtain ⟨bb, hbb⟩ : ∃ bb, Df.rt g N R = bb := ⟨_, rfl⟩
  have HBB := Lib.hid hbb
  rw [hbb]
  clear hbb
  cases bb
  · go_wp2_with fail
    refine bodyPost_ret (v := .tuple #[.slice none 0 0, .int .i64 ((0 : Nat) : Int)]) (by simp [results, Try.results33, go_sem]) rfl ?_
    exact ⟨_, [], 0, rfl, ⟨none, 0, rfl, fun i hi => by simp at hi⟩, by unfold Sc.Fin; rw [if_neg (by rw [HBB.out]; simp)]; exact ⟨rfl, rfl⟩, HA.out.bel⟩
  have hbd := Sc.build2 D HSZ.out s
  obtain ⟨a1, n1, c1, a2, n2, c2, rows, hrl, hrb, hcl⟩ := HA.out.run s 90
  have hbx := Bs.below1 w1 (.cells (D ++ #[.string s]) 90)
  have HRB := Lib.hid hrb
  have HCL := Lib.hid hcl
  have HRL := Lib.hid hrl
  have HB := Lib.hid (Bs.below_up HA.out.bel hbx)
  have hlt : w1.heap.size < (w1.alloc (.cells (D ++ #[.string s]) 90)).heap.size := by simp
  rw [Sc.push_eq] at HRB HB hlt
  clear hrb hcl hrl hbx
  go_wp2_with (first
    | (refine wpList_load_row rfl 40 _ rfl w.heap.size rfl 40 D (0, 0) _ HA.out.row Try.underlying40 rfl HINF.out ?_)
    | (refine Sc.wpList_built2 rfl 90 _ _ rfl (.agg D) (.string s) rfl rfl (D ++ #[.string s]) hbd ?_))
  clear hbd HA HINF HSZ
  generalize w1.alloc (.cells (D.push (.string s)) 90) = W2 at *
  generalize w1.heap.size = rb at *
  have hO := Lib.hid (Sc.own_nil W2.heap.size W2)
  go_loopg [7, 8] s.size (fun gk v7 v8 wr => ∃ (c : Nat) (l : List Sc.Lx), c + gk = s.size ∧ v8 = .int .i64 c ∧ Hid (Sc.Ch g N R (Px.by s) s.size 0 l c) ∧ Hid (Sc.Own W2.heap.size v7 l wr) ∧ Hid (Below W2.heap.size W2 wr))
  case atStart => exact ⟨0, [], by omega, rfl, Lib.hid rfl, hO, Lib.hid (Below.refl _ _)⟩
  case round =>
    clear hO
    obtain ⟨c, l, hc, rfl, HCH, HO, HBW⟩ := hrel
    by_cases hlt2 : c < s.size
    case neg =>
      obtain rfl : c = s.size := by omega
      go_wp2_with fail
      refine bodyPost_ret (v := .tuple #[u7, .int .i64 ((s.size : Nat) : Int)]) (by simp [results, Try.results33, go_sem]) rfl ?_
      exact ⟨_, l, s.size, rfl, HO.out.row, by unfold Sc.Fin; rw [if_pos HBB.out]; exact ⟨HCH.out, fun h => by have := h.1; omega, Nat.le_refl _⟩, HB.out.trans (HBW.out.mono HB.out.size)⟩
    case pos =>
      have C := Lib.hid (piece_any g N R s c rb a1 n1 c1 a2 n2 c2 rows wr (HRB.out.up HBW.out) HCL.out HRL.out HBB.out HSM.out (by omega))
      have d1 : decide ((c : Int) < (s.size : Int)) = true := decide_eq_true (by omega)
      go_wp2_with fail
      refine C.out.mono ?_
      rintro e w3 ⟨rfl, b3⟩
      have HNE := Lib.hid (fun k (hk : u7.ownBlock = some k) => (World.ownsRow.lt (HO.out.up b3) k hk).2)
      have bx := Bs.below1 w3 (.cells (Sc.val (Sc.px g N R (Px.by s) s.size c)) 47)
      have HL := Lib.hid (Sc.lb_new w3 (Sc.px g N R (Px.by s) s.size c))
      replace HO := Lib.hid ((HO.out.up b3).up bx)
      replace HBW := Lib.hid (Bs.below_up (Bs.below_up HBW.out b3) bx)
      have HLE := Lib.hid (Sc.Ch.le HCH.out (Nat.zero_le _))
      clear C b3 d1 bx
      obtain ⟨x, hx⟩ : ∃ x, x = Sc.px g N R (Px.by s) s.size c := ⟨_, rfl⟩
      rw [← hx] at HL HO HBW ⊢
      have HX := Lib.hid hx
      clear hx
      unfold Sc.val at HL HO HBW ⊢
      go_upto_region 8 with fail
      generalize w3.alloc (.cells #[.int .i64 x.rule, .int .i64 x.at', .int .i64 x.upto, .int .i64 x.seen] 47) = W4 at *
      generalize w3.heap.size = b4 at *
      obtain ⟨m0, m1, m2, m3⟩ := HL.out.cells
      by_cases hr : x.rule < 0
      · have d1 : decide (x.rule < 0) = true := decide_eq_true hr
        go_wp2_with fail
        refine bodyPost_ret (v := .tuple #[u7, .int .i64 ((c : Nat) : Int)]) (by simp [results, Try.results33, go_sem]) rfl ?_
        exact ⟨_, l, c, rfl, HO.out.row, by
          unfold Sc.Fin
          rw [if_pos HBB.out]
          refine ⟨HCH.out, fun h => ?_, by omega⟩
          have h2 := h.2
          rw [HX.out] at hr
          exact absurd hr (Int.not_lt.2 h2), HB.out.trans (HBW.out.mono HB.out.size)⟩
      · have d1 : decide (x.rule < 0) = false := decide_eq_false hr
        have HON := Lib.hid (show Sc.On g N R (Px.by s) s.size c from ⟨hlt2, by rw [HX.out] at hr; exact Int.not_lt.1 hr⟩)
        have bx := Bs.below1 W4 (.cells #[.int .i64 x.rule, .int .i64 x.at', .int .i64 x.upto, .int .i64 x.seen] 47)
        have HO2 := Lib.hid (HO.out.up bx)
        have HBW2 := Lib.hid (Bs.below_up HBW.out bx)
        have hln : l.length ≤ 1000000 := by have := HLE.out.1; omega
        have hbs := HBW2.out.size
        have e4 : (W4.alloc (.cells #[.int .i64 x.rule, .int .i64 x.at', .int .i64 x.upto, .int .i64 x.seen] 47)).heap.size = W4.heap.size + 1 := by simp
        obtain ⟨u, hu⟩ : ∃ u, u = (Sc.pc g N R (Px.by s) c (s.size - c)).upto := ⟨_, rfl⟩
        have hxu : x.upto = ((u : Nat) : Int) := by rw [HX.out, hu]; rfl
        have HMV := Lib.hid (fun (w7 : World) (hg : (W4.alloc (.cells #[.int .i64 x.rule, .int .i64 x.at', .int .i64 x.upto, .int .i64 x.seen] 47)).grownBy w7 u7.ownBlock) => show w7.cell? ⟨b4, 2, none⟩ = some (.int .i64 (u : Int)) from by
          rw [← hxu]
          exact hg.cell (Bs.cell_up (Bs.below1 W4 _) m2) (fun e => by
            have := HNE.out b4 e.symm
            omega))
        have HXU := Lib.hid hxu
        clear bx HO hxu
        go_wp2_with (first
          | (at_builtin; refine Sc.append rfl _ _ rfl W2.heap.size _ l rfl HO2.out W4.heap.size 1 x rfl (heap_alloc_new W4 _) hln hbs ?_; intro g7 cap7 w7 O7 gr7 n7; have hm := HMV.out w7 gr7))
        have hg : (W4.alloc (.cells #[.int .i64 x.rule, .int .i64 x.at', .int .i64 x.upto, .int .i64 x.seen] 47)).grownBy w7 u7.ownBlock := gr7
        have HO7 := Lib.hid O7
        have HB7 := Lib.hid (HBW2.out.grown hg HBW2.out.size (fun k hk => (World.ownsRow.lt HO2.out k hk).1))
        have hcu := Sc.pc_pos HON.out
        have hun := (Sc.pc_le (g := g) (N := N) (R := R) (b := Px.by s) c (n := s.size) (by omega)).2
        rw [← hu] at hcu hun
        have HSN := Lib.hid (Sc.Ch.snoc HCH.out HON.out)
        rw [← HX.out, ← hu] at HSN
        go_roundg (s.size - u)
        case measure => omega
        exact ⟨u, l ++ [x], by omega, by rw [hu], HSN, HO7, HB7⟩
end Go.Proofs.Ythapedadnbkgnaa
namespace Go.Proofs.Ythapedadnbkgnaa
set_option linter.unusedVariables false
set_option linter.unusedSimpArgs false
open Go.RowKit
theorem Sc.sub_by (s : ByteArray) {a q : Nat} (h : a + q ≤ s.size) : (s.extract a (a + q)).size = q ∧ ∀ i, i < q → Px.by (s.extract a (a + q)) i = Sc.sh (Px.by s) a i := by
  have hsz : (s.extract a (a + q)).size = q := by rw [ByteArray.size_extract]; omega
  refine ⟨hsz, fun i hi => ?_⟩
  unfold Sc.sh
  rw [Df.by_at _ _ (by rw [hsz]; exact hi), Df.by_at s (a + i) (by omega), ByteArray.getElem_extract]
structure Sc.NW (w0 : World) (b rb xb : Nat) (D : Array Value) (g : Nat → Nat) (N : List (List Int)) (R : List Int) (x : Sc.Lx) (u : World) : Prop where
  aw : Df.AW w0 b D g N R u
  m0 : Sc.LB u rb ⟨0, 0, 0, 0⟩
  m1 : Sc.LB u xb x
theorem Sc.NW.up {w0 : World} {b rb xb : Nat} {D : Array Value} {g : Nat → Nat} {N : List (List Int)} {R : List Int} {x : Sc.Lx} {u u' : World} (h : Sc.NW w0 b rb xb D g N R x u) (hb : Below u.heap.size u u') : Sc.NW w0 b rb xb D g N R x u' :=
  ⟨h.aw.up hb, h.m0.up hb, h.m1.up hb⟩
def Sc.hd (g : Nat → Nat) (N : List (List Int)) (R : List Int) (b : Nat → Nat) (a n q : Nat) : Sc.Lx := ⟨(Sc.good g N R (Sc.sh b a) (q - 1)).1, a, ((a + (Sc.good g N R (Sc.sh b a) (q - 1)).2 : Nat) : Int), (n : Int) + 1⟩
end Go.Proofs.Ythapedadnbkgnaa
namespace Go.Proofs.Ythapedadnbkgnaa
set_option linter.unusedVariables false
set_option linter.unusedSimpArgs false
open Go.RowKit
def Sc.whole (g : Nat → Nat) (N : List (List Int)) (R : List Int) (s : ByteArray) (c : Nat) : Bool := decide (c = s.size) && Df.rt g N R
end Go.Proofs.Ythapedadnbkgnaa
namespace Go.Proofs.Ythapedadnbkgnaa
set_option linter.unusedVariables false
set_option linter.unusedSimpArgs false
namespace Df
variable {l : List Rx} {F : List Fr} {nx : List (List Nat)} {r p : List Int} {st : Nat} {S : List Nat}
theorem Plan.good_step (h : Plan l F nx r p st S) {b : Nat → Nat} (hb : ∀ i, b i < 256) (q : Nat) : Sc.good (kg l) (tN p nx S) (tR r S) b (q + 1) = if 0 ≤ rle (Df.fat l b (q + 1)).2 then (rle (Df.fat l b (q + 1)).2, q + 1) else Sc.good (kg l) (tN p nx S) (tR r S) b q := by
  have hr := h.rule hb (q + 1)
  rw [Sc.good, kg_rn l _ hb]
  by_cases h0 : 0 ≤ Df.rn (kl l) (tN p nx S) b (q + 1)
  · obtain ⟨e, _⟩ := hr.2 h0
    rw [e]
    by_cases h1 : 0 ≤ rle (Df.fat l b (q + 1)).2
    · rw [if_pos ⟨h0, h1⟩, if_pos h1]
    · rw [if_neg (fun h => h1 h.2), if_neg h1]
  · have e := hr.1 (Int.not_le.1 h0)
    rw [e, if_neg (fun h => h0 h.1), if_neg (by omega)]
theorem Plan.dead_at (h : Plan l F nx r p st S) {b : Nat → Nat} (hb : ∀ i, b i < 256) {q : Nat} (hq : 0 < q) (hf : Df.fat l b q = ([], [])) : Df.rn (kg l) (tN p nx S) b q = -1 := by
  rw [kg_rn l _ hb]
  rcases h.at hb q with ⟨e, _⟩ | ⟨j, hj, _, _, e3⟩
  · exact e
  · have := e3 hq
    rw [hf, h.mem0.2.2] at this
    exact absurd rfl this
theorem Plan.live_at (h : Plan l F nx r p st S) {b : Nat → Nat} (hb : ∀ i, b i < 256) {q : Nat} (hq : 0 < q) (b' : Nat → Nat) (hb' : ∀ i, b' i < 256) (e : ∀ i, i < q → b' i = b i) (d : Nat) (hr : rle (Df.fat l b' (q + d)).2 ≠ -1) : 0 ≤ Df.rn (kg l) (tN p nx S) b q := by
  rw [kg_rn l _ hb]
  refine Int.not_lt.1 fun hlt => hr ?_
  exact (h.stop hb hq).1 hlt b' hb' e d
end Df
namespace Sc
theorem sh_lt {b : Nat → Nat} (hb : ∀ i, b i < 256) (a : Nat) : ∀ i, sh b a i < 256 := fun i => hb (a + i)
open Df
variable {l : List Rx} {F : List Fr} {nx : List (List Nat)} {r p : List Int} {st : Nat} {S : List Nat}
def aac : ByteArray := ⟨#[97, 97, 99]⟩
def aa : ByteArray := ⟨#[97, 97]⟩
theorem ex_f1 (E : Df.Ex l) (b : Nat → Nat) (h0 : b 0 = 97) : Df.fat l b 1 = ([0, 1], [1]) := by
  show sf l (b 0) (Df.s0 l) = _
  rw [h0, E.s0, E.a3]
theorem ex_f2 (E : Df.Ex l) (b : Nat → Nat) (h0 : b 0 = 97) (h1 : b 1 = 97) : Df.fat l b 2 = ([0, 1], []) := by
  show sf l (b 1) (Df.fat l b 1) = _
  rw [ex_f1 E b h0, h1, E.a2]
theorem ex_g2 (E : Df.Ex l) (b : Nat → Nat) (h0 : b 0 = 97) (h1 : b 1 = 99) : Df.fat l b 2 = ([], []) := by
  show sf l (b 1) (Df.fat l b 1) = _
  rw [ex_f1 E b h0, h1, E.n2 99 [1] (by decide) (by decide) (by decide)]
theorem ex_g1 (E : Df.Ex l) (b : Nat → Nat) (h0 : b 0 = 99) : Df.fat l b 1 = ([], []) := by
  show sf l (b 0) (Df.s0 l) = _
  rw [h0, E.s0, E.n3 99 [] (by decide) (by decide) (by decide)]
theorem ex_f3 (E : Df.Ex l) (b : Nat → Nat) (h0 : b 0 = 97) (h1 : b 1 = 97) (h2 : b 2 = 99) : Df.fat l b 3 = ([], []) := by
  show sf l (b 2) (Df.fat l b 2) = _
  rw [ex_f2 E b h0 h1, h2, E.n2 99 [] (by decide) (by decide) (by decide)]
theorem rle_one : rle [1] = 1 := by decide
theorem rle_zero : rle [0] = 0 := by decide
theorem ex_good1 (h : Plan l F nx r p st S) (E : Df.Ex l) (b : Nat → Nat) (hb : ∀ i, b i < 256) (h0 : b 0 = 97) : good (kg l) (tN p nx S) (tR r S) b 1 = (1, 1) := by
  rw [h.good_step hb 0, ex_f1 E b h0, rle_one]
  rfl
theorem ex_live1 (h : Plan l F nx r p st S) (E : Df.Ex l) (b : Nat → Nat) (hb : ∀ i, b i < 256) (h0 : b 0 = 97) : 0 ≤ Df.rn (kg l) (tN p nx S) b 1 := by
  refine h.live_at hb (by decide) b hb (fun _ _ => rfl) 0 ?_
  rw [ex_f1 E b h0, rle_one]
  decide
theorem ex_live2 (h : Plan l F nx r p st S) (E : Df.Ex l) (b : Nat → Nat) (hb : ∀ i, b i < 256) (h0 : b 0 = 97) (h1 : b 1 = 97) : 0 ≤ Df.rn (kg l) (tN p nx S) b 2 := by
  refine h.live_at hb (by decide) (fun i => if i = 2 then 98 else b i) (fun i => by split; omega; exact hb i) (fun i hi => if_neg (by omega)) 1 ?_
  have e : Df.fat l (fun i => if i = 2 then 98 else b i) (2 + 1) = ([], [0]) := by
    show sf l 98 (Df.fat l (fun i => if i = 2 then 98 else b i) 2) = _
    rw [ex_f2 E _ (by simp [h0]) (by simp [h1]), E.b2]
  rw [e, rle_zero]
  decide
theorem ex_p0 (h : Plan l F nx r p st S) (E : Df.Ex l) : pc (kg l) (tN p nx S) (tR r S) (Px.by aac) 0 3 = ⟨1, 1, 3⟩ := by
  have hb : ∀ i, sh (Px.by aac) 0 i < 256 := sh_lt (Df.by_lt aac) 0
  have f3 := ex_f3 E (sh (Px.by aac) 0) rfl rfl rfl
  have f2 := ex_f2 E (sh (Px.by aac) 0) rfl rfl
  have g3 : good (kg l) (tN p nx S) (tR r S) (sh (Px.by aac) 0) 3 = (1, 1) := by
    rw [h.good_step hb 2, f3, rle_nil, if_neg (by decide), h.good_step hb 1, f2, rle_nil, if_neg (by decide)]
    exact ex_good1 h E _ hb rfl
  have l2 := ex_live2 h E (sh (Px.by aac) 0) hb rfl rfl
  have d3 := h.dead_at hb (q := 3) (by decide) f3
  unfold pc
  rw [g3, stop, if_pos l2, d3]
  rfl
theorem ex_p1 (h : Plan l F nx r p st S) (E : Df.Ex l) : (pc (kg l) (tN p nx S) (tR r S) (Px.by aac) 1 2).rule = 1 ∧ (pc (kg l) (tN p nx S) (tR r S) (Px.by aac) 1 2).upto = 2 := by
  have hb : ∀ i, sh (Px.by aac) 1 i < 256 := sh_lt (Df.by_lt aac) 1
  have f2 := ex_g2 E (sh (Px.by aac) 1) rfl rfl
  have g2 : good (kg l) (tN p nx S) (tR r S) (sh (Px.by aac) 1) 2 = (1, 1) := by
    rw [h.good_step hb 1, f2, rle_nil, if_neg (by decide)]
    exact ex_good1 h E _ hb rfl
  unfold pc
  rw [g2]
  exact ⟨rfl, rfl⟩
theorem ex_p2 (h : Plan l F nx r p st S) (E : Df.Ex l) : pc (kg l) (tN p nx S) (tR r S) (Px.by aac) 2 1 = ⟨-1, 2, 3⟩ := by
  have hb : ∀ i, sh (Px.by aac) 2 i < 256 := sh_lt (Df.by_lt aac) 2
  have f1 := ex_g1 E (sh (Px.by aac) 2) rfl
  have g1 : good (kg l) (tN p nx S) (tR r S) (sh (Px.by aac) 2) 1 = (-1, 0) := by
    rw [h.good_step hb 0, f1, rle_nil, if_neg (by decide)]
    rfl
  have d1 := h.dead_at hb (q := 1) (by decide) f1
  unfold pc
  rw [g1, stop, if_pos (by simp [Df.rn]), d1]
  rfl
theorem ex_q0 (h : Plan l F nx r p st S) (E : Df.Ex l) : (pc (kg l) (tN p nx S) (tR r S) (Px.by aa) 0 2).seen = 3 := by
  have hb : ∀ i, sh (Px.by aa) 0 i < 256 := sh_lt (Df.by_lt aa) 0
  have l1 := ex_live1 h E (sh (Px.by aa) 0) hb rfl
  have l2 := ex_live2 h E (sh (Px.by aa) 0) hb rfl rfl
  unfold pc
  simp only []
  rw [stop, if_pos l1, if_pos l2]
theorem ex_all (h : Plan l F nx r p st S) (E : Df.Ex l) {k : List Lx} {c : Nat} (hf : Fin (kg l) (tN p nx S) (tR r S) aac k c) : k.length = 2 ∧ c = 2 := by
  unfold Fin at hf
  rw [if_pos h.rtg] at hf
  obtain ⟨h1, h2, _⟩ := hf
  have s3 : aac.size = 3 := rfl
  rw [s3] at h1 h2
  have e0 := ex_p0 h E
  have e1 := ex_p1 h E
  have e2 := ex_p2 h E
  have o0 : On (kg l) (tN p nx S) (tR r S) (Px.by aac) 3 0 := ⟨by decide, by rw [e0]; decide⟩
  have o1 : On (kg l) (tN p nx S) (tR r S) (Px.by aac) 3 1 := ⟨by decide, by rw [e1.1]; decide⟩
  have o2 : ¬ On (kg l) (tN p nx S) (tR r S) (Px.by aac) 3 2 := fun h => by
    have := h.2
    rw [e2] at this
    exact absurd this (by decide)
  have hch : Ch (kg l) (tN p nx S) (tR r S) (Px.by aac) 3 0 [px (kg l) (tN p nx S) (tR r S) (Px.by aac) 3 0, px (kg l) (tN p nx S) (tR r S) (Px.by aac) 3 1] 2 := by
    refine ⟨o0, rfl, ?_⟩
    rw [show (pc (kg l) (tN p nx S) (tR r S) (Px.by aac) 0 (3 - 0)).upto = 1 by rw [e0]]
    refine ⟨o1, rfl, ?_⟩
    exact e1.2
  obtain ⟨rfl, rfl⟩ := Ch.one h1 h2 hch o2
  exact ⟨rfl, rfl⟩
end Sc
end Go.Proofs.Ythapedadnbkgnaa
namespace Go.Proofs.Ythapedadnbkgnaa
set_option linter.unusedVariables false
set_option linter.unusedSimpArgs false
open Go.RowKit
theorem Sc.ex_read {xs : List Rx} (h : Sc.Read [⟨#[97, 42, 98]⟩, ⟨#[97]⟩] xs) : Df.Ex xs ∧ Ng.code xs = 0 := by
  obtain ⟨hl, H⟩ := h
  match xs, hl, H with
  | [y1, y2], _, H =>
    have h1 := H 0 (by decide) (by simp)
    have h2 := H 1 (by decide) (by simp)
    have a1 := Df.ex_ab
    have a2 := Df.ex_a
    have e1 : Px.parse ⟨#[97, 42, 98]⟩ = some y1 := h1.2.1
    have e2 : Px.parse ⟨#[97]⟩ = some y2 := h2.2.1
    rw [e1] at a1
    rw [e2] at a2
    refine ⟨Df.ex a1 a2, ?_⟩
    have hs := Ng.ex_size (Df.ab_of a1) (Df.a_of a2)
    have m1 : y1.may 1 = true := h1.2.2
    have m2 : y2.may 1 = true := h2.2.2
    simp [Ng.code, hs, m1, m2]
theorem Sc.ex_no (h : Sc.No [⟨#[97, 42, 98]⟩, ⟨#[97]⟩]) : False := by
  rcases h with ⟨i, hi, h⟩ | ⟨xs, hr, h⟩
  · match i, hi with
    | 0, _ => exact h Ng.ex_code1
    | 1, _ => exact h Ng.ex_code2
  · obtain ⟨E, hc⟩ := Sc.ex_read hr
    rcases h with h | ⟨n, h⟩
    · exact h hc
    · have := E.few n
      omega
set_option maxRecDepth 100000 in
set_option maxHeartbeats 4000000 in
theorem alive9_any (w : World) : Calls Try.prog 12 #[] w (Bs.BPost w true) := by
  have B0 := Bs.below1 w (.cells #[.string ⟨#[97, 42, 98]⟩, .string ⟨#[97]⟩] 9)
  have C := Lib.hid (table9_any [⟨#[97, 42, 98]⟩, ⟨#[97]⟩] (fun t ht => by simp at ht; rcases ht with rfl | rfl <;> decide) (by decide) (some ⟨w.heap.size, 0, none⟩) 2 (w.alloc (.cells #[.string ⟨#[97, 42, 98]⟩, .string ⟨#[97]⟩] 9)) (fun i hi => ⟨_, rfl, by
    match i, hi with
    | 0, _ => simp [go_sem]
    | 1, _ => simp [go_sem]⟩))
  have HB0 := Lib.hid B0
  have zz := Df.zero258.1
  clear B0
  go_enter Try.func12, Try.ntmps12
  go_wp2_with fail
  refine C.out.mono ?_
  rintro e w1 hpo
  rcases hpo with ⟨xs, v, F, nx, p, st, S, rfl, hrd, hcd, tv, bel, pl⟩ | ⟨rfl, bel, hno⟩
  rotate_left
  · exact absurd (Sc.ex_no hno) id
  obtain ⟨E, _⟩ := Sc.ex_read hrd
  have HE := Lib.hid E
  have HPL := Lib.hid pl
  have HRT := Lib.hid pl.rtg
  obtain ⟨D, rfl, hDs, hDo⟩ := tv.cells
  have HDI := Lib.hid (show (Try.prog.info? 40).map (·.size) = some D.size by rw [hDs]; exact Df.zero258.2)
  have HDO := Lib.hid hDo
  have HDS := Lib.hid hDs
  have HZ := Lib.hid (heap_alloc_new w1 (.cells Df.zT 40))
  have hb := Df.below_row (Bs.below1 w1 (.cells Df.zT 40)) (Nat.le_refl _) D
  have HA := Lib.hid (show Df.AW w w1.heap.size D (Df.kg xs) (Df.tN p nx S) (Df.tR (Df.rl F) S) ((w1.alloc (.cells Df.zT 40)).setRow w1.heap.size D) from ⟨setRow_heap _ _ _ _ _ _ HZ.out, tv.up hb, Bs.below_up (Bs.below_up HB0.out bel) hb⟩)
  clear C hrd hcd tv bel pl hDs hDo hb E HB0
  go_upto_region 2 with (first
    | (refine wpList_store_row rfl 40 _ _ rfl w1.heap.size D rfl rfl 40 Df.zT HZ.out HDI.out (by rw [Df.zT_size, HDS.out]) HDO.out ?_))
  clear zz HZ
  generalize (w1.alloc (.cells Df.zT 40)).setRow w1.heap.size D = W1 at *
  generalize w1.heap.size = b1 at *
  -- the first piece
  have C := Lib.hid (nextT_any (Df.kg xs) (Df.tN p nx S) (Df.tR (Df.rl F) S) (.agg D) Sc.aac 0 W1 HA.out.tv (by decide))
  rw [show (0 : Int) = ((0 : Nat) : Int) from rfl, Sc.nxv_yes HRT.out (Nat.zero_le _)] at C
  have hp : Sc.px (Df.kg xs) (Df.tN p nx S) (Df.tR (Df.rl F) S) (Px.by Sc.aac) Sc.aac.size 0 = ⟨1, 0, 1, 3⟩ := by
    have e := Sc.ex_p0 HPL.out HE.out
    unfold Sc.px
    rw [show Sc.aac.size - 0 = 3 from rfl, e]
    rfl
  rw [hp] at C
  unfold Sc.aac Sc.val at C
  clear hp
  go_wp2_with (first
    | (refine wpList_load_row rfl 40 _ rfl b1 rfl 40 D (0, 0) _ HA.out.row Try.underlying40 rfl HDI.out ?_))
  refine C.out.mono ?_
  rintro e w2 ⟨rfl, hb⟩
  have bx := Bs.below1 w2 (.cells (Sc.val ⟨1, 0, 1, 3⟩) 47)
  replace HA := Lib.hid ((HA.out.up hb).up bx)
  have HX := Lib.hid (Sc.lb_new w2 ⟨1, 0, 1, 3⟩)
  unfold Sc.val at HA HX
  clear C hb bx
  go_upto_region 3 with fail
  generalize w2.alloc (.cells #[.int .i64 1, .int .i64 0, .int .i64 1, .int .i64 3] 47) = W2 at *
  generalize w2.heap.size = b2 at *
  -- the second one
  have C := Lib.hid (nextT_any (Df.kg xs) (Df.tN p nx S) (Df.tR (Df.rl F) S) (.agg D) Sc.aac 2 W2 HA.out.tv (by decide))
  rw [show (2 : Int) = ((2 : Nat) : Int) from rfl, Sc.nxv_yes HRT.out (by decide)] at C
  have hp : Sc.px (Df.kg xs) (Df.tN p nx S) (Df.tR (Df.rl F) S) (Px.by Sc.aac) Sc.aac.size 2 = ⟨-1, 2, 2, 3⟩ := by
    have e := Sc.ex_p2 HPL.out HE.out
    unfold Sc.px
    rw [show Sc.aac.size - 2 = 1 from rfl, e]
    rfl
  rw [hp] at C
  unfold Sc.aac Sc.val at C
  clear hp
  go_wp2_with (first
    | (refine wpList_load_row rfl 40 _ rfl b1 rfl 40 D (0, 0) _ HA.out.row Try.underlying40 rfl HDI.out ?_))
  refine C.out.mono ?_
  rintro e w3 ⟨rfl, hb⟩
  have bx := Bs.below1 w3 (.cells (Sc.val ⟨-1, 2, 2, 3⟩) 47)
  replace HA := Lib.hid ((HA.out.up hb).up bx)
  replace HX := Lib.hid ((HX.out.up hb).up bx)
  have HY := Lib.hid (Sc.lb_new w3 ⟨-1, 2, 2, 3⟩)
  unfold Sc.val at HA HX HY
  clear C hb bx
  go_upto_region 4 with fail
  generalize w3.alloc (.cells #[.int .i64 (-1), .int .i64 2, .int .i64 2, .int .i64 3] 47) = W3 at *
  generalize w3.heap.size = b3 at *
  -- the third one
  have C := Lib.hid (nextT_any (Df.kg xs) (Df.tN p nx S) (Df.tR (Df.rl F) S) (.agg D) Sc.aa 0 W3 HA.out.tv (by decide))
  rw [show (0 : Int) = ((0 : Nat) : Int) from rfl, Sc.nxv_yes HRT.out (Nat.zero_le _)] at C
  obtain ⟨x, hx⟩ : ∃ x, x = Sc.px (Df.kg xs) (Df.tN p nx S) (Df.tR (Df.rl F) S) (Px.by Sc.aa) Sc.aa.size 0 := ⟨_, rfl⟩
  have hx3 : x.seen = 3 := by
    rw [hx]
    have := Sc.ex_q0 HPL.out HE.out
    unfold Sc.px
    rw [show Sc.aa.size - 0 = 2 from rfl, this]
    rfl
  rw [← hx] at C
  have HX3 := Lib.hid hx3
  clear hx hx3
  unfold Sc.aa Sc.val at C
  go_wp2_with (first
    | (refine wpList_load_row rfl 40 _ rfl b1 rfl 40 D (0, 0) _ HA.out.row Try.underlying40 rfl HDI.out ?_))
  refine C.out.mono ?_
  rintro e w4 ⟨rfl, hb⟩
  have bx := Bs.below1 w4 (.cells (Sc.val x) 47)
  replace HA := Lib.hid ((HA.out.up hb).up bx)
  replace HX := Lib.hid ((HX.out.up hb).up bx)
  replace HY := Lib.hid ((HY.out.up hb).up bx)
  have HQ := Lib.hid (Sc.lb_new w4 x)
  unfold Sc.val at HA HX HY HQ
  clear C hb bx
  go_upto_region 5 with fail
  generalize w4.alloc (.cells #[.int .i64 x.rule, .int .i64 x.at', .int .i64 x.upto, .int .i64 x.seen] 47) = W4 at *
  generalize w4.heap.size = b4 at *
  have C := Lib.hid (allT_any (Df.kg xs) (Df.tN p nx S) (Df.tR (Df.rl F) S) (.agg D) Sc.aac W4 HA.out.tv (by decide))
  go_wp2_with (first
    | (refine wpList_load_row rfl 40 _ rfl b1 rfl 40 D (0, 0) _ HA.out.row Try.underlying40 rfl HDI.out ?_))
  refine C.out.mono ?_
  rintro e w5 ⟨v, l, c, rfl, hrow, hfin, hb⟩
  obtain ⟨hl2, rfl⟩ := Sc.ex_all HPL.out HE.out hfin
  obtain ⟨av, cv, rfl, _⟩ := hrow
  rw [hl2]
  replace HX := Lib.hid (HX.out.up hb)
  replace HY := Lib.hid (HY.out.up hb)
  replace HQ := Lib.hid (HQ.out.up hb)
  have HBB := Lib.hid (Bs.below_up HA.out.bel hb)
  obtain ⟨m0, m1, m2, m3⟩ := HX.out.cells
  obtain ⟨n0, n1, n2, n3⟩ := HY.out.cells
  obtain ⟨q0, q1, q2, q3⟩ := HQ.out.cells
  rw [HX3.out] at q3
  clear C hfin hb
  go_wp2_with fail
  go_ret
  exact ⟨rfl, HBB.out⟩
end Go.Proofs.Ythapedadnbkgnaa
