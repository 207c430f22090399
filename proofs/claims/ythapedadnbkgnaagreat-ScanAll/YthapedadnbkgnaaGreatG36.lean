/- The law ScanAll, walked. An expression that comes in, opened to its tree. Rows of expressions, and fronts, that come in, opened. Tables, and slices of texts, that come in, opened. -/
import Derived.Test.YthapedadnbkgnaaGreatG35
import Derived.Test.YthapedadnbkgnaaGreatG3
import Derived.Deep.Slices
import Derived.ChangeSame
import Derived.OpenShut
import Derived.WideKeyArr2
import Derived.Laws.IdiomArrays
import Derived.Test.YthapedadnbkgnaaGreatG5
import Derived.Test.YthapedadnbkgnaaGreatG34
import Derived.SliceStrings
namespace Go.Proofs.YthapedadnbkgnaaGreat
set_option linter.unusedVariables false
set_option linter.unusedSimpArgs false
open Go.RowKit
theorem Sc.fin_no {g : Nat → Nat} {N : List (List Int)} {R : List Int} {s : ByteArray} {l : List Sc.Lx} {c : Nat} (h : Sc.Fin g N R s l c) (e : Df.rt g N R = false) : l = [] ∧ c = 0 := by
  unfold Sc.Fin at h
  rwa [if_neg (by rw [e]; simp)] at h
theorem Sc.fin_yes {g : Nat → Nat} {N : List (List Int)} {R : List Int} {s : ByteArray} {l : List Sc.Lx} {c : Nat} (h : Sc.Fin g N R s l c) (e : Df.rt g N R = true) : Sc.Ch g N R (Px.by s) s.size 0 l c ∧ ¬ Sc.On g N R (Px.by s) s.size c ∧ c ≤ s.size := by
  unfold Sc.Fin at h
  rwa [if_pos e] at h
theorem Sc.ch_next {g : Nat → Nat} {N : List (List Int)} {R : List Int} {b : Nat → Nat} {n t c i : Nat} {l : List Sc.Lx} (hi : i < l.length) (h : Sc.Ch g N R b n t (l.drop i) c) : l[i] = Sc.px g N R b n t ∧ Sc.On g N R b n t ∧ Sc.Ch g N R b n (Sc.pc g N R b t (n - t)).upto (l.drop (i + 1)) c := by
  rw [List.drop_eq_getElem_cons hi] at h
  exact ⟨h.2.1, h.1, h.2.2⟩
theorem Df.Tv.cell256 {w : World} {D : Array Value} {g : Nat → Nat} {N : List (List Int)} {R : List Int} (h : Df.Tv w (.agg D) g N R) : ∃ a c, D[256]? = some (.slice a N.length c) := by
  obtain ⟨t1, m1, q1, rows, t2, m2, q2, e, hl, _, hR, _⟩ := h.is
  unfold Df.tab at e
  injection e with e
  subst e
  refine ⟨t1, q1, ?_⟩
  rw [Array.getElem?_append_right (by rw [Bs.arr_size]; omega), Bs.arr_size, ← hR.1, hl]
  rfl
set_option maxRecDepth 100000 in
set_option maxHeartbeats 4000000 in
theorem scanAllLaw_any (g : Nat → Nat) (N : List (List Int)) (R : List Int) (v : Value) (s : ByteArray) (w : World) (h : Df.Tv w v g N R) (hs : s.size ≤ maxLen) : Calls Tryz.prog 4 #[v, .string s] w (Bs.BPost w true) := by
  obtain ⟨D, rfl, hsz, _⟩ := h.cells
  obtain ⟨a1, c1, h256⟩ := h.cell256
  have HINF := Lib.hid (show (Tryz.prog.info? 42).map (·.size) = some D.size by rw [hsz]; exact Df.zero258.2)
  have HA := Lib.hid (Df.aw_new h)
  have HLIM := Lib.hid h.lim.1
  clear h hsz
  go_enter Tryz.func4, Tryz.ntmps4
  go_upto_region 1 with fail
  generalize w.alloc (.cells D 42) = W at *
  have AL := Lib.hid (alive9_any W)
  go_wp2_with fail
  refine AL.out.mono ?_
  rintro e w1 ⟨rfl, hb⟩
  replace HA := Lib.hid (HA.out.up hb)
  clear hb AL
  have x256 := HA.out.cell h256
  obtain ⟨n1, hn1⟩ : ∃ n, N.length = n := ⟨_, rfl⟩
  rw [hn1] at x256
  by_cases h6 : 600 < n1
  · have d1 : decide ((n1 : Int) > 600) = true := decide_eq_true (by omega)
    have d2 : decide (600 < n1) = true := decide_eq_true h6
    have d3 : decide ((600 : Int) < (n1 : Int)) = true := decide_eq_true (by omega)
    go_wp2_with fail
    go_ret
    exact ⟨rfl, HA.out.bel⟩
  have d1 : decide ((n1 : Int) > 600) = false := decide_eq_false (by omega)
  have d2 : decide (600 < n1) = false := decide_eq_false h6
  have d3 : decide ((600 : Int) < (n1 : Int)) = false := decide_eq_false (by omega)
  by_cases h60 : 60 < s.size
  · have d4 : decide ((s.size : Int) > 60) = true := decide_eq_true (by omega)
    have d5 : decide (60 < s.size) = true := decide_eq_true h60
    have d6 : decide ((60 : Int) < (s.size : Int)) = true := decide_eq_true (by omega)
    go_wp2_with fail
    go_ret
    exact ⟨rfl, HA.out.bel⟩
  have d4 : decide ((s.size : Int) > 60) = false := decide_eq_false (by omega)
  have d5 : decide (60 < s.size) = false := decide_eq_false h60
  have d6 : decide ((60 : Int) < (s.size : Int)) = false := decide_eq_false (by omega)
  have hs5 : s.size ≤ 100000 := by omega
  have C := Lib.hid (allT_any g N R (.agg D) s w1 HA.out.tv hs5)
  go_wp2_with (first
    | (refine wpList_load_row rfl 42 _ rfl w.heap.size rfl 42 D (0, 0) _ HA.out.row Tryz.underlying42 rfl HINF.out ?_))
  refine C.out.mono ?_
  rintro e w2 ⟨vl, l, c, rfl, hrow, hfin, hb⟩
  replace HA := Lib.hid (HA.out.up hb)
  have HFI := Lib.hid hfin
  have HRW := Lib.hid hrow
  have C := Lib.hid (refRightT_any g N R _ w2 HA.out.tv)
  clear hb C d1 d2 d3 d4 d5 d6 x256 h6 hfin hrow
  have C := Lib.hid (refRightT_any g N R _ w2 HA.out.tv)
  go_wp2_with (first
    | (refine wpList_load_row rfl 42 _ rfl w.heap.size rfl 42 D (0, 0) _ HA.out.row Tryz.underlying42 rfl HINF.out ?_))
  refine C.out.mono ?_
  rintro e w3 ⟨rfl, hb⟩
  replace HA := Lib.hid (HA.out.up hb)
  replace HRW := Lib.hid (HRW.out.up hb)
  clear hb C
  obtain ⟨bb, hbb⟩ : ∃ bb, Df.rt g N R = bb := ⟨_, rfl⟩
  have HBB := Lib.hid hbb
  rw [hbb]
  clear hbb
  cases bb
  · obtain ⟨rfl, rfl⟩ := Sc.fin_no HFI.out HBB.out
    obtain ⟨av, cv, rfl, _⟩ := HRW.out
    have C := Lib.hid (wholeT_any g N R (.agg D) s w3 HA.out.tv hs5)
    go_wp2_with fail
    refine wp_load_row 42 (.tmp 2) rfl w.heap.size rfl 42 D (0, 0) _ HA.out.row Tryz.underlying42 rfl HINF.out ?_
    go_wp2_with fail
    refine C.out.mono ?_
    rintro e w4 ⟨l', c', rfl, _, hb⟩
    have HB4 := Lib.hid (Bs.below_up HA.out.bel hb)
    have hwh : Sc.whole g N R s c' = false := by unfold Sc.whole; rw [HBB.out, Bool.and_false]
    rw [hwh]
    clear C hb hwh
    go_wp2_with fail
    go_ret
    exact ⟨rfl, HB4.out⟩
  have C := Lib.hid (refAllT_any g N R (.agg D) s w3 HA.out.tv HBB.out hs5)
  go_wp2_with (first
    | (refine wpList_load_row rfl 42 _ rfl w.heap.size rfl 42 D (0, 0) _ HA.out.row Tryz.underlying42 rfl HINF.out ?_))
  refine C.out.mono ?_
  rintro e w4 ⟨vm, l', c', rfl, hrow', hfin', hb⟩
  obtain ⟨rfl, rfl⟩ := Sc.Fin.one HFI.out hfin'
  replace HA := Lib.hid (HA.out.up hb)
  replace HRW := Lib.hid (HRW.out.up hb)
  have HRM := Lib.hid hrow'
  clear hb C hfin' hrow'
  obtain ⟨av, cv, rfl, _⟩ := HRW.out
  obtain ⟨am, cm, rfl, _⟩ := HRM.out
  have C := Lib.hid (wholeT_any g N R (.agg D) s w4 HA.out.tv hs5)
  obtain ⟨nl, hnl⟩ : ∃ n, l.length = n := ⟨_, rfl⟩
  have HNL := Lib.hid hnl
  have hc1 := HFI.out.le
  rw [hnl]
  have dn : ((nl : Int) != (nl : Int)) = false := by simp
  have dc : ((c : Int) != (c : Int)) = false := by simp
  clear hnl
  go_wp2_with fail
  refine wp_load_row 42 (.tmp 2) rfl w.heap.size rfl 42 D (0, 0) _ HA.out.row Tryz.underlying42 rfl HINF.out ?_
  go_wp2_with fail
  refine C.out.mono ?_
  rintro e w5 ⟨l'', c'', rfl, hfin, hb⟩
  obtain ⟨rfl, rfl⟩ := Sc.Fin.one HFI.out hfin
  have HBE := Lib.hid (Bs.below_up HA.out.bel hb)
  obtain ⟨av', cv', e1, hx⟩ := HRW.out.up hb
  injection e1 with e1 e2 e3
  subst e1
  obtain ⟨am', cm', e1, hy⟩ := HRM.out.up hb
  injection e1 with e1 e2' e3'
  subst e1
  have HX := Lib.hid hx
  have HY := Lib.hid hy
  have HWH := Lib.hid (show Sc.whole g N R s c = decide (c = s.size) by unfold Sc.whole; rw [HBB.out, Bool.and_true])
  rw [HWH.out]
  clear C hb hfin HRW HRM HWH e2 e3 e2' e3' hx hy
  have dq : ((c : Int) == (s.size : Int)) = decide (c = s.size) := by
    by_cases e : c = s.size
    · simp [e]
    · simp [e]
      omega
  have de : ((decide (c = s.size)) != (decide (c = s.size))) = false := by simp
  generalize decide (c = s.size) = bq at *
  go_wp2_with fail
  have hC0 := Lib.hid (Sc.fin_yes HFI.out HBB.out).1
  have hnls : nl ≤ s.size := by have := Sc.Ch.le hC0.out (Nat.zero_le _); have := HNL.out; omega
  go_loopg [9, 10] nl (fun gk v9 v10 wr => ∃ i t : Nat, i + gk = nl ∧ v9 = .int .i64 t ∧ v10 = .int .i64 i ∧ t ≤ s.size ∧ Hid (Sc.Ch g N R (Px.by s) s.size t (l.drop i) c) ∧ Hid (Below w5.heap.size w5 wr))
  case atStart => exact ⟨0, 0, by omega, rfl, rfl, by omega, hC0, Lib.hid (Below.refl _ _)⟩
  case round =>
    clear hC0
    obtain ⟨i, t, hi, rfl, rfl, ht, HCI, HB⟩ := hrel
    by_cases hlt : i < nl
    case neg =>
      obtain rfl : i = nl := by omega
      have hch := HCI.out
      rw [List.drop_of_length_le (by rw [HNL.out]; exact Nat.le_refl _)] at hch
      have htc : t = c := hch
      have dd : ((t : Int) == (c : Int)) = true := by simp [htc]
      clear hch
      go_wp2_with fail
      go_ret
      exact ⟨rfl, HBE.out.trans (HB.out.mono HBE.out.size)⟩
    case pos =>
      have hil : i < l.length := by rw [HNL.out]; exact hlt
      obtain ⟨p, rfl, hp⟩ := HX.out i hil
      obtain ⟨p2, rfl, hp2⟩ := HY.out i hil
      obtain ⟨hlx, hon, hch⟩ := Sc.ch_next hil HCI.out
      have hup := Sc.pc_pos hon
      have hle := (Sc.pc_le (g := g) (N := N) (R := R) (b := Px.by s) t ht).2
      obtain ⟨e0, e1, e2, e3⟩ := hp.up HB.out
      obtain ⟨f0, f1, f2, f3⟩ := hp2.up HB.out
      have hat : l[i].at' = (t : Int) := by rw [hlx]; rfl
      have hto : l[i].upto = (((Sc.pc g N R (Px.by s) t (s.size - t)).upto : Nat) : Int) := by rw [hlx]; rfl
      rw [hat] at e1 f1
      rw [hto] at e2 f2
      have HC2 := Lib.hid hch
      generalize (Sc.pc g N R (Px.by s) t (s.size - t)).upto = u at *
      generalize l[i].rule = x0 at *
      generalize l[i].seen = x3 at *
      clear hp hp2 hlx hon hch hat hto
      have i1 : (0 : Int) ≤ (i : Int) := by omega
      have i2 : (i : Int) < (nl : Int) := by omega
      have d1 : ((t : Int) != (t : Int)) = false := by simp
      have d2 : decide ((u : Int) ≤ (t : Int)) = false := decide_eq_false (by omega)
      have d3 : decide (u ≤ t) = false := decide_eq_false (by omega)
      go_upto_region 15 with fail
      go_quiet (fail)
      go_wp2_with fail
      go_roundg (gk - 1)
      case measure => omega
      exact ⟨i + 1, u, by omega, rfl, by go_num, hle, HC2, Lib.hid (below_drewN HB.out _)⟩
end Go.Proofs.YthapedadnbkgnaaGreat
namespace Go.Proofs.YthapedadnbkgnaaGreat
set_option linter.unusedVariables false
set_option linter.unusedSimpArgs false
open Go.ChangeShapes Go.WideShapes Go.Deep Go.RowKit
theorem Rx.add_zero (a : Addr) : a.add 0 = a := by unfold Addr.add; rw [if_pos rfl]
end Go.Proofs.YthapedadnbkgnaaGreat
namespace Go.Proofs.YthapedadnbkgnaaGreat
set_option linter.unusedVariables false
set_option linter.unusedSimpArgs false
open Go.ChangeShapes Go.WideShapes Go.Deep Go.RowKit
theorem Nf.ints_cells : Tryz.prog.cellsOf 34 = 1 := by kernel_rfl
end Go.Proofs.YthapedadnbkgnaaGreat
namespace Go.Proofs.YthapedadnbkgnaaGreat
set_option linter.unusedVariables false
set_option linter.unusedSimpArgs false
open Go.ChangeShapes Go.WideShapes Go.Deep Go.RowKit
theorem Df.byte_nat {x : Int} (h : (Lit.int .u8 x).wf = true) : ∃ n : Nat, x = n ∧ n < 256 := by
  simp [Lit.wf, IntKind.min, IntKind.max, IntKind.signed, IntKind.bits] at h
  exact ⟨x.toNat, by omega, by omega⟩
set_option maxRecDepth 100000 in
theorem Df.row_open {H : Type} {enc : TypeId × Value → H} {W : World} {base : Nat} {spare : Nat → Bool} {held : Bool} {fuel : Nat} {v : Value} {x : DataW H × List MemPlace}
    (h : DataW.trod enc Tryz.prog W base spare held fuel 34 [v] = some x) : ∃ l : List Int, Nf.Row W (fun _ => True) v l ∧ l.length ≤ maxLen := by
  rcases open_ints Tryz.underlying34 Tryz.underlying3 (by kernel_rfl) h with ⟨hcs, _⟩ | ⟨a, l, c, zs, hcs, _, hl, hm, hz, _, hcell, hwz⟩
  · simp at hcs
    subst hcs
    exact ⟨[], ⟨none, 0, rfl, Nat.le_refl _, fun _ => rfl, fun i hi => by simp at hi, fun x e => by simp at e⟩, by unfold maxLen; simp⟩
  · simp at hcs
    subst hcs
    have hz' : l ≤ zs.length := by
      have h0 := hz
      split at h0 <;> omega
    have hlz : (zs.take l).length = l := by rw [List.length_take]; omega
    refine ⟨zs.take l, ⟨some a, c, by rw [hlz], by rw [hlz]; exact hl, fun e => by simp at e, fun i hi => ?_, fun x e _ => trivial⟩, by rw [hlz]; exact Nat.le_trans hl hm⟩
    rw [hlz] at hi
    refine ⟨a, rfl, ?_⟩
    have h1 := hcell i (by omega)
    rw [List.getD_eq_getElem?_getD, List.getElem?_eq_getElem (by omega)] at h1
    rw [List.getElem_take]
    exact h1
theorem Df.rows_cells : Tryz.prog.cellsOf 40 = 1 := by kernel_rfl
theorem Df.dfa_cells : Tryz.prog.cellsOf 42 = 258 := by kernel_rfl
theorem Df.cls_cells : Tryz.prog.cellsOf 39 = 256 := by kernel_rfl
theorem Df.byte_cells : Tryz.prog.cellsOf 5 = 1 := by kernel_rfl
set_option maxRecDepth 100000 in
theorem Df.rows_open {H : Type} {enc : TypeId × Value → H} {W : World} {base : Nat} {spare : Nat → Bool} {held : Bool} {fuel : Nat} {v : Value} {x : DataW H × List MemPlace}
    (h : DataW.trod enc Tryz.prog W base spare held fuel 40 [v] = some x) : ∃ a n c rows N, v = .slice a n c ∧ rows.length = n ∧ n ≤ maxLen ∧ Ng.Sv W a rows ∧ Df.Rws W rows N ∧ ∀ l ∈ N, l.length ≤ maxLen := by
  rcases DataW.trod_slice Tryz.underlying40 h with ⟨hcs, _⟩ | ⟨b, len, cap, elems, rest, n2, hfu2, hcs, _, _, hl, hm, hlen, hel, _, _⟩
  · simp at hcs
    subst hcs
    exact ⟨none, 0, 0, [], [], rfl, rfl, by unfold maxLen; omega, fun i hi => by simp at hi, ⟨rfl, fun i hi => by simp at hi⟩, fun l hl => by simp at hl⟩
  · simp at hcs
    subst hcs
    have key : ∀ i, ∃ y : Value × List Int, i < len → W.cell? (b.add i) = some y.1 ∧ Nf.Row W (fun _ => True) y.1 y.2 ∧ y.2.length ≤ maxLen := by
      intro i
      by_cases hil : i < len
      · have he := hel i hil
        rw [Nf.ints_cells, List.getElem?_eq_getElem (by omega)] at he
        obtain ⟨cs', hc, ht⟩ := Option.bind_eq_some_iff.1 he
        obtain ⟨_, hcl, hat⟩ := World.cells?_some hc
        match cs', hcl with
        | [v0], _ =>
          have a0 := hat 0 (by decide)
          rw [Rx.add_zero, Nat.mul_one] at a0
          obtain ⟨l, h1, h2⟩ := Df.row_open ht
          exact ⟨(v0, l), fun _ => ⟨a0, h1, h2⟩⟩
      · exact ⟨(.bool false, []), fun h => absurd h hil⟩
    obtain ⟨os, hos⟩ := Classical.skolem.1 key
    refine ⟨some b, len, cap, List.ofFn (fun i : Fin len => (os i).1), List.ofFn (fun i : Fin len => (os i).2), rfl, by simp, Nat.le_trans hl hm, fun i hi => ⟨b, rfl, ?_⟩, ⟨by simp, fun i h1 h2 => ?_⟩, fun l hl => ?_⟩
    · rw [List.getElem_ofFn]
      exact (hos i (by simpa using hi)).1
    · rw [List.getElem_ofFn, List.getElem_ofFn]
      exact (hos i (by simpa using h1)).2.1
    · obtain ⟨i, hi, rfl⟩ := List.getElem_of_mem hl
      rw [List.getElem_ofFn]
      exact (hos i (by simpa using hi)).2.2
set_option maxRecDepth 100000 in
set_option maxHeartbeats 2000000 in
theorem Df.dfa_val {H : Type} {enc : TypeId × Value → H} {W W' : World} {r : Reach} {b0 base : Nat} {spare : Nat → Bool} {held : Bool} {v : Value} {d : DataW H} {ps : List MemPlace}
    (hv : Value.okWide Tryz.prog W' r b0 42 v) (h : DataW.Trod enc Tryz.prog W base spare held 42 v d ps) : ∃ g N R, Df.Tv W v g N R := by
  simp only [Value.okWide, Tryz.underlying42] at hv
  obtain ⟨xs, rfl, hxs, _⟩ := hv
  obtain ⟨fuel, hf⟩ := h
  have e : (Value.agg xs).cells.toList = xs.toList := rfl
  rw [e] at hf
  obtain ⟨ys, n', hfu, _, hcl, hyl, hf2⟩ := DataW.trod_struct Tryz.underlying42 hf
  rw [Df.dfa_cells] at hcl
  obtain ⟨cs, hcs⟩ : ∃ cs, xs.toList = cs := ⟨_, rfl⟩
  rw [hcs] at hcl hf2
  have hy : ys.length = 3 := hyl
  have g0 := hf2 0 _ rfl
  have g1 := hf2 1 _ rfl
  have g2 := hf2 2 _ rfl
  change DataW.trod enc Tryz.prog W base spare held n' 39 ((cs.drop 0).take (Tryz.prog.cellsOf 39)) = _ at g0
  change DataW.trod enc Tryz.prog W base spare held n' 40 ((cs.drop 256).take (Tryz.prog.cellsOf 40)) = _ at g1
  change DataW.trod enc Tryz.prog W base spare held n' 34 ((cs.drop 257).take (Tryz.prog.cellsOf 34)) = _ at g2
  rw [Df.cls_cells, List.getElem?_eq_getElem (by omega), List.drop_zero] at g0
  rw [Df.rows_cells, List.getElem?_eq_getElem (by omega)] at g1
  rw [Nf.ints_cells, List.getElem?_eq_getElem (by omega)] at g2
  have t1 : (cs.drop 256).take 1 = [cs[256]] := by
    rw [List.drop_eq_getElem_cons (by omega)]
    rfl
  have t2 : (cs.drop 257).take 1 = [cs[257]] := by
    rw [List.drop_eq_getElem_cons (by omega)]
    rfl
  rw [t1] at g1
  rw [t2] at g2
  obtain ⟨a1, m1, c1, rows, N, e1, hl1, hm1, hS, hR, hN⟩ := Df.rows_open g1
  obtain ⟨R, hRr, hRl⟩ := Df.row_open g2
  obtain ⟨zs, m, _, _, _, hzl, hz⟩ := DataW.trod_array Tryz.underlying39 g0
  have key : ∀ i, ∃ k : Nat, k < 256 ∧ (i < 256 → cs[i]? = some (.int .u8 k)) := by
    intro i
    by_cases hi : i < 256
    · have h1 := hz i hi
      rw [Df.byte_cells, Nat.mul_one, List.getElem?_eq_getElem (by omega)] at h1
      have t3 : ((cs.take 256).drop i).take 1 = [cs[i]] := by
        rw [List.drop_eq_getElem_cons (by rw [List.length_take]; omega), List.getElem_take]
        rfl
      rw [t3] at h1
      obtain ⟨k0, e0, _, w0⟩ := DataW.trod_int Tryz.underlying5 h1
      obtain ⟨k, rfl, hk⟩ := Df.byte_nat w0
      refine ⟨k, hk, fun _ => ?_⟩
      simp at e0
      rw [List.getElem?_eq_getElem (by omega), e0]
    · exact ⟨0, by omega, fun h => absurd h hi⟩
  obtain ⟨g, hg⟩ := Classical.skolem.1 key
  have hRr' := hRr
  obtain ⟨a2, c2, e2, _⟩ := hRr'
  have hx : xs = Bs.arr g ++ #[.slice a1 m1 c1, .slice a2 R.length c2] := by
    have hxc : ∀ i, xs[i]? = cs[i]? := fun i => by rw [← hcs, Array.getElem?_toList]
    have s0 := Bs.arr_size g
    have h6 : cs[256]? = some (.slice a1 m1 c1) := by rw [List.getElem?_eq_getElem (by omega), e1]
    have h7 : cs[257]? = some (.slice a2 R.length c2) := by rw [List.getElem?_eq_getElem (by omega), e2]
    clear e1 e2 hRr hR hS g0 g1 g2 t1 t2 hf2
    generalize Value.slice a1 m1 c1 = u1 at *
    generalize Value.slice a2 R.length c2 = u2 at *
    apply Array.ext_getElem?
    intro i
    rw [hxc]
    by_cases hi : i < 256
    · rw [(hg i).2 hi, Array.getElem?_append_left (by rw [s0]; exact hi), Bs.arr_at _ _ hi]
    · rw [Array.getElem?_append_right (by rw [s0]; omega), s0]
      by_cases e6 : i = 256
      · subst e6
        rw [h6]
        rfl
      · by_cases e7 : i = 257
        · subst e7
          rw [h7]
          rfl
        · rw [List.getElem?_eq_none (by omega), Array.getElem?_eq_none (by show 2 ≤ i - 256; omega)]
  refine ⟨g, N, R, fun c => (hg c).1, ⟨a1, m1, c1, rows, a2, R.length, c2, ?_, hl1, hS, hR, by rw [← e2]; exact hRr⟩, by rw [← hR.1, hl1]; exact hm1, hRl, hN⟩
  rw [hx]
  rfl
end Go.Proofs.YthapedadnbkgnaaGreat
