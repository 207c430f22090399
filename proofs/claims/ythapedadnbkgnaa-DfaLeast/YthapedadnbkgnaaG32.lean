/- What alike answers of two states that something tells apart, walked. -/
import Derived.Test.YthapedadnbkgnaaG19
import Derived.Test.YthapedadnbkgnaaG31
namespace Go.Proofs.Ythapedadnbkgnaa
set_option linter.unusedVariables false
set_option linter.unusedSimpArgs false
open Go.RowKit
def Ls.Good (N : List (List Int)) (R : List Int) (wide : Nat) (L : List (Int × Int)) (p : Int × Int) : Prop :=
  (p.1 < 0 ↔ p.2 < 0) ∧ (0 ≤ p.1 → R.getD p.1.toNat 0 = R.getD p.2.toNat 0 ∧ ∀ k, k < wide → (Df.go N p.1.toNat k, Df.go N p.2.toNat k) ∈ L)
structure Ls.Inv (N : List (List Int)) (R : List Int) (wide : Nat) (i j : Nat) (L : List (Int × Int)) (k : Nat) : Prop where
  nd : L.Nodup
  rng : ∀ p ∈ L, (-1 ≤ p.1 ∧ p.1 < N.length) ∧ -1 ≤ p.2 ∧ p.2 < N.length
  start : ((i : Int), (j : Int)) ∈ L
  le : k ≤ L.length
  good : ∀ m (h : m < L.length), m < k → Ls.Good N R wide L L[m]
theorem Ls.sum_const (c : Nat) : ∀ l : List Nat, (l.map fun _ => c).sum = l.length * c
  | [] => by simp
  | _ :: r => by rw [List.map_cons, List.sum_cons, Ls.sum_const c r, List.length_cons, Nat.succ_mul, Nat.add_comm]
theorem Ls.bound {n : Nat} {L : List (Int × Int)} (hd : L.Nodup) (hr : ∀ p ∈ L, (-1 ≤ p.1 ∧ p.1 < n) ∧ -1 ≤ p.2 ∧ p.2 < n) : L.length ≤ (n + 1) * (n + 1) := by
  have hsub : L ⊆ (List.range (n + 1)).flatMap fun (a : Nat) => (List.range (n + 1)).map fun (b : Nat) => (((a : Nat) : Int) - 1, ((b : Nat) : Int) - 1) := by
    intro p hp
    obtain ⟨⟨h1, h2⟩, h3, h4⟩ := hr p hp
    simp only [List.mem_flatMap, List.mem_map, List.mem_range]
    exact ⟨(p.1 + 1).toNat, by omega, (p.2 + 1).toNat, by omega, Prod.ext (by simp; omega) (by simp; omega)⟩
  have := hd.length_le_of_subset hsub
  simp at this
  rwa [Ls.sum_const, List.length_range] at this
theorem Ls.Good.mono {N : List (List Int)} {R : List Int} {wide : Nat} {L L' : List (Int × Int)} {p : Int × Int} (h : Ls.Good N R wide L p) (hs : ∀ q ∈ L, q ∈ L') : Ls.Good N R wide L' p := ⟨h.1, fun h0 => ⟨(h.2 h0).1, fun k hk => hs _ ((h.2 h0).2 k hk)⟩⟩
theorem Ls.Inv.twins {N : List (List Int)} {R : List Int} {wide i j : Nat} {L : List (Int × Int)} (h : Ls.Inv N R wide i j L L.length) : Df.Twins N R wide (fun a b => (a, b) ∈ L) := by
  intro a b hab
  obtain ⟨m, hm, e⟩ := List.getElem_of_mem hab
  have := h.good m hm hm
  rw [e] at this
  exact this
theorem Ls.Inv.add {N : List (List Int)} {R : List Int} {wide i j : Nat} {L : List (Int × Int)} {k : Nat} (h : Ls.Inv N R wide i j L k) {q : Int × Int} (hq : (-1 ≤ q.1 ∧ q.1 < N.length) ∧ -1 ≤ q.2 ∧ q.2 < N.length) (hn : q ∉ L) : Ls.Inv N R wide i j (L ++ [q]) k := by
  refine ⟨?_, fun p hp => ?_, by simp [h.start], by rw [List.length_append]; have := h.le; omega, fun m hm hk => ?_⟩
  · rw [List.nodup_append]
    exact ⟨h.nd, by simp, fun a ha b hb e => by simp at hb; subst hb; exact hn (by rw [← e]; exact ha)⟩
  · rw [List.mem_append, List.mem_singleton] at hp
    rcases hp with hp | rfl
    · exact h.rng p hp
    · exact hq
  · have hm' : m < L.length := by have := h.le; omega
    rw [List.getElem_append_left hm']
    exact (h.good m hm' hk).mono (fun p hp => by simp [hp])
theorem Ls.Inv.next {N : List (List Int)} {R : List Int} {wide i j : Nat} {L : List (Int × Int)} {k : Nat} (h : Ls.Inv N R wide i j L k) (hk : k < L.length) (hg : Ls.Good N R wide L L[k]) : Ls.Inv N R wide i j L (k + 1) := by
  refine ⟨h.nd, h.rng, h.start, hk, fun m hm hmk => ?_⟩
  by_cases e : m = k
  · subst e; exact hg
  · exact h.good m hm (by omega)
theorem Ls.Inv.sm {N : List (List Int)} {R : List Int} {wide i j : Nat} {L : List (Int × Int)} {k : Nat} (h : Ls.Inv N R wide i j L k) (hn : N.length ≤ 600) : ∀ p ∈ L, Ls.Sm p := fun p hp => by
  have := h.rng p hp
  exact ⟨⟨this.1.1, by omega⟩, this.2.1, by omega⟩
theorem Df.Rt.go {g : Nat → Nat} {N : List (List Int)} {R : List Int} (h : Df.Rt g N R) {a k : Nat} (ha : a < N.length) (hk : k < (N.getD 0 []).length) : ∃ hr : k < N[a].length, N[a][k] = Df.go N a k ∧ -1 ≤ Df.go N a k ∧ Df.go N a k < N.length := by
  have hm := h.row N[a] (List.getElem_mem ha)
  have hr : k < N[a].length := by rw [hm.1]; exact hk
  have e : N[a][k] = Df.go N a k := by
    unfold Df.go
    rw [Df.getD_get N [] ha, Df.getD_get _ _ hr]
  have := hm.2 _ (List.getElem_mem hr)
  exact ⟨hr, e, by rw [← e]; exact this.1, by rw [← e]; exact this.2⟩
def Ls.PB (u : World) (b : Nat) (p : Int × Int) : Prop := u.heap[b]? = some (.cells #[.int .i64 p.1, .int .i64 p.2] 79)
theorem Ls.PB.lt {u : World} {b : Nat} {p : Int × Int} (h : Ls.PB u b p) : b < u.heap.size := (Array.getElem?_eq_some_iff.1 h).1
theorem Ls.PB.up {u u' : World} {b : Nat} {p : Int × Int} (h : Ls.PB u b p) (hb : Below u.heap.size u u') : Ls.PB u' b p := by
  unfold Ls.PB
  rw [hb.block _ h.lt]
  exact h
theorem Ls.PB.kept {u u' : World} {b : Nat} {p : Int × Int} (h : Ls.PB u b p) {row : Option Nat} (hg : u.grownBy u' row) (hn : some b ≠ row) : Ls.PB u' b p := by
  unfold Ls.PB
  rw [hg.block _ h.lt hn]
  exact h
theorem Ls.PB.cells {u : World} {b : Nat} {p : Int × Int} (h : Ls.PB u b p) : u.cell? ⟨b, 0, none⟩ = some (.int .i64 p.1) ∧ u.cell? ⟨b, 1, none⟩ = some (.int .i64 p.2) := by
  refine ⟨?_, ?_⟩ <;> rw [cell_of_row _ _ _ _ _ _ h] <;> rfl
theorem Ls.PB.frz {u : World} {b : Nat} {p : Int × Int} (h : Ls.PB u b p) (i : Nat) : u.frozen? ⟨b, i, none⟩ = false := by
  unfold Ls.PB at h
  simp [World.frozen?, h]
theorem Ls.PB.set2 {u : World} {b : Nat} {p : Int × Int} (h : Ls.PB u b p) (x y : Int) : Ls.PB ((u.setCell ⟨b, 0, none⟩ (.int .i64 x)).setCell ⟨b, 1, none⟩ (.int .i64 y)) b (x, y) := by
  unfold Ls.PB at h
  have h1 : (u.setCell ⟨b, 0, none⟩ (.int .i64 x)).heap[b]? = some (.cells #[.int .i64 x, .int .i64 p.2] 79) := by
    rw [setCell_eq_setRow _ _ _ _ _ _ _ h, setRow_heap _ _ _ _ _ _ h]
    rfl
  unfold Ls.PB
  rw [setCell_eq_setRow _ _ _ _ _ _ _ h1, setRow_heap _ _ _ _ _ _ h1]
  rfl
structure Ls.AL (w0 : World) (mb base : Nat) (v : Value) (L : List (Int × Int)) (u : World) : Prop where
  bel : Below w0.heap.size w0 u
  pm : Ls.Pm u mb L
  own : Ls.Own base v L u
  mw : w0.heap.size ≤ mb
  mb' : mb < base
  bu : base ≤ u.heap.size
theorem Ls.AL.up {w0 : World} {mb base : Nat} {v : Value} {L : List (Int × Int)} {u u' : World} (h : Ls.AL w0 mb base v L u) (hb : Below u.heap.size u u') : Ls.AL w0 mb base v L u' :=
  ⟨Bs.below_up h.bel hb, h.pm.up hb, h.own.up hb, h.mw, h.mb', Nat.le_trans h.bu hb.size⟩
theorem Ls.own_one (w : World) (p : Int × Int) : Ls.Own w.heap.size (.slice (some ⟨w.heap.size, 0, none⟩) 1 1) [p] (w.alloc (.cells #[.int .i64 p.1, .int .i64 p.2] 79)) :=
  ⟨rfl, .inr ⟨w.heap.size, 1, _, rfl, Nat.le_refl _, heap_alloc_new w _, by simp, by unfold maxLen; omega, rfl, rfl⟩⟩
def Ls.relQ (tb pb n1 q1 na nb wd c5 c6 c B : Nat) (pa ra rb : Addr) (x y : Int) : List (Value → World → Prop) :=
  [fun v _ => v = .pointer (some ⟨tb, 256, none⟩), fun v _ => v = .slice (some pa) n1 q1, fun v _ => v = .pointer (some ⟨pb, 0, none⟩), fun v _ => v = .int .i64 na, fun v _ => v = .pointer (some (pa.add na)), fun v _ => v = .slice (some ra) wd c5, fun v _ => v = .int .i64 c, fun v _ => v = .pointer (some (ra.add c)), fun v _ => v = .int .i64 x, fun v _ => v = .pointer (some ⟨tb, 256, none⟩), fun v _ => v = .slice (some pa) n1 q1, fun v _ => v = .pointer (some ⟨pb, 1, none⟩), fun v _ => v = .int .i64 nb, fun v _ => v = .pointer (some (pa.add nb)), fun v _ => v = .slice (some rb) wd c6, fun v _ => v = .int .i64 c, fun v _ => v = .pointer (some (rb.add c)), fun v _ => v = .int .i64 y, fun v _ => v = .agg #[.int .i64 x, .int .i64 y], fun v w => ∃ b, v = .pointer (some ⟨b, 0, none⟩) ∧ B ≤ b ∧ Ls.PB w b (0, 0)]
theorem Ls.relQ_up (tb pb n1 q1 na nb wd c5 c6 c B : Nat) (pa ra rb : Addr) (x y : Int) : Rg.Ups (Ls.relQ tb pb n1 q1 na nb wd c5 c6 c B pa ra rb x y) := by
  refine ⟨?_, ?_, ?_, ?_, ?_, ?_, ?_, ?_, ?_, ?_, ?_, ?_, ?_, ?_, ?_, ?_, ?_, ?_, ?_, ?_, trivial⟩
  rotate_left 19
  · rintro v w w' ⟨b, h1, h2, h3⟩ hb
    exact ⟨b, h1, h2, h3.up hb⟩
  all_goals exact fun v w w' h _ => h
structure Ls.QW (w0 : World) (tb pb n1 q1 na nb wd c5 c6 c : Nat) (pa ra rb : Addr) (x y : Int) (u : World) : Prop where
  c256 : u.cell? ⟨tb, 256, none⟩ = some (.slice (some pa) n1 q1)
  m0 : u.cell? ⟨pb, 0, none⟩ = some (.int .i64 na)
  m1 : u.cell? ⟨pb, 1, none⟩ = some (.int .i64 nb)
  na' : u.cell? (pa.add na) = some (.slice (some ra) wd c5)
  nb' : u.cell? (pa.add nb) = some (.slice (some rb) wd c6)
  xa : u.cell? (ra.add c) = some (.int .i64 x)
  xb : u.cell? (rb.add c) = some (.int .i64 y)
  bel : Below w0.heap.size w0 u
theorem Ls.QW.up {w0 : World} {tb pb n1 q1 na nb wd c5 c6 c : Nat} {pa ra rb : Addr} {x y : Int} {u u' : World} (h : Ls.QW w0 tb pb n1 q1 na nb wd c5 c6 c pa ra rb x y u) (hb : Below u.heap.size u u') : Ls.QW w0 tb pb n1 q1 na nb wd c5 c6 c pa ra rb x y u' :=
  ⟨Bs.cell_up hb h.c256, Bs.cell_up hb h.m0, Bs.cell_up hb h.m1, Bs.cell_up hb h.na', Bs.cell_up hb h.nb', Bs.cell_up hb h.xa, Bs.cell_up hb h.xb, Bs.below_up h.bel hb⟩
structure Ls.Tp (w : World) (D : Array Value) (N : List (List Int)) (R : List Int) (a1 : Option Addr) (c1 : Nat) (rows : List Value) (a2 : Option Addr) (c2 : Nat) : Prop where
  d1 : D[256]? = some (.slice a1 N.length c1)
  d2 : D[257]? = some (.slice a2 R.length c2)
  sv : Ng.Sv w a1 rows
  rw' : Df.Rws w rows N
  rl : Nf.Row w (fun _ => True) (.slice a2 R.length c2) R
theorem Ls.tp_of {w : World} {D : Array Value} {g : Nat → Nat} {N : List (List Int)} {R : List Int} (h : Df.Tv w (.agg D) g N R) : ∃ a1 c1 rows a2 c2, Ls.Tp w D N R a1 c1 rows a2 c2 := by
  obtain ⟨t1, m1, q1, rows, t2, m2, q2, e, hl, hS, hR, hRl⟩ := h.is
  unfold Df.tab at e
  injection e with e
  subst e
  have e1 : m1 = N.length := by rw [← hl, hR.1]
  have e2 : m2 = R.length := by
    obtain ⟨_, _, e, _⟩ := hRl
    injection e with _ e2 _
  subst e1
  subst e2
  refine ⟨t1, q1, rows, t2, q2, ?_, ?_, hS, hR, hRl⟩
  · rw [Array.getElem?_append_right (by rw [Bs.arr_size]; omega), Bs.arr_size]; rfl
  · rw [Array.getElem?_append_right (by rw [Bs.arr_size]; omega), Bs.arr_size]; rfl
theorem Ls.Tp.up {w w' : World} {D : Array Value} {N : List (List Int)} {R : List Int} {a1 : Option Addr} {c1 : Nat} {rows : List Value} {a2 : Option Addr} {c2 : Nat} (h : Ls.Tp w D N R a1 c1 rows a2 c2) (hb : Below w.heap.size w w') : Ls.Tp w' D N R a1 c1 rows a2 c2 :=
  ⟨h.d1, h.d2, h.sv.up hb, h.rw'.up hb, h.rl.up hb⟩
theorem Ls.Tp.rat {w : World} {D : Array Value} {N : List (List Int)} {R : List Int} {a1 : Option Addr} {c1 : Nat} {rows : List Value} {a2 : Option Addr} {c2 : Nat} (h : Ls.Tp w D N R a1 c1 rows a2 c2) {k : Nat} (hk : k < R.length) : ∃ p, a2 = some p ∧ w.cell? (p.add k) = some (.int .i64 (R.getD k 0)) := by
  obtain ⟨a9, c9, e9, _, _, hs9, _⟩ := h.rl
  injection e9 with e9 _ _
  obtain ⟨p, e, hc⟩ := hs9 k hk
  exact ⟨p, by rw [e9, e], by rw [Df.getD_get R 0 hk]; exact hc⟩
theorem Ls.Tp.nat {w : World} {D : Array Value} {N : List (List Int)} {R : List Int} {a1 : Option Addr} {c1 : Nat} {rows : List Value} {a2 : Option Addr} {c2 : Nat} (h : Ls.Tp w D N R a1 c1 rows a2 c2) {g : Nat → Nat} (hr : Df.Rt g N R) {k : Nat} (hk : k < N.length) : ∃ p rp c5, a1 = some p ∧ w.cell? (p.add k) = some (.slice (some rp) (N.getD 0 []).length c5) ∧ ∀ c, c < (N.getD 0 []).length → w.cell? (rp.add c) = some (.int .i64 (Df.go N k c)) := by
  have hkr : k < rows.length := by rw [h.rw'.1]; exact hk
  obtain ⟨p, e, hc⟩ := h.sv k hkr
  obtain ⟨a5, c5, e5, _, _, hs5, _⟩ := h.rw'.2 k hkr hk
  have hlen := (hr.row _ (List.getElem_mem hk)).1
  have h0 := hr.top 0 (by omega)
  obtain ⟨rp, er, _⟩ := hs5 0 (by omega)
  rw [e5, er, hlen] at hc
  refine ⟨p, rp, c5, e, hc, fun c hc' => ?_⟩
  obtain ⟨rp', er', h9⟩ := hs5 c (by omega)
  rw [er] at er'
  injection er' with er'
  subst er'
  obtain ⟨_, e2, _⟩ := hr.go hk hc'
  rw [e2] at h9
  exact h9
set_option maxRecDepth 100000 in
set_option maxHeartbeats 4000000 in
theorem alike_any (g : Nat → Nat) (N : List (List Int)) (R : List Int) (v : Value) (i j : Nat) (w : World) (h : Df.Tv w v g N R) (hrt : Df.rt g N R = true) (hi : i < N.length) (hj : j < N.length)
    (hap : ∀ Q, Df.Twins N R (N.getD 0 []).length Q → Q i j → False) : Calls Try.prog 11 #[v, .int .i64 i, .int .i64 j] w (Bs.BPost w false) := by
  obtain ⟨D, rfl, hsz, _⟩ := h.cells
  have HRT := Lib.hid (Df.rt_of hrt)
  have HAP := Lib.hid hap
  have HA := Lib.hid (Df.aw_new h)
  have hn5 : N.length ≤ 500 := (Df.rt_of hrt).lim
  have HWL := Lib.hid (show (N.getD 0 []).length ≤ 9223372036854775807 by rw [Df.getD_get N [] (by omega)]; exact h.lim.2.2 _ (List.getElem_mem _))
  clear h hsz hap hrt
  have hmm := @run_makeMap Try.prog
  go_enter Try.func11, Try.ntmps11
  go_upto_region 1 with fail
  have hlt0 : w.heap.size < (w.alloc (.cells D 40)).heap.size := by simp
  generalize w.alloc (.cells D 40) = W at *
  obtain ⟨t1, q1, rows, t2, q2, htp⟩ := Ls.tp_of HA.out.tv
  have HTP := Lib.hid htp
  have y256 := HA.out.cell htp.d1
  have y257 := HA.out.cell htp.d2
  have HW0 := Lib.hid HA.out.bel
  clear htp HA
  have hpm := Lib.hid (Ls.pm_new W)
  have hsm : Ls.Sm ((i : Int), (j : Int)) := ⟨⟨by omega, by omega⟩, by omega, by omega⟩
  have hb1 := Bs.below1 W (.map #[] 0)
  go_upto_region 2 with (first
    | (refine Ls.put hpm.out rfl _ _ _ (.inr rfl) rfl rfl ((i : Int), (j : Int)) hsm (by simp) (by simp) rfl ?_; intro w1 hpm1 hgr1))
  have hgs := hgr1.size
  have hlw : (W.alloc (.map #[] 0)).heap.size = W.heap.size + 1 := by simp
  have bx := Bs.below1 w1 (.cells #[.int .i64 (i : Int), .int .i64 (j : Int)] 79)
  have HAL0 := Lib.hid (show Ls.AL W W.heap.size w1.heap.size (.slice (some ⟨w1.heap.size, 0, none⟩) 1 1) [((i : Int), (j : Int))] (w1.alloc (.cells #[.int .i64 (i : Int), .int .i64 (j : Int)] 79)) from
    ⟨(hb1.grown hgr1 (by omega) (fun k hk => by injection hk with hk; omega)).trans (bx.mono (by omega)), hpm1.up bx, Ls.own_one w1 ((i : Int), (j : Int)), Nat.le_refl _, by omega, bx.size⟩)
  have HINV0 := Lib.hid (show Ls.Inv N R (N.getD 0 []).length i j [((i : Int), (j : Int))] 0 from
    ⟨by simp, fun p hp => by simp at hp; subst hp; exact ⟨⟨by omega, by omega⟩, by omega, by omega⟩, by simp, by simp, fun m _ hm => by omega⟩)
  have hmb : W.heap.size < w1.heap.size := by omega
  clear hpm hpm1 hgr1 hb1 hsm hgs hlw bx hmm
  go_wp2_with fail
  generalize hbs : w1.heap.size = base at *
  obtain ⟨M, hM⟩ : ∃ M, M = (N.length + 1) * (N.length + 1) + 1 := ⟨_, rfl⟩
  go_loopg [8, 9] M (fun gk v8 v9 wr => ∃ (L : List (Int × Int)) (k : Nat), k + gk = M ∧ v9 = .int .i64 k ∧ Hid (Ls.Inv N R (N.getD 0 []).length i j L k) ∧ Hid (Ls.AL W W.heap.size base v8 L wr))
  case atStart => exact ⟨_, 0, by omega, rfl, HINV0, HAL0⟩
  case round =>
    clear HAL0 HINV0
    obtain ⟨L, k, hk, rfl, HI, HL⟩ := hrel
    have hln := Ls.bound HI.out.nd HI.out.rng
    have hle := HI.out.le
    by_cases hkl : k < L.length
    case neg =>
      have e : k = L.length := by omega
      have hi9 := HI.out
      rw [e] at hi9
      exact (HAP.out _ hi9.twins hi9.start).elim
    case pos =>
      have hpb : base ≤ wr.heap.size := HL.out.bu
      obtain ⟨g8, cap8, rfl, m0, m1⟩ := HL.out.own.at hkl
      have HGP0 := Lib.hid (show ∀ q, (Value.slice (some ⟨g8, 0, none⟩) L.length cap8).ownBlock = some q → q < wr.heap.size from fun q hq => (World.ownsRow.lt HL.out.own q hq).2)
      have hrg := HI.out.rng L[k] (List.getElem_mem hkl)
      obtain ⟨a, ha⟩ : ∃ a, L[k].1 = a := ⟨_, rfl⟩
      obtain ⟨b, hb⟩ : ∃ b, L[k].2 = b := ⟨_, rfl⟩
      rw [ha, hb] at hrg
      rw [ha] at m0
      rw [hb] at m1
      have HLK := Lib.hid (show L[k] = (a, b) from Prod.ext ha hb)
      clear ha hb
      obtain ⟨ln, hlen⟩ : ∃ n, L.length = n := ⟨_, rfl⟩
      have HLN := Lib.hid hlen
      rw [hlen] at hkl hln hle HGP0 ⊢
      clear hlen
      have i1 : (0 : Int) ≤ (k : Int) := by omega
      have i2 : (k : Int) < (ln : Int) := by omega
      have i3 : decide ((k : Int) < (ln : Int)) = true := decide_eq_true i2
      go_upto_region 7 with fail
      have bx := Bs.below1 wr (.cells #[.int .i64 a, .int .i64 b] 79)
      replace HL := Lib.hid (HL.out.up bx)
      have HP := Lib.hid (show Ls.PB (wr.alloc (.cells #[.int .i64 a, .int .i64 b] 79)) wr.heap.size (a, b) from heap_alloc_new wr _)
      generalize wr.alloc (.cells #[.int .i64 a, .int .i64 b] 79) = W4 at *
      generalize wr.heap.size = pb at *
      have HGP := HGP0
      clear bx m0 m1 HGP0
      obtain ⟨m0, m1⟩ := HP.out.cells
      simp only at m0 m1
      have x256 := Bs.cell_up HL.out.bel y256
      have x257 := Bs.cell_up HL.out.bel y257
      have HT4 := Lib.hid (HTP.out.up HL.out.bel)
      have HB4 := Lib.hid (show Below w.heap.size w W4 from Bs.below_up HW0.out HL.out.bel)
      have hkg : 0 < gk := by omega
      have hln2 : ln ≤ 501 * 501 := Nat.le_trans hln (Nat.mul_le_mul (by omega) (by omega))
      by_cases a0 : a < 0
      · by_cases b0 : b < 0
        · have d1 : decide (a < 0) = true := decide_eq_true a0
          have d2 : decide (b < 0) = true := decide_eq_true b0
          have d3 : decide (a ≥ 0) = false := decide_eq_false (by omega)
          have d4 : decide (0 ≤ a) = false := decide_eq_false (by omega)
          have HI2 := Lib.hid (HI.out.next (by rw [HLN.out]; exact hkl) (by rw [HLK.out]; exact ⟨by simp only; omega, fun h => by simp only at h; omega⟩))
          go_quiet (fail)
          go_wp2_with fail
          go_roundg (gk - 1)
          case measure => omega
          exact ⟨L, k + 1, by omega, by go_num, HI2, by rw [← HLN.out]; exact Lib.hid (HL.out.up (below_drewN (Below.refl _ _) _))⟩
        · have d1 : decide (a < 0) = true := decide_eq_true a0
          have d2 : decide (b < 0) = false := decide_eq_false b0
          go_quiet (fail)
          go_wp2_with fail
          go_ret
          exact ⟨rfl, below_drewN HB4.out _⟩
      · by_cases b0 : b < 0
        · have d1 : decide (a < 0) = false := decide_eq_false a0
          have d2 : decide (b < 0) = true := decide_eq_true b0
          go_quiet (fail)
          go_wp2_with fail
          go_ret
          exact ⟨rfl, below_drewN HB4.out _⟩
        · obtain ⟨na, rfl⟩ := Int.eq_ofNat_of_zero_le (Int.not_lt.1 a0)
          obtain ⟨nb, rfl⟩ := Int.eq_ofNat_of_zero_le (Int.not_lt.1 b0)
          have hna : na < N.length := by omega
          have hnb : nb < N.length := by omega
          have hrl : R.length = N.length := HRT.out.rl
          obtain ⟨p2, rfl, ra⟩ := HT4.out.rat (k := na) (by omega)
          obtain ⟨p2', e2, rb⟩ := HT4.out.rat (k := nb) (by omega)
          injection e2 with e2
          subst e2
          have d1 : decide ((na : Int) < 0) = false := decide_eq_false a0
          have d2 : decide ((nb : Int) < 0) = false := decide_eq_false b0
          have d3 : decide ((na : Int) ≥ 0) = true := decide_eq_true (by omega)
          have d4 : decide ((0 : Int) ≤ (na : Int)) = true := decide_eq_true (by omega)
          have j1 : (0 : Int) ≤ (na : Int) := by omega
          have j2 : (na : Int) < (R.length : Int) := by omega
          have j3 : (0 : Int) ≤ (nb : Int) := by omega
          have j4 : (nb : Int) < (R.length : Int) := by omega
          obtain ⟨r1, hr1⟩ : ∃ r, R.getD na 0 = r := ⟨_, rfl⟩
          obtain ⟨r2, hr2⟩ : ∃ r, R.getD nb 0 = r := ⟨_, rfl⟩
          rw [hr1] at ra
          rw [hr2] at rb
          have HR12 := Lib.hid (And.intro hr1 hr2)
          clear hr1 hr2
          by_cases hre : r1 = r2
          · have d5 : (r1 != r2) = false := by simp [hre]
            have HRE := Lib.hid (show R.getD na 0 = R.getD nb 0 by rw [HR12.out.1, HR12.out.2]; exact hre)
            clear hre
            obtain ⟨wd, hwd⟩ : ∃ n, (N.getD 0 []).length = n := ⟨_, rfl⟩
            have HWD := Lib.hid hwd
            have hwl : wd ≤ 9223372036854775807 := by rw [← hwd]; exact HWL.out
            have HRT0 := Lib.hid (fun c => HRT.out.go (k := c) hna)
            have HRT1 := Lib.hid (fun c => HRT.out.go (k := c) hnb)
            go_quiet (fail)
            generalize nq = nz
            replace HL := Lib.hid (HL.out.up (below_drewN (Below.refl _ _) nz))
            replace HP := Lib.hid (HP.out.up (below_drewN (Below.refl _ _) nz))
            replace HB4 := Lib.hid (below_drewN HB4.out nz)
            clear x256 x257 ra rb HT4 d5 j1 j2 j3 j4 d3 d4
            go_wp2_with fail
            clear m0 m1
            generalize W4.drewN nz = W4 at *
            have hpm : pb ≠ W.heap.size := by omega
            obtain ⟨gk0, hgk0⟩ : ∃ x, x = gk := ⟨_, rfl⟩
            have HOB := Lib.hid (show ∀ q, (Value.slice (some ⟨g8, 0, none⟩) ln cap8).ownBlock = some q → q < pb from fun q hq => HGP.out q hq)
            go_loopg [8, 11] wd (fun gk v8 v11 wr => ∃ (L' : List (Int × Int)) (c : Nat), c + gk = wd ∧ v11 = .int .i64 c ∧ Hid (Ls.Inv N R (N.getD 0 []).length i j L' k) ∧ Hid (L'[k]? = some ((na : Int), (nb : Int))) ∧ Hid (∀ d, d < c → (Df.go N na d, Df.go N nb d) ∈ L') ∧ Hid (Ls.AL W W.heap.size base v8 L' wr) ∧ Hid (Ls.PB wr pb ((na : Int), (nb : Int))) ∧ Hid (∀ q, v8.ownBlock = some q → q ≠ pb))
            case atStart => exact ⟨L, 0, by omega, rfl, HI, Lib.hid (by rw [List.getElem?_eq_getElem (by rw [HLN.out]; exact hkl), HLK.out]), Lib.hid (fun d hd => by omega), by rw [← HLN.out]; exact HL, HP, Lib.hid (fun q hq => by have := HOB.out q hq; omega)⟩
            case round =>
              clear HL HP HOB HI HLK HB4
              obtain ⟨L', c, hc, rfl, HI, HLK, HGO, HL, HP, HOB⟩ := hrel
              obtain ⟨m0, m1⟩ := HP.out.cells
              simp only at m0 m1
              have x256 := Bs.cell_up HL.out.bel y256
              have HT := Lib.hid (HTP.out.up HL.out.bel)
              obtain ⟨pa, ra, c5, rfl, na', hxa⟩ := HT.out.nat HRT.out hna
              obtain ⟨pa2, rb, c6, e9, nb', hxb⟩ := HT.out.nat HRT.out hnb
              injection e9 with e9
              subst e9
              rw [HWD.out] at na' nb' hxa hxb
              have j1 : (0 : Int) ≤ (na : Int) := by omega
              have j2 : (na : Int) < (N.length : Int) := by omega
              have j3 : (0 : Int) ≤ (nb : Int) := by omega
              have j4 : (nb : Int) < (N.length : Int) := by omega
              by_cases hcw : c < wd
              case neg =>
                obtain rfl : c = wd := by omega
                have hkL : k < L'.length := by
                  have := HLK.out
                  exact (List.getElem?_eq_some_iff.1 this).1
                have hLk : L'[k] = ((na : Int), (nb : Int)) := (List.getElem?_eq_some_iff.1 HLK.out).2
                have HI2 := Lib.hid (HI.out.next hkL (by
                  rw [hLk, HWD.out]
                  exact ⟨by simp only; omega, fun _ => ⟨by simp only [Int.toNat_natCast]; exact HRE.out, fun d hd => by simp only [Int.toNat_natCast]; exact HGO.out d hd⟩⟩))
                clear hLk hxa hxb
                go_wp2_with fail
                go_roundg (gk0 - 1)
                case measure => omega
                exact ⟨L', k + 1, by omega, by go_num, HI2, HL⟩
              case pos =>
                obtain ⟨_, _, x1, x2⟩ := HRT0.out c (by rw [HWD.out]; exact hcw)
                obtain ⟨_, _, y1, y2⟩ := HRT1.out c (by rw [HWD.out]; exact hcw)
                have xa := hxa c hcw
                have xb := hxb c hcw
                obtain ⟨x, hx⟩ : ∃ x, Df.go N na c = x := ⟨_, rfl⟩
                obtain ⟨y, hy⟩ : ∃ y, Df.go N nb c = y := ⟨_, rfl⟩
                rw [hx] at xa x1 x2
                rw [hy] at xb y1 y2
                have HXY := Lib.hid (And.intro hx hy)
                have HQ := Lib.hid (show Ls.QW wr w.heap.size pb N.length q1 na nb wd c5 c6 c pa ra rb x y wr from ⟨x256, m0, m1, na', nb', xa, xb, Below.refl _ _⟩)
                clear hx hy hxa hxb
                have i1 : (0 : Int) ≤ (c : Int) := by omega
                have i2 : (c : Int) < (wd : Int) := by omega
                have i3 : decide ((c : Int) < (wd : Int)) = true := decide_eq_true i2
                have hsxy : Ls.Sm (x, y) := ⟨⟨x1, by omega⟩, y1, by omega⟩
                go_upto_region 13 with fail
                clear x256 m0 m1 na' nb' xa xb i3
                refine Rg.regionU (by kernel_rfl) 102 (by kernel_rfl) (by kernel_rfl) (by decide) (by exact Nat.le_refl 102) (Rg.rel (Ls.relQ w.heap.size pb N.length q1 na nb wd c5 c6 c wr.heap.size pa ra rb x y)) (Ls.QW wr w.heap.size pb N.length q1 na nb wd c5 c6 c pa ra rb x y) (fun w w' => Below w.heap.size w w') (fun i v w w' h _ hb => Rg.rel_up (Ls.relQ_up _ _ _ _ _ _ _ _ _ _ _ _ _ _ _ _) h hb) (HQ.out.up (Below.refl _ _).drew) (Rg.guards [] (by kernel_rfl) (fun p hp v w h => by simp at hp)) ⟨?_, ?_, ?_, ?_, ?_, ?_, ?_, ?_, ?_, ?_, ?_, ?_, ?_, ?_, ?_, ?_, ?_, ?_, ?_, ?_, trivial⟩ ?_
                · intro fv u hw hd
                  have HW := Lib.hid hw
                  clear hw hd
                  simp only [Rg.step, Rg.all, Act.put, List.setIfInBounds_toArray, List.set_cons_zero, List.set_cons_succ]
                  go_simp
                  first | exact ⟨rfl, HW.out, Below.refl _ _⟩ | exact ⟨HW.out, Below.refl _ _⟩
                · intro fv u hw hd
                  have e0 : fv 0 = .pointer (some ⟨w.heap.size, 256, none⟩) := hd _ (List.mem_cons_self ..)
                  have hcell := hw.c256
                  have HW := Lib.hid hw
                  clear hw hd
                  simp only [Rg.step, Rg.all, Act.put, List.setIfInBounds_toArray, List.set_cons_zero, List.set_cons_succ]
                  go_simp
                  first | exact ⟨rfl, HW.out, Below.refl _ _⟩ | exact ⟨HW.out, Below.refl _ _⟩
                · intro fv u hw hd
                  have HW := Lib.hid hw
                  clear hw hd
                  simp only [Rg.step, Rg.all, Act.put, List.setIfInBounds_toArray, List.set_cons_zero, List.set_cons_succ]
                  go_simp
                  first | exact ⟨rfl, HW.out, Below.refl _ _⟩ | exact ⟨HW.out, Below.refl _ _⟩
                · intro fv u hw hd
                  have e2 : fv 2 = .pointer (some ⟨pb, 0, none⟩) := hd _ (List.mem_cons_self ..)
                  have hcell := hw.m0
                  have HW := Lib.hid hw
                  clear hw hd
                  simp only [Rg.step, Rg.all, Act.put, List.setIfInBounds_toArray, List.set_cons_zero, List.set_cons_succ]
                  go_simp
                  first | exact ⟨rfl, HW.out, Below.refl _ _⟩ | exact ⟨HW.out, Below.refl _ _⟩
                · intro fv u hw hd
                  have e1 : fv 1 = .slice (some pa) N.length q1 := hd _ (List.mem_cons_self ..)
                  have e3 : fv 3 = .int .i64 na := hd _ (List.mem_cons_of_mem _ (List.mem_cons_self ..))
                  have HW := Lib.hid hw
                  clear hw hd
                  simp only [Rg.step, Rg.all, Act.put, List.setIfInBounds_toArray, List.set_cons_zero, List.set_cons_succ]
                  go_simp
                  first | exact ⟨rfl, HW.out, Below.refl _ _⟩ | exact ⟨HW.out, Below.refl _ _⟩
                · intro fv u hw hd
                  have e4 : fv 4 = .pointer (some (pa.add na)) := hd _ (List.mem_cons_self ..)
                  have hcell := hw.na'
                  have HW := Lib.hid hw
                  clear hw hd
                  simp only [Rg.step, Rg.all, Act.put, List.setIfInBounds_toArray, List.set_cons_zero, List.set_cons_succ]
                  go_simp
                  first | exact ⟨rfl, HW.out, Below.refl _ _⟩ | exact ⟨HW.out, Below.refl _ _⟩
                · intro fv u hw hd
                  have HW := Lib.hid hw
                  clear hw hd
                  simp only [Rg.step, Rg.all, Act.put, List.setIfInBounds_toArray, List.set_cons_zero, List.set_cons_succ]
                  go_simp
                  first | exact ⟨rfl, HW.out, Below.refl _ _⟩ | exact ⟨HW.out, Below.refl _ _⟩
                · intro fv u hw hd
                  have e5 : fv 5 = .slice (some ra) wd c5 := hd _ (List.mem_cons_self ..)
                  have e6 : fv 6 = .int .i64 c := hd _ (List.mem_cons_of_mem _ (List.mem_cons_self ..))
                  have HW := Lib.hid hw
                  clear hw hd
                  simp only [Rg.step, Rg.all, Act.put, List.setIfInBounds_toArray, List.set_cons_zero, List.set_cons_succ]
                  go_simp
                  first | exact ⟨rfl, HW.out, Below.refl _ _⟩ | exact ⟨HW.out, Below.refl _ _⟩
                · intro fv u hw hd
                  have e7 : fv 7 = .pointer (some (ra.add c)) := hd _ (List.mem_cons_self ..)
                  have hcell := hw.xa
                  have HW := Lib.hid hw
                  clear hw hd
                  simp only [Rg.step, Rg.all, Act.put, List.setIfInBounds_toArray, List.set_cons_zero, List.set_cons_succ]
                  go_simp
                  first | exact ⟨rfl, HW.out, Below.refl _ _⟩ | exact ⟨HW.out, Below.refl _ _⟩
                · intro fv u hw hd
                  have HW := Lib.hid hw
                  clear hw hd
                  simp only [Rg.step, Rg.all, Act.put, List.setIfInBounds_toArray, List.set_cons_zero, List.set_cons_succ]
                  go_simp
                  first | exact ⟨rfl, HW.out, Below.refl _ _⟩ | exact ⟨HW.out, Below.refl _ _⟩
                · intro fv u hw hd
                  have e9 : fv 9 = .pointer (some ⟨w.heap.size, 256, none⟩) := hd _ (List.mem_cons_self ..)
                  have hcell := hw.c256
                  have HW := Lib.hid hw
                  clear hw hd
                  simp only [Rg.step, Rg.all, Act.put, List.setIfInBounds_toArray, List.set_cons_zero, List.set_cons_succ]
                  go_simp
                  first | exact ⟨rfl, HW.out, Below.refl _ _⟩ | exact ⟨HW.out, Below.refl _ _⟩
                · intro fv u hw hd
                  have HW := Lib.hid hw
                  clear hw hd
                  simp only [Rg.step, Rg.all, Act.put, List.setIfInBounds_toArray, List.set_cons_zero, List.set_cons_succ]
                  go_simp
                  first | exact ⟨rfl, HW.out, Below.refl _ _⟩ | exact ⟨HW.out, Below.refl _ _⟩
                · intro fv u hw hd
                  have e11 : fv 11 = .pointer (some ⟨pb, 1, none⟩) := hd _ (List.mem_cons_self ..)
                  have hcell := hw.m1
                  have HW := Lib.hid hw
                  clear hw hd
                  simp only [Rg.step, Rg.all, Act.put, List.setIfInBounds_toArray, List.set_cons_zero, List.set_cons_succ]
                  go_simp
                  first | exact ⟨rfl, HW.out, Below.refl _ _⟩ | exact ⟨HW.out, Below.refl _ _⟩
                · intro fv u hw hd
                  have e10 : fv 10 = .slice (some pa) N.length q1 := hd _ (List.mem_cons_self ..)
                  have e12 : fv 12 = .int .i64 nb := hd _ (List.mem_cons_of_mem _ (List.mem_cons_self ..))
                  have HW := Lib.hid hw
                  clear hw hd
                  simp only [Rg.step, Rg.all, Act.put, List.setIfInBounds_toArray, List.set_cons_zero, List.set_cons_succ]
                  go_simp
                  first | exact ⟨rfl, HW.out, Below.refl _ _⟩ | exact ⟨HW.out, Below.refl _ _⟩
                · intro fv u hw hd
                  have e13 : fv 13 = .pointer (some (pa.add nb)) := hd _ (List.mem_cons_self ..)
                  have hcell := hw.nb'
                  have HW := Lib.hid hw
                  clear hw hd
                  simp only [Rg.step, Rg.all, Act.put, List.setIfInBounds_toArray, List.set_cons_zero, List.set_cons_succ]
                  go_simp
                  first | exact ⟨rfl, HW.out, Below.refl _ _⟩ | exact ⟨HW.out, Below.refl _ _⟩
                · intro fv u hw hd
                  have HW := Lib.hid hw
                  clear hw hd
                  simp only [Rg.step, Rg.all, Act.put, List.setIfInBounds_toArray, List.set_cons_zero, List.set_cons_succ]
                  go_simp
                  first | exact ⟨rfl, HW.out, Below.refl _ _⟩ | exact ⟨HW.out, Below.refl _ _⟩
                · intro fv u hw hd
                  have e14 : fv 14 = .slice (some rb) wd c6 := hd _ (List.mem_cons_self ..)
                  have e15 : fv 15 = .int .i64 c := hd _ (List.mem_cons_of_mem _ (List.mem_cons_self ..))
                  have HW := Lib.hid hw
                  clear hw hd
                  simp only [Rg.step, Rg.all, Act.put, List.setIfInBounds_toArray, List.set_cons_zero, List.set_cons_succ]
                  go_simp
                  first | exact ⟨rfl, HW.out, Below.refl _ _⟩ | exact ⟨HW.out, Below.refl _ _⟩
                · intro fv u hw hd
                  have e16 : fv 16 = .pointer (some (rb.add c)) := hd _ (List.mem_cons_self ..)
                  have hcell := hw.xb
                  have HW := Lib.hid hw
                  clear hw hd
                  simp only [Rg.step, Rg.all, Act.put, List.setIfInBounds_toArray, List.set_cons_zero, List.set_cons_succ]
                  go_simp
                  first | exact ⟨rfl, HW.out, Below.refl _ _⟩ | exact ⟨HW.out, Below.refl _ _⟩
                · intro fv u hw hd
                  have e8 : fv 8 = .int .i64 x := hd _ (List.mem_cons_self ..)
                  have e17 : fv 17 = .int .i64 y := hd _ (List.mem_cons_of_mem _ (List.mem_cons_self ..))
                  have HW := Lib.hid hw
                  clear hw hd
                  simp only [Rg.step, Rg.all, Act.put, List.setIfInBounds_toArray, List.set_cons_zero, List.set_cons_succ]
                  go_simp
                  first | exact ⟨rfl, HW.out, Below.refl _ _⟩ | exact ⟨HW.out, Below.refl _ _⟩
                · intro fv u hw hd
                  have HW := Lib.hid hw
                  clear hw hd
                  simp only [Rg.step, Rg.all, Act.put, List.setIfInBounds_toArray, List.set_cons_zero, List.set_cons_succ]
                  go_simp
                  exact ⟨⟨u.heap.size, rfl, HW.out.bel.size, heap_alloc_new u _⟩, HW.out.up (Bs.below1 u _), Bs.below1 u _⟩
                · intro fv u hw hR o ho
                  obtain ⟨qb, r19, hqb, hpq⟩ := (show ∃ b, fv 19 = .pointer (some ⟨b, 0, none⟩) ∧ wr.heap.size ≤ b ∧ Ls.PB u b (0, 0) from hR 19 (by decide))
                  have r18 : fv 18 = .agg #[.int .i64 x, .int .i64 y] := hR 18 (by decide)
                  simp at ho
                  subst ho
                  simp only [Rg.step, Rg.all, Act.put, List.setIfInBounds_toArray, List.set_cons_zero, List.set_cons_succ]
                  have HBU := Lib.hid hw.bel
                  have HPQ := Lib.hid hpq
                  clear hw hR hpq HQ
                  obtain ⟨z0, z1⟩ := HPQ.out.cells
                  simp only at z0 z1
                  have f0 := HPQ.out.frz 0
                  have f1 := HPQ.out.frz 1
                  have HBU2 := Lib.hid ((HBU.out.setCell (p := ⟨qb, 0, none⟩) hqb (.int .i64 x)).setCell (p := ⟨qb, 1, none⟩) hqb (.int .i64 y))
                  have HPQ2 := Lib.hid (HPQ.out.set2 x y)
                  go_simp
                  clear z0 z1 f0 f1 r18 r19 HPQ HBU
                  generalize (u.setCell ⟨qb, 0, none⟩ (.int .i64 x)).setCell ⟨qb, 1, none⟩ (.int .i64 y) = U6 at *
                  have HL6 := Lib.hid (HL.out.up HBU2.out)
                  have HP6 := Lib.hid (HP.out.up HBU2.out)
                  have hpbw : pb < wr.heap.size := HP.out.lt
                  have hqm : qb ≠ W.heap.size := by have := HL.out.bu; omega
                  have hws : wr.heap.size ≤ U6.heap.size := HBU2.out.size
                  obtain ⟨z0, z1⟩ := HPQ2.out.cells
                  simp only at z0 z1
                  have hw5 : IntKind.i64.wrap ((c : Int) + 1) = ((c + 1 : Nat) : Int) := by rw [IntWalk.i64_in _ (by omega)]; omega
                  by_cases hmem : (x, y) ∈ L'
                  · have hd : decide ((x, y) ∈ L') = true := decide_eq_true hmem
                    go_wp2_with (first
                      | (at_lookup; refine Ls.look HL6.out.pm rfl _ _ rfl rfl (x, y) hsxy rfl ?_))
                    go_roundg (gk - 1)
                    case measure => omega
                    exact ⟨L', c + 1, by omega, by first | rfl | go_num, HI, HLK, Lib.hid (fun d hd2 => by
                      by_cases e : d = c
                      · rw [e, HXY.out.1, HXY.out.2]; exact hmem
                      · exact HGO.out d (by omega)), HL6, HP6, HOB⟩
                  · have hd : decide ((x, y) ∈ L') = false := decide_eq_false hmem
                    have hLsm := HI.out.sm (by omega)
                    have hLl : L'.length ≤ 501 * 501 := Nat.le_trans (Ls.bound HI.out.nd HI.out.rng) (Nat.mul_le_mul (by omega) (by omega))
                    have hLl2 : L'.length < 1000000 := by omega
                    have hLl3 : L'.length ≤ 1000000 := by omega
                    have HPRE := Lib.hid (fun (w1 : World) (hg : U6.grownBy w1 (some W.heap.size)) => (show w1.cell? ⟨qb, 0, none⟩ = some (.int .i64 x) ∧ w1.cell? ⟨qb, 1, none⟩ = some (.int .i64 y) ∧ Ls.Own base u8 L' (w1.alloc (.cells #[.int .i64 x, .int .i64 y] 79)) ∧ base ≤ (w1.alloc (.cells #[.int .i64 x, .int .i64 y] 79)).heap.size from by
                      have bx := Bs.below1 w1 (.cells #[.int .i64 x, .int .i64 y] 79)
                      have h1 := (HPQ2.out.kept hg (by simpa using hqm)).cells
                      refine ⟨h1.1, h1.2, ?_, ?_⟩
                      · refine Ls.Own.up ?_ bx
                        refine World.ownsRow.kept HL6.out.own hg (.inr fun e => ?_)
                        have := (World.ownsRow.lt HL6.out.own _ e).1
                        have := HL6.out.mb'
                        omega
                      · have := HL6.out.bu
                        have := hg.size
                        have := bx.size
                        omega))
                    go_wp2_with (first
                      | (at_lookup; refine Ls.look HL6.out.pm rfl _ _ rfl rfl (x, y) hsxy rfl ?_)
                      | (at_mapUpdate; refine Ls.put HL6.out.pm rfl _ _ _ (.inl rfl) rfl rfl (x, y) hsxy hLsm hLl2 rfl ?_; intro w1 hpm1 hgr1; have e0 := (HPRE.out w1 hgr1).1; have e1 := (HPRE.out w1 hgr1).2.1; have hO8 := (HPRE.out w1 hgr1).2.2.1; have hb8 := (HPRE.out w1 hgr1).2.2.2)
                      | (at_builtin; refine Ls.append rfl _ _ rfl base _ L' rfl hO8 w1.heap.size 1 (x, y) rfl (heap_alloc_new w1 _) hLl3 hb8 ?_; intro g9 cap9 w9 O9 gr9 n9))
                    have hg9 : (w1.alloc (.cells #[.int .i64 x, .int .i64 y] 79)).grownBy w9 u8.ownBlock := gr9
                    have hn9 : u8.ownBlock = some g9 ∨ g9 = (w1.alloc (.cells #[.int .i64 x, .int .i64 y] 79)).heap.size := n9
                    clear gr9 n9
                    have bx := Bs.below1 w1 (.cells #[.int .i64 x, .int .i64 y] 79)
                    have hown := World.ownsRow.lt hO8
                    have hmb9 := HL6.out.mb'
                    have hs1 := hgr1.size
                    have hs2 := bx.size
                    have hs3 := hg9.size
                    have hI9 := HI.out.add (q := (x, y)) ⟨⟨x1, x2⟩, y1, y2⟩ hmem
                    have hP9 : Ls.PB w9 pb ((na : Int), (nb : Int)) := ((HP6.out.kept hgr1 (by simpa using hpm)).up bx).kept hg9 (fun e => HOB.out pb e.symm rfl)
                    have hA9 : Ls.AL W W.heap.size base (.slice (some ⟨g9, 0, none⟩) (L'.length + 1) cap9) (L' ++ [(x, y)]) w9 := by
                      refine ⟨?_, ?_, O9, Nat.le_refl _, hmb9, by have := HL6.out.bu; omega⟩
                      · have b1 := HL6.out.bel.grown hgr1 HL6.out.bel.size (fun k hk => by injection hk with hk; omega)
                        have b2 := b1.trans (bx.mono b1.size)
                        exact b2.grown hg9 b2.size (fun k hk => by have := (hown k hk).1; omega)
                      · exact (hpm1.up bx).kept hg9 (fun e => by have := (hown _ e.symm).1; omega)
                    go_roundg (gk - 1)
                    case measure => omega
                    refine ⟨L' ++ [(x, y)], c + 1, by omega, by first | rfl | go_num, Lib.hid hI9, Lib.hid ?_, Lib.hid ?_, Lib.hid hA9, Lib.hid hP9, Lib.hid ?_⟩
                    · have hkL := (List.getElem?_eq_some_iff.1 HLK.out).1
                      rw [List.getElem?_append_left hkL]
                      exact HLK.out
                    · intro d hd2
                      by_cases e : d = c
                      · rw [e, HXY.out.1, HXY.out.2]; simp
                      · have := HGO.out d (by omega)
                        simp [this]
                    · intro q hq
                      simp only [Value.ownBlock] at hq
                      injection hq with hq
                      subst hq
                      rcases hn9 with h9 | h9
                      · exact HOB.out _ h9
                      · omega
          · have d5 : (r1 != r2) = true := by simpa using hre
            go_quiet (fail)
            go_wp2_with fail
            go_ret
            exact ⟨rfl, below_drewN HB4.out _⟩
end Go.Proofs.Ythapedadnbkgnaa
