/- The law DfaLeast, plain: what is come to, what lives, round by round. The law DfaLeast, walked. -/
import Derived.Test.YthapedadnbkgnaaG32
import Derived.Test.YthapedadnbkgnaaG31
import Derived.Deep.OwnRows
namespace Go.Proofs.Ythapedadnbkgnaa
set_option linter.unusedVariables false
set_option linter.unusedSimpArgs false
namespace Ls
def upd (V : Nat → Bool) (i : Nat) (x : Bool) : Nat → Bool := fun j => if j = i then x else V j
def cnt (n : Nat) (V : Nat → Bool) : Nat := (List.range n).countP V
theorem cnt_le (n : Nat) (V : Nat → Bool) : cnt n V ≤ n := by
  have := List.countP_le_length (p := V) (l := List.range n)
  simpa [cnt] using this
theorem cnt_congr {n : Nat} {V V' : Nat → Bool} (h : ∀ j, j < n → V' j = V j) : cnt n V' = cnt n V := by
  unfold cnt
  exact List.countP_congr fun x hx => by rw [h x (List.mem_range.1 hx)]
theorem cnt_lt {n : Nat} {V : Nat → Bool} {i : Nat} (hi : i < n) (hV : V i = false) : cnt n V < cnt n (upd V i true) := by
  unfold cnt
  refine Rg.count_lt (x := i) (List.mem_range.2 hi) (fun k _ hk => ?_) (by simp [upd]) hV
  unfold upd
  split
  · rfl
  · exact hk
theorem cnt_all {n : Nat} {V : Nat → Bool} (h : n ≤ cnt n V) : ∀ j, j < n → V j = true := by
  intro j hj
  cases e : V j
  · have := cnt_lt hj e
    have := cnt_le n (upd V j true)
    omega
  · rfl
variable {N : List (List Int)} {R : List Int} {wide n : Nat}
def Done (N : List (List Int)) (R : List Int) (wide : Nat) (V0 : Nat → Bool) (i : Nat) (b : Bool) (c : Nat) : Prop :=
  (∀ i', i' < i → (0 ≤ R.getD i' 0 → V0 i' = true) ∧ ∀ k (t : Nat), k < wide → Df.go N i' k = t → V0 t = true → V0 i' = true) ∧
  (b = true → 0 ≤ R.getD i 0 → V0 i = true) ∧ ∀ k (t : Nat), k < c → Df.go N i k = t → V0 t = true → V0 i = true
structure VI (N : List (List Int)) (R : List Int) (wide n : Nat) (V0 V : Nat → Bool) (i : Nat) (b : Bool) (c : Nat) : Prop where
  shut : Df.Shut N R wide (fun j => V0 j = true) → ∀ j, j < n → V j = V0 j
  alt : cnt n V0 < cnt n V ∨ ((∀ j, j < n → V j = V0 j) ∧ Done N R wide V0 i b c)
theorem VI.put {V0 V : Nat → Bool} {i : Nat} {b : Bool} {c : Nat} (h : VI N R wide n V0 V i b c) (hi : i < n) (x : Bool) (b' : Bool) (c' : Nat)
    (hr : Df.Shut N R wide (fun j => V0 j = true) → (∀ j, j < n → V j = V0 j) → x = true → V0 i = true)
    (hd : (∀ j, j < n → V j = V0 j) → (x = true → V0 i = true) → Done N R wide V0 i b c → Done N R wide V0 i b' c') : VI N R wide n V0 (upd V i (V i || x)) i b' c' := by
  by_cases hs : V i = true ∨ x = false
  · have hsame : ∀ j, upd V i (V i || x) j = V j := fun j => by
      unfold upd
      split
      · rename_i e
        subst e
        rcases hs with hs | hs
        · rw [hs, Bool.true_or]
        · rw [hs, Bool.or_false]
      · rfl
    refine ⟨fun hh j hj => by rw [hsame]; exact h.shut hh j hj, ?_⟩
    rcases h.alt with h1 | ⟨h1, h2⟩
    · exact .inl (by rw [cnt_congr fun j _ => hsame j]; exact h1)
    · refine .inr ⟨fun j hj => by rw [hsame]; exact h1 j hj, hd h1 (fun hx => ?_) h2⟩
      rcases hs with hs | hs
      · rw [← h1 i hi]; exact hs
      · rw [hs] at hx; simp at hx
  · have hV : V i = false := by
      cases e : V i
      · rfl
      · exact absurd (.inl e) hs
    have hx : x = true := by
      cases e : x
      · exact absurd (.inr e) hs
      · rfl
    have e : upd V i (V i || x) = upd V i true := by rw [hx, Bool.or_true]
    rw [e]
    have hlt := cnt_lt hi hV
    refine ⟨fun hh => ?_, .inl ?_⟩
    · have h1 := h.shut hh
      have h2 := hr hh h1 hx
      rw [← h1 i hi, hV] at h2
      simp at h2
    · rcases h.alt with h1 | ⟨h1, _⟩
      · omega
      · rw [cnt_congr h1] at hlt
        exact hlt
theorem vi_start (V : Nat → Bool) : VI N R wide n V V 0 false 0 := ⟨fun _ _ _ => rfl, .inr ⟨fun _ _ => rfl, fun i' hi => by omega, fun h => by simp at h, fun k t hk => by omega⟩⟩
theorem VI.row {V0 V : Nat → Bool} {i : Nat} (h : VI N R wide n V0 V i true wide) : VI N R wide n V0 V (i + 1) false 0 := by
  refine ⟨h.shut, ?_⟩
  rcases h.alt with h1 | ⟨h1, h2, h3, h4⟩
  · exact .inl h1
  · refine .inr ⟨h1, fun i' hi => ?_, fun h => by simp at h, fun k t hk => by omega⟩
    by_cases e : i' = i
    · subst e
      exact ⟨h3 rfl, h4⟩
    · exact h2 i' (by omega)
theorem VI.round {V0 V : Nat → Bool} (h : VI N R wide n V0 V n false 0) (hn : N.length = n) {r : Nat} (h0 : Df.Shut N R wide (fun j => V0 j = true) ∨ r ≤ cnt n V0) (hgo : ∀ i k, i < n → k < wide → Df.go N i k < n) : Df.Shut N R wide (fun j => V j = true) ∨ r + 1 ≤ cnt n V := by
  have key : (∀ j, j < n → V j = V0 j) → Df.Shut N R wide (fun j => V0 j = true) → Df.Shut N R wide (fun j => V j = true) := fun he hs => by
    refine ⟨fun i hi hr => ?_, fun i k j hi hk hj hL => ?_⟩
    · rw [he i (by omega)]; exact hs.rule i hi hr
    · have := hgo i k (by omega) hk
      rw [he i (by omega)]
      exact hs.step i k j hi hk hj (by rw [← he j (by omega)]; exact hL)
  rcases h0 with h0 | h0
  · exact .inl (key (h.shut h0) h0)
  · rcases h.alt with h1 | ⟨h1, h2, _⟩
    · exact .inr (by omega)
    · refine .inl (key h1 ⟨fun i hi hr => (h2 i (by omega)).1 hr, fun i k j hi hk hj hL => (h2 i (by omega)).2 k j hk hj hL⟩)
structure CI (N : List (List Int)) (wide : Nat) (C : Nat → Bool) (i c : Nat) : Prop where
  zero : C 0 = true
  rows : ∀ i', i' < i → ∀ k (t : Nat), k < wide → Df.go N i' k = t → C t = true
  now : ∀ k (t : Nat), k < c → Df.go N i k = t → C t = true
theorem CI.row {C : Nat → Bool} {i : Nat} (h : CI N wide C i wide) : CI N wide C (i + 1) 0 := ⟨h.zero, fun i' hi k t hk ht => by
  by_cases e : i' = i
  · subst e; exact h.now k t hk ht
  · exact h.rows i' (by omega) k t hk ht, fun k t hk => by omega⟩
theorem CI.put {C : Nat → Bool} {i c : Nat} (h : CI N wide C i c) {t : Nat} (ht : Df.go N i c = t) (hC : C i = true) : CI N wide (upd C t (C t || C i)) i (c + 1) := by
  have hup : ∀ j, C j = true → upd C t (C t || C i) j = true := fun j hj => by
    unfold upd
    split
    · rw [hC, Bool.or_true]
    · exact hj
  refine ⟨hup _ h.zero, fun i' hi k t' hk ht' => hup _ (h.rows i' hi k t' hk ht'), fun k t' hk ht' => ?_⟩
  by_cases e : k = c
  · subst e
    have e2 : t' = t := by
      have : (t' : Int) = (t : Int) := by rw [← ht', ht]
      omega
    subst e2
    unfold upd
    rw [if_pos rfl, hC, Bool.or_true]
  · exact hup _ (h.now k t' (by omega) ht')
theorem CI.skip {C : Nat → Bool} {i c : Nat} (h : CI N wide C i c) (ht : Df.go N i c < 0) : CI N wide C i (c + 1) := ⟨h.zero, h.rows, fun k t hk ht' => by
  by_cases e : k = c
  · subst e; omega
  · exact h.now k t (by omega) ht'⟩
theorem VI.skip {V0 V : Nat → Bool} {i c : Nat} (h : VI N R wide n V0 V i true c) (ht : Df.go N i c < 0) : VI N R wide n V0 V i true (c + 1) := by
  refine ⟨h.shut, ?_⟩
  rcases h.alt with h1 | ⟨h1, h2, h3, h4⟩
  · exact .inl h1
  · refine .inr ⟨h1, h2, h3, fun k t hk ht' => ?_⟩
    by_cases e : k = c
    · subst e; omega
    · exact h4 k t (by omega) ht'
theorem CI.all {l : List Rx} {F : List Df.Fr} {nx : List (List Nat)} {r p : List Int} {st : Nat} {S : List Nat} (h : Df.Plan l F nx r p st S) {C : Nat → Bool} {i : Nat} (hc : CI (Df.tN p nx S) (Df.by_ l).length C i 0) {j : Nat} (hj : j < S.length) (hji : j ≤ i) : C j = true := by
  by_cases e : j = 0
  · subst e; exact hc.zero
  · obtain ⟨i', hi, k, hk, hg⟩ := h.par hj (by omega)
    exact hc.rows i' (by omega) k j hk hg
end Ls
end Go.Proofs.Ythapedadnbkgnaa
namespace Go.Proofs.Ythapedadnbkgnaa
set_option linter.unusedVariables false
set_option linter.unusedSimpArgs false
open Go.RowKit
structure Ls.TW (w : World) (b7 b9 : Nat) (x y : Rx) (k1 : Nat) (f1 : Nat → Bool) (a1 : Option Addr) (n1 c1 : Nat) (k2 : Nat) (f2 : Nat → Bool) (a2 : Option Addr) (n2 c2 : Nat) (u : World) : Prop where
  nx : Rx.Nod u b7 k1 f1 a1 n1 c1
  ny : Rx.Nod u b9 k2 f2 a2 n2 c2
  ix : Rx.Is u x (Rx.hdr k1 f1 a1 n1 c1)
  iy : Rx.Is u y (Rx.hdr k2 f2 a2 n2 c2)
  bel : Below w.heap.size w u
theorem Ls.TW.up {w : World} {b7 b9 : Nat} {x y : Rx} {k1 : Nat} {f1 : Nat → Bool} {a1 : Option Addr} {n1 c1 : Nat} {k2 : Nat} {f2 : Nat → Bool} {a2 : Option Addr} {n2 c2 : Nat} {u u' : World} (h : Ls.TW w b7 b9 x y k1 f1 a1 n1 c1 k2 f2 a2 n2 c2 u) (hb : Below u.heap.size u u') : Ls.TW w b7 b9 x y k1 f1 a1 n1 c1 k2 f2 a2 n2 c2 u' :=
  ⟨h.nx.up hb, h.ny.up hb, h.ix.up hb, h.iy.up hb, Bs.below_up h.bel hb⟩
theorem Ls.infoBool : (Try.prog.info? 4).map (fun i => (i.zero, i.size, i.bytes)) = some (some (.bool false), 1, 1) := by kernel_rfl
structure Ls.RW (w0 : World) (cb lb n : Nat) (C V : Nat → Bool) (u : World) : Prop where
  bel : Below w0.heap.size w0 u
  rc : u.rowIs cb 4 n (fun i => .bool (C i))
  rl : u.rowIs lb 4 n (fun i => .bool (V i))
theorem Ls.rw_c {w0 : World} {cb lb n : Nat} {C V : Nat → Bool} {u : World} (h : Ls.RW w0 cb lb n C V u) (h1 : w0.heap.size ≤ cb) (h3 : cb ≠ lb) (i : Nat) (x : Bool) : Ls.RW w0 cb lb n (Ls.upd C i x) V (u.setCell ⟨cb, i, none⟩ (.bool x)) :=
  ⟨h.bel.setCell h1 _, (h.rc.set i (.bool x)).congr (fun j _ => by unfold Ls.upd; split <;> rfl), h.rl.setOther (by simpa using h3.symm) _⟩
theorem Ls.rw_l {w0 : World} {cb lb n : Nat} {C V : Nat → Bool} {u : World} (h : Ls.RW w0 cb lb n C V u) (h1 : w0.heap.size ≤ lb) (h3 : cb ≠ lb) (i : Nat) (x : Bool) : Ls.RW w0 cb lb n C (Ls.upd V i x) (u.setCell ⟨lb, i, none⟩ (.bool x)) :=
  ⟨h.bel.setCell h1 _, h.rc.setOther (by simpa using h3) _, (h.rl.set i (.bool x)).congr (fun j _ => by unfold Ls.upd; split <;> rfl)⟩
theorem Ls.made2 (W : World) (n : Nat) : Ls.RW W W.heap.size (W.heap.size + 1) n (fun _ => false) (fun _ => false) ((W.alloc (.cells (madeCells #[.bool false] n) 4)).alloc (.cells (madeCells #[.bool false] n) 4)).drew ∧ Ls.RW W (W.heap.size + 1) W.heap.size n (fun _ => false) (fun _ => false) ((W.alloc (.cells (madeCells #[.bool false] n) 4)).alloc (.cells (madeCells #[.bool false] n) 4)).drew := by
  have r1 := (World.rowIs_made W (.bool false) n 4).alloc (.cells (madeCells #[.bool false] n) 4)
  have r2 := World.rowIs_made (W.alloc (.cells (madeCells #[.bool false] n) 4)) (.bool false) n 4
  rw [show (W.alloc (.cells (madeCells #[.bool false] n) 4)).heap.size = W.heap.size + 1 by simp] at r2
  have hb := Below.drew (Bs.below_up (Bs.below1 W (.cells (madeCells #[.bool false] n) 4)) (Bs.below1 _ (.cells (madeCells #[.bool false] n) 4)))
  exact ⟨⟨hb, r1.drew, r2.drew⟩, ⟨hb, r2.drew, r1.drew⟩⟩
set_option maxRecDepth 100000 in
set_option maxHeartbeats 8000000 in
theorem dfaLeastLaw_any (a b : ByteArray) (ha : a.size ≤ maxLen) (hb9 : b.size ≤ maxLen) (w : World) : Calls Try.prog 3 #[.string a, .string b] w (Bs.BPost w true) := by
  have HMA := Lib.hid ha
  have HMB := Lib.hid hb9
  clear ha hb9
  have AL := Lib.hid (alive8_any w)
  go_enter Try.func3, Try.ntmps3
  go_wp2_with fail
  refine AL.out.mono ?_
  rintro e w1 ⟨rfl, A1⟩
  clear AL
  have P := Lib.hid (Parse_any a HMA.out w1)
  go_wp2_with fail
  refine P.out.mono ?_
  rintro e v1 ⟨_, y1, rfl, hy, h1, h2, hb⟩
  obtain ⟨k1, f1, a1, n1, c1, rfl⟩ := hy.form
  have B := Bs.below1 v1 (.cells #[.int .u8 k1, .int .u64 (Bs.word f1 0), .int .u64 (Bs.word f1 1), .int .u64 (Bs.word f1 2), .int .u64 (Bs.word f1 3), .slice a1 n1 c1] 28)
  have A2 := Bs.below_up (Bs.below_up A1 hb) B
  have N1 := Rx.nod_new v1 k1 f1 a1 n1 c1
  have X1 := hy.is.up B
  have H1 := Lib.hid h1
  clear B hy h1 h2 P hb A1
  unfold Rx.hdr
  obtain ⟨cd1, hcd1⟩ : ∃ c, Px.code a = c := ⟨_, rfl⟩
  rw [hcd1] at H1 ⊢
  clear hcd1
  go_wp2_with fail
  generalize v1.alloc (.cells #[.int .u8 k1, .int .u64 (Bs.word f1 0), .int .u64 (Bs.word f1 1), .int .u64 (Bs.word f1 2), .int .u64 (Bs.word f1 3), .slice a1 n1 c1] 28) = W1 at *
  generalize v1.heap.size = b1 at *
  have P := Lib.hid (Parse_any b HMB.out W1)
  refine P.out.mono ?_
  rintro e v2 ⟨_, y2, rfl, hy, h1, h2, hb⟩
  obtain ⟨k2, f2, a2, n2, c2, rfl⟩ := hy.form
  have B := Bs.below1 v2 (.cells #[.int .u8 k2, .int .u64 (Bs.word f2 0), .int .u64 (Bs.word f2 1), .int .u64 (Bs.word f2 2), .int .u64 (Bs.word f2 3), .slice a2 n2 c2] 28)
  have hbb := Bs.below_up hb B
  have TW0 : Hid (Ls.TW w b1 v2.heap.size y1 y2 k1 f1 a1 n1 c1 k2 f2 a2 n2 c2 (v2.alloc (.cells #[.int .u8 k2, .int .u64 (Bs.word f2 0), .int .u64 (Bs.word f2 1), .int .u64 (Bs.word f2 2), .int .u64 (Bs.word f2 3), .slice a2 n2 c2] 28))) := Lib.hid ⟨N1.up hbb, Rx.nod_new v2 k2 f2 a2 n2 c2, X1.up hbb, hy.is.up B, Bs.below_up A2 hbb⟩
  have H2 := Lib.hid h1
  clear B hy h1 h2 P hb A2 hbb N1 X1
  unfold Rx.hdr
  obtain ⟨cd2, hcd2⟩ : ∃ c, Px.code b = c := ⟨_, rfl⟩
  rw [hcd2] at H2 ⊢
  clear hcd2
  by_cases hz1 : cd1 = 0
  rotate_left
  · have e3 : (cd1 != 0) = true := by simp [hz1]
    go_wp2_with fail
    go_ret
    exact ⟨rfl, TW0.out.bel⟩
  subst hz1
  by_cases hz2 : cd2 = 0
  rotate_left
  · have e3 : (cd2 != 0) = true := by simp [hz2]
    go_wp2_with fail
    go_ret
    exact ⟨rfl, TW0.out.bel⟩
  subst hz2
  have M1 := Lib.hid (H1.out rfl).2
  have M2 := Lib.hid (H2.out rfl).2
  have c0 := TW0.out.nx.cell.c0; have c1' := TW0.out.nx.cell.c1; have c2' := TW0.out.nx.cell.c2; have c3 := TW0.out.nx.cell.c3; have c4 := TW0.out.nx.cell.c4; have c5 := TW0.out.nx.cell.c5
  have d0 := TW0.out.ny.cell.c0; have d1 := TW0.out.ny.cell.c1; have d2 := TW0.out.ny.cell.c2; have d3 := TW0.out.ny.cell.c3; have d4 := TW0.out.ny.cell.c4; have d5 := TW0.out.ny.cell.c5
  simp only [Nat.zero_add] at c0 c1' c2' c3 c4 c5 d0 d1 d2 d3 d4 d5
  clear H1 H2
  go_upto_region 5 with fail
  generalize v2.alloc (.cells #[.int .u8 k2, .int .u64 (Bs.word f2 0), .int .u64 (Bs.word f2 1), .int .u64 (Bs.word f2 2), .int .u64 (Bs.word f2 3), .slice a2 n2 c2] 28) = W2 at *
  generalize v2.heap.size = b2 at *
  have B3 := Bs.below1 W2 (.cells #[.int .u8 k1, .int .u64 (Bs.word f1 0), .int .u64 (Bs.word f1 1), .int .u64 (Bs.word f1 2), .int .u64 (Bs.word f1 3), .slice a1 n1 c1, .int .u8 k2, .int .u64 (Bs.word f2 0), .int .u64 (Bs.word f2 1), .int .u64 (Bs.word f2 2), .int .u64 (Bs.word f2 3), .slice a2 n2 c2] 28)
  have G := Lib.hid (great_any [y1, y2] (by simp [maxLen]) (some ⟨W2.heap.size, 0, none⟩) 2 _ (Ng.two_in TW0.out.ix TW0.out.iy))
  have TW1 := Lib.hid (TW0.out.up B3)
  clear B3 TW0
  go_wp2_with fail
  refine G.out.mono ?_
  rintro e w4 ⟨rfl, b4⟩
  have TW2 := Lib.hid (TW1.out.up b4)
  clear G b4 TW1 c0 c1' c2' c3 c4 c5 d0 d1 d2 d3 d4 d5
  cases hg : Ng.great [y1, y2]
  rotate_left
  · go_wp2_with fail
    go_ret
    exact ⟨rfl, TW2.out.bel⟩
  have HCO := Lib.hid (show Ng.code [y1, y2] = 0 by
    have m1 := M1.out
    have m2 := M2.out
    have s1 := (Rx.may_iff.1 m1).2.2
    have s2 := (Rx.may_iff.1 m2).2.2
    have hs : Rx.sizeL [y1, y2] ≤ 2000 := by simp only [Rx.sizeL]; omega
    simp [Ng.code, m1, m2]
    omega)
  clear hg
  have c0 := TW2.out.nx.cell.c0; have c1' := TW2.out.nx.cell.c1; have c2' := TW2.out.nx.cell.c2; have c3 := TW2.out.nx.cell.c3; have c4 := TW2.out.nx.cell.c4; have c5 := TW2.out.nx.cell.c5
  have d0 := TW2.out.ny.cell.c0; have d1 := TW2.out.ny.cell.c1; have d2 := TW2.out.ny.cell.c2; have d3 := TW2.out.ny.cell.c3; have d4 := TW2.out.ny.cell.c4; have d5 := TW2.out.ny.cell.c5
  simp only [Nat.zero_add] at c0 c1' c2' c3 c4 c5 d0 d1 d2 d3 d4 d5
  have B3 := Bs.below1 w4 (.cells #[.int .u8 k1, .int .u64 (Bs.word f1 0), .int .u64 (Bs.word f1 1), .int .u64 (Bs.word f1 2), .int .u64 (Bs.word f1 3), .slice a1 n1 c1, .int .u8 k2, .int .u64 (Bs.word f2 0), .int .u64 (Bs.word f2 1), .int .u64 (Bs.word f2 2), .int .u64 (Bs.word f2 3), .slice a2 n2 c2] 28)
  have C := Lib.hid (build_any [y1, y2] (by simp) (some ⟨w4.heap.size, 0, none⟩) 2 _ (Ng.two_in TW2.out.ix TW2.out.iy))
  have HA3 := Lib.hid (Bs.below_up TW2.out.bel B3)
  clear B3 TW2
  go_wp2_with fail
  refine C.out.mono ?_
  rintro e w5 hpo
  obtain ⟨r, rfl, MC, b5⟩ := Ng.build_yes hpo HCO.out
  have C1 := Lib.hid (buildD_any w5 _ r _ MC)
  have HA4 := Lib.hid (Bs.below_up HA3.out b5)
  have zz := Df.zero258.1
  clear C MC hpo b5 c0 c1' c2' c3 c4 c5 d0 d1 d2 d3 d4 d5 HA3
  go_wp2_with fail
  refine C1.out.mono ?_
  rintro e w6 hpo
  have HZ := Lib.hid (heap_alloc_new w6 (.cells Df.zT 40))
  rcases hpo with ⟨v, F, nx, p, st, S, rfl, tv, bel, pl⟩ | ⟨rfl, bel, hno⟩
  rotate_left
  · have HZI := Lib.hid (show (Try.prog.info? 40).map (·.size) = some Df.zT.size by rw [Df.zT_size]; exact Df.zero258.2)
    have HZO := Lib.hid (show Df.zT.all (·.oneCell') = true by unfold Df.zT Bs.zeros; rw [Array.all_append, Bs.arr_one]; simp [Value.oneCell'])
    have hb := Df.below_row (Bs.below1 w6 (.cells Df.zT 40)) (Nat.le_refl _) Df.zT
    have A := Bs.below_up (Bs.below_up HA4.out bel) hb
    clear C1 bel hb hno
    generalize Df.zT = D at *
    go_wp2_with (first
      | (refine wpList_store_row rfl 40 _ _ rfl w6.heap.size D rfl rfl 40 D HZ.out HZI.out rfl HZO.out ?_))
    go_ret
    exact ⟨rfl, A⟩
  obtain ⟨D, rfl, hDs, hDo⟩ := tv.cells
  have HPL := Lib.hid pl
  have HRT := Lib.hid pl.rtg
  have HDI := Lib.hid (show (Try.prog.info? 40).map (·.size) = some D.size by rw [hDs]; exact Df.zero258.2)
  have HDO := Lib.hid hDo
  have HDS := Lib.hid hDs
  have hb := Df.below_row (Bs.below1 w6 (.cells Df.zT 40)) (Nat.le_refl _) D
  have HA := Lib.hid (show Df.AW w w6.heap.size D (Df.kg [y1, y2]) (Df.tN p nx S) (Df.tR (Df.rl F) S) ((w6.alloc (.cells Df.zT 40)).setRow w6.heap.size D) from ⟨setRow_heap _ _ _ _ _ _ HZ.out, tv.up hb, Bs.below_up (Bs.below_up HA4.out bel) hb⟩)
  clear C1 tv bel pl hDs hDo hb HA4 M1 M2
  go_upto_region 9 with (first
    | (refine wpList_store_row rfl 40 _ _ rfl w6.heap.size D rfl rfl 40 Df.zT HZ.out HDI.out (by rw [Df.zT_size, HDS.out]) HDO.out ?_))
  clear zz HZ
  generalize (w6.alloc (.cells Df.zT 40)).setRow w6.heap.size D = W at *
  generalize w6.heap.size = tb at *
  obtain ⟨t1, q1, rows, t2, q2, htp⟩ := Ls.tp_of HA.out.tv
  have HTP := Lib.hid htp
  have y256 := HA.out.cell htp.d1
  have y257 := HA.out.cell htp.d2
  have HLN := Lib.hid (show (Df.tN p nx S).length = S.length by simp [Df.tN])
  have HLR := Lib.hid (show (Df.tR (Df.rl F) S).length = S.length by simp [Df.tR])
  rw [HLN.out] at y256
  rw [HLR.out] at y257
  have hS0 : 0 < S.length := by obtain ⟨h0, _⟩ := HPL.out.s_zero; exact h0
  clear htp
  obtain ⟨n, hn⟩ : ∃ n, S.length = n := ⟨_, rfl⟩
  have HN := Lib.hid hn
  rw [hn] at y256 y257 hS0
  clear hn
  by_cases h30 : 30 < n
  · have e1 : decide ((n : Int) > 30) = true := decide_eq_true (by omega)
    have e2 : decide (30 < n) = true := decide_eq_true h30
    have e3 : decide ((30 : Int) < (n : Int)) = true := decide_eq_true (by omega)
    go_wp2_with fail
    go_ret
    exact ⟨rfl, HA.out.bel⟩
  have e1 : decide ((n : Int) > 30) = false := decide_eq_false (by omega)
  have e2 : decide (30 < n) = false := decide_eq_false h30
  have e3 : decide ((30 : Int) < (n : Int)) = false := decide_eq_false (by omega)
  have hmk := run_make_row' (P := Try.prog) 43 4 (.bool false) 1 Try.underlying43 Ls.infoBool rfl .i64 .i64 n (by omega) (by omega)
  go_upto_region 14 with fail
  go_cut [14, 15] (fun m s wx => ∃ cb lb : Nat, m = .slice (some ⟨cb, 0, none⟩) n n ∧ s = .slice (some ⟨lb, 0, none⟩) n n ∧ Hid (Ls.RW W cb lb n (fun _ => false) (fun _ => false) wx) ∧ Hid (W.heap.size ≤ cb ∧ W.heap.size ≤ lb ∧ cb ≠ lb))
  case first =>
    go_region
    all_goals go_wp2_with fail
    all_goals go_meet
    · exact ⟨W.heap.size, W.heap.size + 1, rfl, rfl, Lib.hid (Ls.made2 W n).1, Lib.hid ⟨by omega, by omega, by omega⟩⟩
    · exact ⟨W.heap.size + 1, W.heap.size, rfl, rfl, Lib.hid (Ls.made2 W n).2, Lib.hid ⟨by omega, by omega, by omega⟩⟩
  case rest =>
    clear hmk e1 e2 e3 HDO HDS HCO
    obtain ⟨cb, lb, rfl, rfl, HR, HB⟩ := hcut
    obtain ⟨hcw, hlw, hcl⟩ := HB.out
    obtain ⟨wd, hwd⟩ : ∃ k, (Df.by_ [y1, y2]).length = k := ⟨_, rfl⟩
    have HWB := Lib.hid hwd
    have HWD := Lib.hid (show ((Df.tN p nx S).getD 0 []).length = wd by rw [HPL.out.tlen (a := 0) (by rw [HN.out]; exact hS0), hwd])
    clear hwd
    have hwd6 : wd ≤ 256 := by have := (Df.by_len [y1, y2]).2; rw [HWB.out] at this; exact this
    have HGO := Lib.hid (fun i k (hi : i < n) (hk : k < wd) => show -1 ≤ Df.go (Df.tN p nx S) i k ∧ Df.go (Df.tN p nx S) i k < n from by
      obtain ⟨_, _, h1, h2⟩ := (Df.rt_of HRT.out).go (a := i) (k := k) (by rw [HLN.out, HN.out]; exact hi) (by rw [HWD.out]; exact hk)
      rw [HLN.out, HN.out] at h2
      exact ⟨h1, h2⟩)
    have z0 := HR.out.rc.cell hS0
    have f0 := HR.out.rc.frozen 0
    have hn0 : (0 : Int) < (n : Int) := by omega
    go_wp2_with fail
    have HR1 := Lib.hid (Ls.rw_c HR.out hcw hcl 0 true)
    clear z0 f0 HR
    go_loopg [16] n (fun gk v16 wr => ∃ (r : Nat) (C V : Nat → Bool), r + gk = n ∧ v16 = .int .i64 r ∧ Hid (Ls.RW W cb lb n C V wr) ∧ Hid (C 0 = true) ∧ Hid (1 ≤ r → ∀ j, j < n → C j = true) ∧ Hid (Df.Shut (Df.tN p nx S) (Df.tR (Df.rl F) S) wd (fun j => V j = true) ∨ r ≤ Ls.cnt n V))
    case atStart => exact ⟨0, _, _, by omega, rfl, HR1, Lib.hid (by simp [Ls.upd]), Lib.hid (fun h => by omega), Lib.hid (.inr (Nat.zero_le _))⟩
    case round =>
      clear HR1
      obtain ⟨r9, C0, V0, hr9, rfl, HR, HC0, HCA, HV0⟩ := hrel
      obtain ⟨gk1, hgk1⟩ : ∃ x, x = gk := ⟨_, rfl⟩
      by_cases hrn : r9 < n
      case neg =>
        obtain rfl : n = r9 := by omega
        have HC := Lib.hid (HCA.out (by omega))
        have HV := Lib.hid (show ∀ j, j < n → 0 < j → V0 j = true from by
          rcases HV0.out with h | h
          · intro j hj h0
            exact HPL.out.lives (L := fun j => V0 j = true) (by rw [HWB.out]; exact h) (by rw [HN.out]; exact hj) h0
          · intro j hj _
            exact Ls.cnt_all h j hj)
        rename World => W5
        have HA5 := Lib.hid (HA.out.up HR.out.bel)
        clear y256 y257 HCA HV0 HC0 HGO
        go_wp2_with fail
        go_loopg [20] n (fun gk v20 wr => ∃ i : Nat, i + gk = n ∧ v20 = .int .i64 i ∧ Hid (Below W5.heap.size W5 wr))
        case atStart => exact ⟨0, by omega, rfl, Lib.hid (Below.refl _ _)⟩
        case round =>
          obtain ⟨i, hi, rfl, HW⟩ := hrel
          obtain ⟨gk2, hgk2⟩ : ∃ x, x = gk := ⟨_, rfl⟩
          by_cases hin : i < n
          case neg =>
            obtain rfl : n = i := by omega
            go_wp2_with fail
            go_ret
            exact ⟨rfl, Bs.below_up HA5.out.bel HW.out⟩
          case pos =>
            have v1 := Bs.cell_up HW.out (HR.out.rc.cell hin)
            have v2 := Bs.cell_up HW.out (HR.out.rl.cell hin)
            rw [HC.out i hin] at v1
            have e1 : decide ((i : Int) < (n : Int)) = true := decide_eq_true (by omega)
            have i1 : (0 : Int) ≤ (i : Int) := by omega
            have i2 : (i : Int) < (n : Int) := by omega
            go_upto_region 33 with fail
            go_cut [168] (fun b wx => b = .bool false ∧ Hid (Below W5.heap.size W5 wx))
            case first =>
              by_cases i0 : 0 < i
              · rw [HV.out i hin i0] at v2
                have k1 : decide ((i : Int) > 0) = true := decide_eq_true (by omega)
                have k2 : decide ((0 : Int) < (i : Int)) = true := decide_eq_true (by omega)
                go_wp2_with fail
                go_meet
                exact ⟨rfl, HW⟩
              · have k1 : decide ((i : Int) > 0) = false := decide_eq_false (by omega)
                have k2 : decide ((0 : Int) < (i : Int)) = false := decide_eq_false (by omega)
                go_wp2_with fail
                go_meet
                exact ⟨rfl, HW⟩
            case rest =>
              clear HW v1 v2 e1 i1 i2
              obtain ⟨rfl, HW1⟩ := hcut
              go_wp2_with fail
              go_loopg [21] i (fun gk v21 wr => ∃ j : Nat, j + gk = i ∧ v21 = .int .i64 j ∧ Hid (Below W5.heap.size W5 wr))
              case atStart => exact ⟨0, by omega, rfl, HW1⟩
              case round =>
                clear HW1
                obtain ⟨j, hj, rfl, HW⟩ := hrel
                obtain ⟨gk3, hgk3⟩ : ∃ x, x = gk := ⟨_, rfl⟩
                by_cases hji : j < i
                case neg =>
                  obtain rfl : i = j := by omega
                  go_wp2_with fail
                  go_roundg (gk2 - 1)
                  case measure => omega
                  exact ⟨i + 1, by omega, by go_num, HW⟩
                case pos =>
                  have HAW := Lib.hid (HA5.out.up HW.out)
                  have AK := Lib.hid (fun (u : World) (h : Df.Tv u (.agg D) (Df.kg [y1, y2]) (Df.tN p nx S) (Df.tR (Df.rl F) S)) => alike_any (Df.kg [y1, y2]) (Df.tN p nx S) (Df.tR (Df.rl F) S) (.agg D) i j u h HRT.out (by rw [HLN.out, HN.out]; exact hin) (by rw [HLN.out, HN.out]; omega) (fun Q hQ hq => by
                    have := HPL.out.apart (Q := Q) (a := i) (b := j) (by rw [HWB.out]; rw [HWD.out] at hQ; exact hQ) (by rw [HN.out]; exact hin) (by rw [HN.out]; omega) hq
                    omega))
                  have e1 : decide ((j : Int) < (i : Int)) = true := decide_eq_true (by omega)
                  go_wp2_with (first
                    | (refine wpList_load_row rfl 40 _ rfl tb rfl 40 D (0, 0) _ HAW.out.row Try.underlying40 rfl HDI.out ?_))
                  refine (AK.out _ HAW.out.tv).mono ?_
                  rintro e w1 ⟨rfl, hb⟩
                  go_wp2_with fail
                  go_roundg (gk3 - 1)
                  case measure => omega
                  exact ⟨j + 1, by omega, by go_num, Lib.hid (Bs.below_up HW.out hb)⟩
      case pos =>
        have e1 : decide ((r9 : Int) < (n : Int)) = true := decide_eq_true (by omega)
        go_wp2_with fail
        go_loopg [17] n (fun gk v17 wr => ∃ (i : Nat) (C V : Nat → Bool), i + gk = n ∧ v17 = .int .i64 i ∧ Hid (Ls.RW W cb lb n C V wr) ∧ Hid (Ls.CI (Df.tN p nx S) wd C i 0) ∧ Hid (Ls.VI (Df.tN p nx S) (Df.tR (Df.rl F) S) wd n V0 V i false 0))
        case atStart => exact ⟨0, C0, V0, by omega, rfl, HR, Lib.hid ⟨HC0.out, fun i' hi => by omega, fun k t hk => by omega⟩, Lib.hid (Ls.vi_start V0)⟩
        case round =>
          clear HR
          obtain ⟨i, C, V, hi, rfl, HR, HCI, HVI⟩ := hrel
          obtain ⟨gk2, hgk2⟩ : ∃ x, x = gk := ⟨_, rfl⟩
          by_cases hin : i < n
          case neg =>
            obtain rfl : i = n := by omega
            have HC2 := Lib.hid (fun j (hj : j < i) => Ls.CI.all HPL.out (by rw [HWB.out]; exact HCI.out) (by rw [HN.out]; exact hj) (by omega : j ≤ i))
            have HV2 := Lib.hid (HVI.out.round (by rw [HLN.out, HN.out]) HV0.out (fun i k hi hk => (HGO.out i k hi hk).2))
            go_wp2_with fail
            go_roundg (gk1 - 1)
            case measure => omega
            exact ⟨r9 + 1, C, V, by omega, by go_num, HR, Lib.hid HCI.out.zero, Lib.hid (fun _ => HC2.out), HV2⟩
          case pos =>
            have hT := Lib.hid (HTP.out.up HR.out.bel)
            have x256 := Bs.cell_up HR.out.bel y256
            have x257 := Bs.cell_up HR.out.bel y257
            obtain ⟨p2, rfl, hri⟩ := hT.out.rat (k := i) (by rw [HLR.out, HN.out]; exact hin)
            have v0 := HR.out.rl.cell hin
            have fv0 := HR.out.rl.frozen i
            have i1 : (0 : Int) ≤ (i : Int) := by omega
            have i2 : (i : Int) < (n : Int) := by omega
            obtain ⟨ri, hri2⟩ : ∃ x, (Df.tR (Df.rl F) S).getD i 0 = x := ⟨_, rfl⟩
            have HRI := Lib.hid hri2
            rw [hri2] at hri
            clear hri2
            go_upto_region 22 with fail
            go_cut [] (fun wx => Hid (Ls.RW W cb lb n C (Ls.upd V i (V i || decide (0 ≤ ri))) wx))
            case first =>
              have HRS := Lib.hid (fun x => Ls.rw_l HR.out hlw hcl i x)
              cases hV : V i with
              | true =>
                have HV := Lib.hid hV
                rw [hV] at v0
                clear hV
                go_wp2_with fail
                go_meet
                rw [HV.out, Bool.true_or]
                exact Lib.hid (HRS.out true)
              | false =>
                have HV := Lib.hid hV
                rw [hV] at v0
                clear hV
                by_cases h0 : 0 ≤ ri
                · have k1 : decide (ri ≥ 0) = true := decide_eq_true h0
                  have k2 : decide (0 ≤ ri) = true := decide_eq_true h0
                  go_wp2_with fail
                  go_meet
                  rw [k2, HV.out, Bool.false_or]
                  exact Lib.hid (HRS.out true)
                · have k1 : decide (ri ≥ 0) = false := decide_eq_false h0
                  have k2 : decide (0 ≤ ri) = false := decide_eq_false h0
                  go_wp2_with fail
                  go_meet
                  rw [k2, HV.out, Bool.false_or]
                  exact Lib.hid (HRS.out false)
            case rest =>
              have HR1 := hcut
              have HVI1 := Lib.hid (HVI.out.put hin (decide (0 ≤ ri)) true 0 (fun hs _ hx => hs.rule i (by rw [HLN.out, HN.out]; exact hin) (by rw [HRI.out]; exact of_decide_eq_true hx)) (fun _ hx hd => ⟨hd.1, fun _ h0 => hx (decide_eq_true (by rw [← HRI.out]; exact h0)), hd.2.2⟩))
              have HCi1 := Lib.hid (show C i = true from Ls.CI.all HPL.out (by rw [HWB.out]; exact HCI.out) (by rw [HN.out]; exact hin) (Nat.le_refl i))
              clear v0 fv0 hri x256 x257 hT hcut HR HVI
              go_wp2_with fail
              go_loopg [18] wd (fun gk v18 wr => ∃ (c : Nat) (C V : Nat → Bool), c + gk = wd ∧ v18 = .int .i64 c ∧ Hid (Ls.RW W cb lb n C V wr) ∧ Hid (Ls.CI (Df.tN p nx S) wd C i c) ∧ Hid (C i = true) ∧ Hid (Ls.VI (Df.tN p nx S) (Df.tR (Df.rl F) S) wd n V0 V i true c))
              case atStart => exact ⟨0, C, _, by omega, rfl, HR1, HCI, HCi1, HVI1⟩
              case round =>
                clear HR1 HVI1 HCi1 HCI
                obtain ⟨c, C, V, hc, rfl, HR, HCI, HCi, HVI⟩ := hrel
                obtain ⟨gk3, hgk3⟩ : ∃ x, x = gk := ⟨_, rfl⟩
                have hT := Lib.hid (HTP.out.up HR.out.bel)
                have x256 := Bs.cell_up HR.out.bel y256
                obtain ⟨pa, ra, c5, rfl, na', hxa⟩ := hT.out.nat (Df.rt_of HRT.out) (k := i) (by rw [HLN.out, HN.out]; exact hin)
                rw [HWD.out] at na' hxa
                clear hT
                by_cases hck : c < wd
                case neg =>
                  obtain rfl : c = wd := by omega
                  clear hxa
                  go_wp2_with fail
                  go_roundg (gk2 - 1)
                  case measure => omega
                  exact ⟨i + 1, C, V, by omega, by go_num, HR, Lib.hid HCI.out.row, Lib.hid HVI.out.row⟩
                case pos =>
                  obtain ⟨t, ht⟩ : ∃ x, Df.go (Df.tN p nx S) i c = x := ⟨_, rfl⟩
                  have xa := hxa c hck
                  obtain ⟨t1', t2'⟩ := HGO.out i c hin hck
                  rw [ht] at xa t1' t2'
                  have HT := Lib.hid ht
                  clear ht hxa
                  have k1 : (0 : Int) ≤ (c : Int) := by omega
                  have k2 : (c : Int) < (wd : Int) := by omega
                  have k3 : decide ((c : Int) < (wd : Int)) = true := decide_eq_true k2
                  by_cases t0 : 0 ≤ t
                  case neg =>
                    have k4 : decide (t ≥ 0) = false := decide_eq_false t0
                    have k5 : decide (0 ≤ t) = false := decide_eq_false t0
                    go_wp2_with fail
                    go_roundg (gk3 - 1)
                    case measure => omega
                    exact ⟨c + 1, C, V, by omega, by go_num, HR, Lib.hid (HCI.out.skip (by rw [HT.out]; omega)), HCi, Lib.hid (HVI.out.skip (by rw [HT.out]; omega))⟩
                  case pos =>
                    have k4 : decide (t ≥ 0) = true := decide_eq_true t0
                    have k5 : decide (0 ≤ t) = true := decide_eq_true t0
                    obtain ⟨tn, rfl⟩ := Int.eq_ofNat_of_zero_le t0
                    have htn : tn < n := by omega
                    go_upto_region 28 with fail
                    clear x256 na' xa
                    have v1 := HR.out.rc.cell htn
                    have v2 := HR.out.rc.cell hin
                    rw [HCi.out] at v2
                    have fv1 := HR.out.rc.frozen tn
                    have j1 : (0 : Int) ≤ (tn : Int) := by omega
                    have j2 : (tn : Int) < (n : Int) := by omega
                    go_cut [] (fun wx => Hid (Ls.RW W cb lb n (Ls.upd C tn true) V wx))
                    case first =>
                      have HRS := Lib.hid (Ls.rw_c HR.out hcw hcl tn true)
                      cases hV : C tn with
                      | true =>
                        have HV := Lib.hid hV
                        rw [hV] at v1
                        clear hV
                        go_wp2_with fail
                        go_meet
                        exact HRS
                      | false =>
                        have HV := Lib.hid hV
                        rw [hV] at v1
                        clear hV
                        go_wp2_with fail
                        go_meet
                        exact HRS
                    case rest =>
                      have HCI2 := Lib.hid (show Ls.CI (Df.tN p nx S) wd (Ls.upd C tn true) i (c + 1) from by
                        have := HCI.out.put HT.out HCi.out
                        rw [HCi.out, Bool.or_true] at this
                        exact this)
                      have HCi2 := Lib.hid (show Ls.upd C tn true i = true by
                        unfold Ls.upd
                        split
                        · rfl
                        · exact HCi.out)
                      have HR2 := hcut
                      clear HR hcut v1 v2 fv1
                      have v1 := HR2.out.rl.cell hin
                      have v2 := HR2.out.rl.cell htn
                      have fv1 := HR2.out.rl.frozen i
                      go_upto_region 29 with fail
                      have HVI2 := Lib.hid (HVI.out.put hin (V tn) true (c + 1) (fun hs he hx => hs.step i c tn (by rw [HLN.out, HN.out]; exact hin) hck HT.out (by show V0 tn = true; rw [← he tn htn]; exact hx)) (fun he hx hd => ⟨hd.1, hd.2.1, fun k t' hk ht' hV => by
                        by_cases e : k = c
                        · subst e
                          have e2 : (t' : Int) = (tn : Int) := by rw [← ht', HT.out]
                          have e3 : t' = tn := by omega
                          subst e3
                          exact hx (by rw [he _ htn]; exact hV)
                        · exact hd.2.2 k t' (by omega) ht' hV⟩))
                      have HRS := Lib.hid (fun x => Ls.rw_l HR2.out hlw hcl i x)
                      cases hV : V i with
                      | true =>
                        have HV := Lib.hid hV
                        rw [hV] at v1
                        clear hV
                        go_wp2_with fail
                        go_roundg (gk3 - 1)
                        case measure => omega
                        rw [HV.out, Bool.true_or] at HVI2
                        exact ⟨c + 1, _, _, by omega, by go_num, Lib.hid (HRS.out true), HCI2, HCi2, HVI2⟩
                      | false =>
                        have HV := Lib.hid hV
                        rw [hV] at v1
                        clear hV
                        obtain ⟨xt, hxt⟩ : ∃ x, V tn = x := ⟨_, rfl⟩
                        have HXT := Lib.hid hxt
                        rw [hxt] at v2
                        clear hxt
                        go_wp2_with fail
                        go_roundg (gk3 - 1)
                        case measure => omega
                        rw [HV.out, Bool.false_or, HXT.out] at HVI2
                        exact ⟨c + 1, _, _, by omega, by go_num, Lib.hid (HRS.out xt), HCI2, HCi2, HVI2⟩
end Go.Proofs.Ythapedadnbkgnaa
