/- What the document's answers of layer 3 are, walked. -/
import Derived.Test.YtnjcahcbeicblaaPlB
namespace Go.Proofs.Ytnjcahcbeicblaa
set_option linter.unusedVariables false
set_option linter.unusedSimpArgs false
open Go.RowKit
open Rp (Tr)
theorem Pl.field_0 (a b : Int) (w : World) : (Instr.field 46 (.agg #[.int .i64 a, .int .i64 b]) 0).run Try.prog w = .ok (.int .i64 a) w := by kernel_rfl
theorem Pl.col_take_at (s : ByteArray) (k : Nat) (h : k < s.size) : Pl.col (s.data.toList.take (k + 1)) = if (s[k].toNat : Int) = 10 then 0 else if Rn.folI (s[k].toNat : Int) = true then Pl.col (s.data.toList.take k) else Pl.col (s.data.toList.take k) + 1 := by
  rw [Rn.take_snoc s k h, Pl.col_snoc]
  have : (s[k] = 10) ↔ ((s[k].toNat : Int) = 10) := by
    rw [← UInt8.toNat_inj]
    have : (10 : UInt8).toNat = 10 := rfl
    omega
  by_cases hc : (s[k].toNat : Int) = 10
  · rw [if_pos hc, if_pos (this.2 hc)]
  · rw [if_neg hc, if_neg (fun e => hc (this.1 e))]
/-- what Mark's frame lays: the answer, the mark that is made -/
structure Pl.Fq (w : World) (x y : Int) (v : World) : Prop where
  res : Pl.Box2 v w.heap.size 0 0
  box : Pl.Box2 v (w.heap.size + 1) x y
  be : Below w.heap.size w v
theorem Pl.fq_new (w : World) : Pl.Fq w 0 0 ((w.alloc (.cells #[.int .i64 0, .int .i64 0] 46)).alloc (.cells #[.int .i64 0, .int .i64 0] 46)) :=
  ⟨by constructor <;> simp [go_sem], by constructor <;> simp [go_sem], Rp.below_al2 _ _ _⟩
theorem Pl.Box2.set {v : World} {c d : Nat} {x y : Int} (h : Pl.Box2 v c x y) (i : Nat) (u : Value) (hn : d ≠ c) : Pl.Box2 (v.setCell ⟨d, i, none⟩ u) c x y :=
  ⟨Rp.cell_set h.c0 hn, Rp.cell_set h.c1 hn, by simpa [go_sem] using h.f0, by simpa [go_sem] using h.f1⟩
theorem Pl.Box2.set0 {v : World} {c : Nat} {x y : Int} (h : Pl.Box2 v c x y) (x' : Int) : Pl.Box2 (v.setCell ⟨c, 0, none⟩ (.int .i64 x')) c x' y :=
  ⟨World.cell?_setCell_same _ _ _ h.c0, by have := h.c1; simp [go_sem, this], by simpa [go_sem] using h.f0, by simpa [go_sem] using h.f1⟩
theorem Pl.Box2.set1 {v : World} {c : Nat} {x y : Int} (h : Pl.Box2 v c x y) (y' : Int) : Pl.Box2 (v.setCell ⟨c, 1, none⟩ (.int .i64 y')) c x y' :=
  ⟨by have := h.c0; simp [go_sem, this], World.cell?_setCell_same _ _ _ h.c1, by simpa [go_sem] using h.f0, by simpa [go_sem] using h.f1⟩
theorem Pl.Fq.set0 {w v : World} {x y : Int} (h : Pl.Fq w x y v) (x' : Int) : Pl.Fq w x' y (v.setCell ⟨w.heap.size + 1, 0, none⟩ (.int .i64 x')) :=
  ⟨h.res.set _ _ (by omega), h.box.set0 x', h.be.setCell (by simp) _⟩
theorem Pl.Fq.set1 {w v : World} {x y : Int} (h : Pl.Fq w x y v) (y' : Int) : Pl.Fq w x y' (v.setCell ⟨w.heap.size + 1, 1, none⟩ (.int .i64 y')) :=
  ⟨h.res.set _ _ (by omega), h.box.set1 y', h.be.setCell (by simp) _⟩
/-- a mark is answered -/
def Pl.KPost (w : World) (x y : Int) (e : Ending) (w' : World) : Prop := e = .returned (.agg #[.int .i64 x, .int .i64 y]) ∧ Below w.heap.size w w'
set_option maxHeartbeats 2000000 in
theorem refMark_any (s : ByteArray) (a : Nat) (w : World) (hs : s.size ≤ 1000000) (ha : a ≤ s.size) : Calls Try.prog 25 #[.string s, .int .i64 a] w (Pl.KPost w (Rp.lns (s.data.toList.take a)) (Pl.col (s.data.toList.take a))) := by
  have F := Pl.fq_new w
  go_enter Try.func25, Try.ntmps25
  go_wp2_with fail
  go_loopw [6] (fun i wr => ∃ k : Nat, k ≤ a ∧ i = .int .i64 k ∧ Pl.Fq w (Rp.lns (s.data.toList.take k)) (Pl.col (s.data.toList.take k)) wr) (fun i _ => a - (intOf i).toNat)
  case atStart => exact ⟨0, Nat.zero_le _, rfl, by simpa [Rp.lns, Pl.col_nil] using F⟩
  case round =>
    obtain ⟨k, hk, rfl, FK⟩ := hrel
    clear F
    have hb : Rp.lns (s.data.toList.take k) ≤ k := Nat.le_trans (Rp.lns_le _) (List.length_take_le _ _)
    have hcb := Pl.col_bd (s.data.toList.take k)
    have hcl : (s.data.toList.take k).length ≤ k := List.length_take_le _ _
    by_cases h1 : k < a
    · have h2 : k < s.size := by omega
      have hsn := Rp.lns_take_at s k h2
      have hcn := Pl.col_take_at s k h2
      generalize Rp.lns (s.data.toList.take k) = L at *
      generalize Pl.col (s.data.toList.take k) = C at *
      have FK' := FK
      obtain ⟨_, ⟨c0, c1, f0, f1⟩, _⟩ := FK'
      by_cases hc : (s[k].toNat : Int) = 10
      · have hc' : ((s[k].toNat : Int) == 10) = true := by simp [hc]
        rw [if_pos hc] at hsn hcn
        have HS := Lib.hid hsn; have HC := Lib.hid hcn
        clear hc hsn hcn
        have FN := (FK.set0 ((L : Int) + 1)).set1 0
        obtain ⟨n0, n1, nf0, nf1⟩ := (FK.set0 ((L : Int) + 1)).box
        go_wp2_with fail
        go_roundw
        case rel => exact ⟨k + 1, by omega, by go_num, by rw [HS.out, HC.out]; exact FN⟩
        case measure => simp [intOf]; omega
      · have hc' : ((s[k].toNat : Int) == 10) = false := beq_eq_false_iff_ne.2 hc
        rw [if_neg hc] at hsn hcn
        clear hc
        rcases Bool.eq_false_or_eq_true (Rn.folI ↑s[k].toNat) with hf | hf
        · rw [hf] at hcn
          simp at hsn hcn
          have HS := Lib.hid hsn; have HC := Lib.hid hcn
          clear hsn hcn
          go_wp2_with (go_at_call 55; refine (refFollower_any _ _).mono ?_; rintro e w' ⟨rfl, rfl⟩)
          go_roundw
          case rel => exact ⟨k + 1, by omega, by go_num, by rw [HS.out, HC.out]; exact FK⟩
          case measure => simp [intOf]; omega
        · rw [hf] at hcn
          simp at hsn hcn
          have HS := Lib.hid hsn; have HC := Lib.hid hcn
          clear hsn hcn
          have FN := FK.set1 (C + 1)
          go_wp2_with (go_at_call 55; refine (refFollower_any _ _).mono ?_; rintro e w' ⟨rfl, rfl⟩)
          go_roundw
          case rel => exact ⟨k + 1, by omega, by go_num, by rw [HS.out, HC.out]; exact FN⟩
          case measure => simp [intOf]; omega
    · obtain rfl : k = a := by omega
      clear hb hcb hcl
      obtain ⟨⟨r0, r1, rf0, rf1⟩, ⟨c0, c1, f0, f1⟩, be⟩ := FK
      go_wp2_with fail
      exact bodyPost_ret (v := .agg #[.int .i64 (Rp.lns (s.data.toList.take k)), .int .i64 (Pl.col (s.data.toList.take k))]) (by simp [results, Try.results25, go_sem, r0, r1]) rfl ⟨rfl, (be.setCell (Nat.le_refl _) _).setCell (Nat.le_refl _) _⟩
set_option maxHeartbeats 1000000 in
theorem refLinesP_any (s : ByteArray) (w : World) (hs : s.size ≤ 1000000) : Calls Try.prog 22 #[.string s] w (Rp.IPost w ((Rp.lns s.data.toList : Int) + 1)) := by
  have hf := Pl.field_0
  have hb : Rp.lns s.data.toList ≤ s.size := by have := Rp.lns_le s.data.toList; simpa using this
  have eA : s.data.toList.take s.size = s.data.toList := by rw [← Rn.len_data0, List.take_length]
  have EA := Lib.hid eA; clear eA
  go_enter Try.func22, Try.ntmps22
  go_wp2_with fail
  refine (refMark_any s s.size _ hs (Nat.le_refl _)).mono ?_
  rw [EA.out]
  rintro e w1 ⟨rfl, hb1⟩
  go_wp2_with fail
  go_ret
  exact ⟨rfl, hb1⟩
set_option maxHeartbeats 1000000 in
theorem refSpan_no (s : ByteArray) (i : Int) (w : World) (hs : s.size ≤ 1000000) (h : i < 0 ∨ (Rp.lns s.data.toList : Int) < i) : Calls Try.prog 28 #[.string s, .int .i64 i] w (Pl.TPost w (-1) (-1)) := by
  by_cases h1 : i < 0
  · have d1 : decide (i < 0) = true := by simp; omega
    clear h
    go_enter Try.func28, Try.ntmps28
    go_wp2_with fail
    go_ret2
    exact ⟨rfl, Below.refl _ _⟩
  · have d1 : decide (i < 0) = false := by simp; omega
    have d2 : decide ((Rp.lns s.data.toList : Int) + 1 ≤ i) = true := by simp; omega
    clear h
    go_enter Try.func28, Try.ntmps28
    go_wp2_with fail
    refine (refLinesP_any s _ hs).mono ?_
    rintro e w1 ⟨rfl, hb1⟩
    go_wp2_with fail
    go_ret2
    exact ⟨rfl, hb1⟩
theorem Pl.row_ahead {l : List UInt8} {k f t : Nat} (R : Pl.Row l k f t) {q : Nat} (h : q < f) : Rp.lns (l.take q) < k := by
  rcases Nat.lt_or_ge (Rp.lns (l.take q)) k with h1 | h1
  · exact h1
  · have := Pl.behind_le R.bh h1; omega
theorem Pl.row_in {s : ByteArray} {k f t : Nat} (R : Pl.Row s.data.toList k f t) {q : Nat} (h1 : f ≤ q) (h2 : q < t) (h3 : q < s.size) : ¬ (s[q].toNat : Int) = 10 := by
  intro hc
  have e := Rp.lns_take_at s q h3
  rw [if_pos hc] at e
  have m1 := Rp.lns_take_mono s.data.toList h1
  have m2 := Rp.lns_take_mono s.data.toList (show q + 1 ≤ t by omega)
  rw [R.bh.2.1] at m1
  rw [R.ln] at m2
  omega
theorem Pl.row_end {s : ByteArray} {k f t : Nat} (R : Pl.Row s.data.toList k f t) (h : t < s.size) : (s[t].toNat : Int) = 10 := by
  rcases R.en with e | e
  · rw [Rn.len_data0] at e; omega
  · have : s.data.toList.getD t 0 = s[t] := by simp [h]; rfl
    rw [this] at e; rw [e]; rfl
set_option maxRecDepth 100000 in
set_option maxHeartbeats 2000000 in
theorem refSpan_yes (s : ByteArray) (k f t : Nat) (w : World) (hs : s.size ≤ 1000000) (R : Pl.Row s.data.toList k f t) : Calls Try.prog 28 #[.string s, .int .i64 k] w (Pl.TPost w f t) := by
  have hf := Pl.field_0
  have hkl := R.kl
  have hft := R.ft
  have htl := R.tl
  rw [Rn.len_data0] at htl
  have d1 : decide ((k : Int) < 0) = false := by simp
  have d2 : decide ((Rp.lns s.data.toList : Int) + 1 ≤ (k : Int)) = false := by simp; omega
  have HR := Lib.hid R; clear R
  go_enter Try.func28, Try.ntmps28
  go_wp2_with fail
  refine (refLinesP_any s _ hs).mono ?_
  rintro e w1 ⟨rfl, hb1⟩
  go_wp2_with fail
  clear d1 d2 hkl
  go_loopw [6] (fun i wr => ∃ q : Nat, q ≤ f ∧ i = .int .i64 q ∧ Below w.heap.size w wr) (fun i _ => f - (intOf i).toNat)
  case atStart => exact ⟨0, Nat.zero_le _, rfl, hb1⟩
  case round =>
    obtain ⟨q, hq, rfl, be⟩ := hrel
    by_cases hlt : q < f
    · have hL := Pl.row_ahead HR.out hlt
      go_wp2_with fail
      refine (refMark_any s q _ hs (by omega)).mono ?_
      rintro e w2 ⟨rfl, hb2⟩
      go_wp2_with fail
      go_roundw
      case rel => exact ⟨q + 1, by omega, by go_num, Rp.below_up be hb2⟩
      case measure => simp [intOf]; omega
    · obtain rfl : q = f := by omega
      have hL : Rp.lns (s.data.toList.take q) = k := HR.out.bh.2.1
      have HL := Lib.hid hL; clear hL
      go_wp2_with fail
      refine (refMark_any s q _ hs (by omega)).mono ?_
      rw [HL.out]
      rintro e w2 ⟨rfl, hb2⟩
      have be2 := Rp.below_up be hb2
      clear be hb1
      go_wp2_with fail
      go_loopw [7] (fun i wr => ∃ j : Nat, q ≤ j ∧ j ≤ t ∧ i = .int .i64 j ∧ Below w.heap.size w wr) (fun i _ => t - (intOf i).toNat)
      case atStart => exact ⟨q, Nat.le_refl _, hft, rfl, be2⟩
      case round =>
        obtain ⟨j, hj1, hj2, rfl, bej⟩ := hrel
        clear be2
        by_cases hjt : j < t
        · have h3 : j < s.size := by omega
          have hc := Pl.row_in HR.out hj1 hjt h3
          have hc' : ((s[j].toNat : Int) == 10) = false := beq_eq_false_iff_ne.2 hc
          have hc2 : ((s[j].toNat : Int) != 10) = true := by simpa using hc
          clear hc
          go_wp2_with fail
          go_roundw
          case rel => exact ⟨j + 1, by omega, by omega, by go_num, bej⟩
          case measure => simp [intOf]; omega
        · obtain rfl : j = t := by omega
          by_cases h3 : j < s.size
          · have hc := Pl.row_end HR.out h3
            have hc2 : ((s[j].toNat : Int) != 10) = false := by simp [hc]
            have hc' : ((s[j].toNat : Int) == 10) = true := by simp [hc]
            clear hc
            go_wp2_with fail
            go_ret2
            exact ⟨rfl, bej⟩
          · go_wp2_with fail
            go_ret2
            exact ⟨rfl, bej⟩
set_option maxHeartbeats 1000000 in
theorem refWidth_yes (s : ByteArray) (k f t : Nat) (w : World) (hs : s.size ≤ 1000000) (R : Pl.Row s.data.toList k f t) : Calls Try.prog 29 #[.string s, .int .i64 k] w (Rp.IPost w (Rn.cnt (s.data.toList.take t) - Rn.cnt (s.data.toList.take f))) := by
  have hft := R.ft
  have htl := R.tl
  rw [Rn.len_data0] at htl
  have hz := Pl.ext_size s f t hft htl
  have HA := Lib.hid (Pl.ext_all s f t hft htl)
  have i1 : (0 : Int) ≤ (f : Int) := by omega
  have i2 : (f : Int) ≤ (t : Int) := by omega
  have i3 : (t : Int) ≤ (s.size : Int) := by omega
  have HZ := Lib.hid hz; clear hz
  go_enter Try.func29, Try.ntmps29
  go_wp2_with fail
  refine (refSpan_yes s k f t _ hs R).mono ?_
  rintro e w1 ⟨rfl, hb1⟩
  go_wp2_with fail
  refine (refCount_any (s.extract f t) _ (by rw [HZ.out]; unfold maxLen; omega)).mono ?_
  rw [HA.out]
  rintro e w' ⟨rfl, rfl⟩
  go_wp2_with fail
  go_ret
  exact ⟨rfl, hb1⟩
end Go.Proofs.Ytnjcahcbeicblaa
