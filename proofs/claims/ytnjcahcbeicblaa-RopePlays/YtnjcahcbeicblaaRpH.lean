/- What 'put' answers, walked. -/
import Derived.Test.YtnjcahcbeicblaaRpG
namespace Go.Proofs.Ytnjcahcbeicblaa
set_option linter.unusedVariables false
set_option linter.unusedSimpArgs false
open Go.RowKit
open Rp (Tr)
set_option maxHeartbeats 400000 in
theorem pieces_any (s : ByteArray) (w : World) (hs : s.size ≤ 1000000) : Calls Try.prog 38 #[.string s] w (Rp.RPost w s.data.toList) := by
  by_cases h0 : s.size = 0
  · have hd : decide ((s.size : Int) ≤ 64) = true := by simp; omega
    have H0 := Lib.hid h0; clear h0
    go_enter Try.func38, Try.ntmps38
    go_wp2_with (go_at_call 64; refine (piece_none _ _ H0.out).mono ?_; rintro e w1 ⟨rfl, rfl⟩)
    go_ret
    refine ⟨none, rfl, .inl ⟨rfl, ?_⟩, Below.refl _ _⟩
    exact List.eq_nil_of_length_eq_zero (by simpa using H0.out)
  · exact (pieces_n _ s w (Nat.le_refl _) (by omega) hs).mono fun e w' ⟨c, t, he, hc, g, T, _, hb⟩ => ⟨_, he, .inr ⟨c, t, rfl, hc, g, T⟩, hb⟩
theorem Rp.ins_left (a b s : List UInt8) (k : Nat) (h : k ≤ a.length) : (a ++ b).take k ++ s ++ (a ++ b).drop k = (a.take k ++ s ++ a.drop k) ++ b := by
  rw [List.take_append_of_le_length h, List.drop_append_of_le_length h]; simp
theorem Rp.ins_right (a b s : List UInt8) (k : Nat) (h : a.length ≤ k) : (a ++ b).take k ++ s ++ (a ++ b).drop k = a ++ (b.take (k - a.length) ++ s ++ b.drop (k - a.length)) := by
  rw [List.take_append, List.drop_append, List.take_of_length_le h, List.drop_of_length_le h]; simp
theorem Rp.IsPart.rep {w : World} {b : Nat} {t : Tr} (h : Rp.IsPart w b t) (g : t.Good) : Rp.Rep w (some ⟨b, 0, none⟩) t.toL := .inr ⟨b, t, rfl, h, g, rfl⟩
theorem Rp.ins_len (l s : List UInt8) (k : Nat) : (l.take k ++ s ++ l.drop k).length = l.length + s.length := by
  simp; omega
set_option maxRecDepth 100000 in
set_option maxHeartbeats 1000000 in
theorem put_t (t : Tr) : ∀ (b k : Nat) (s : ByteArray) (w : World), Rp.IsPart w b t → t.Good → k ≤ t.len → t.len + s.size ≤ 1000000 →
    Calls Try.prog 44 #[.pointer (some ⟨b, 0, none⟩), .int .i64 k, .string s] w (Rp.RPost w (t.toL.take k ++ s.data.toList ++ t.toL.drop k)) := by
  induction t with
  | leaf u =>
    intro b k s w hb g hk hl
    obtain ⟨_, _, _, _, b4, b5, _⟩ : Rp.Cells w b (.leaf u) none none := hb
    have b4' : w.cell? ⟨b, 4, none⟩ = some (.string u) := b4
    rw [Rp.len_leaf] at hk hl
    clear b4
    have i1 : (0 : Int) ≤ (k : Int) := by omega
    have i2 : (k : Int) ≤ (u.size : Int) := by omega
    have c1 : ¬ 9223372036854775807 < (u.extract 0 k).size + s.size := by simp; omega
    have c2 : ¬ 9223372036854775807 < (u.extract 0 k ++ s).size + (u.extract k u.size).size := by simp; omega
    have c1b : ¬ 9223372036854775807 < k + s.size := by omega
    have c2b : ¬ 9223372036854775807 < k + s.size + (u.size - k) := by omega
    have c3 : (u.extract 0 k ++ s ++ u.extract k u.size).size ≤ 1000000 := by simp; omega
    have c4 : (u.extract 0 k ++ s ++ u.extract k u.size).data.toList = u.data.toList.take k ++ s.data.toList ++ u.data.toList.drop k := by
      rw [Rp.append_data, Rp.append_data, Rp.ext_left, Rp.ext_right]
    have C4 := Lib.hid c4; clear c4
    go_enter Try.func44, Try.ntmps44
    go_wp2_with (go_at_call 66; refine (single_any _ none _ b5).mono ?_; rintro e w1 ⟨rfl, rfl⟩)
    go_region_held3 (fun v => v.cell? ⟨b, 4, none⟩ = some (.string u) ∧ Below w.heap.size w v)
      (first
        | (refine ⟨?_, ?_⟩ <;> with_reducible (first | (refine Rp.cell_dr ?_; assumption) | (refine Rp.below_dr ?_; exact Below.refl _ _)))
        | (go_split_ands; refine ⟨?_, ?_⟩ <;> with_reducible (first | (refine Rp.cell_up hb1 ?_; assumption) | (refine Rp.below_up ?_ hb1; assumption))))
      (first
        | (go_at_call 38; refine (pieces_any _ _ c3).mono ?_; rintro e w1 ⟨r1, rfl, hr1, hb1⟩))
    go_wp2_with fail
    go_ret
    go_split_ands
    exact ⟨r1, rfl, by rw [C4.out] at hr1; exact hr1, by assumption⟩
  | node l r il ir =>
    intro b k s w hb g hk hl
    have IL := Lib.hid il; clear il
    have IR := Lib.hid ir; clear ir
    obtain ⟨x, y, ⟨_, _, _, _, _, b5, b6⟩, hx, hy⟩ := hb
    obtain ⟨_, _, ⟨x0, _, _, _, _, _, _⟩⟩ := hx.cells
    obtain ⟨gl, gr, _, _, _⟩ := g
    rw [Rp.len_node] at hk hl
    have el : l.toL.length = l.len := rfl
    have er : r.toL.length = r.len := rfl
    have EL := Lib.hid el; clear el
    have ER := Lib.hid er; clear er
    by_cases h : k ≤ l.len
    · have d1 : decide (k ≤ l.len) = true := by simp; omega
      go_enter Try.func44, Try.ntmps44
      go_wp2_with (go_at_call 66; refine (single_any _ (some ⟨x, 0, none⟩) _ b5).mono ?_; rintro e w1 ⟨rfl, rfl⟩)
      have hR := hy.rep gr
      go_region_held3 (fun v => v.cell? ⟨b, 5, none⟩ = some (.pointer (some ⟨x, 0, none⟩)) ∧ v.cell? ⟨b, 6, none⟩ = some (.pointer (some ⟨y, 0, none⟩)) ∧ Rp.IsPart v x l ∧ Rp.Rep v (some ⟨y, 0, none⟩) r.toL ∧ Below w.heap.size w v)
        (first
          | (refine ⟨?_, ?_, ?_, ?_, ?_⟩ <;> with_reducible (first | (refine Rp.cell_dr ?_; assumption) | (refine Rp.IsPart.dr ?_; assumption) | (refine Rp.Rep.dr ?_; assumption) | (refine Rp.below_dr ?_; exact Below.refl _ _)))
          | (go_split_ands; refine ⟨?_, ?_, ?_, ?_, ?_⟩ <;> with_reducible (first | (refine Rp.cell_up hb2 ?_; assumption) | (refine Rp.IsPart.up hb2 ?_; assumption) | (refine Rp.Rep.up hb2 ?_; assumption) | (refine Rp.below_up ?_ hb2; assumption)))
          | (go_split_ands; refine ⟨?_, ?_, ?_, ?_, ?_⟩ <;> with_reducible (first | (refine Rp.cell_up hb1 ?_; assumption) | (refine Rp.IsPart.up hb1 ?_; assumption) | (refine Rp.Rep.up hb1 ?_; assumption) | (refine Rp.below_up ?_ hb1; assumption))))
        (first
          | (go_at_call 44; go_split_ands; refine (IL.out x k s _ (by assumption) gl h (by omega)).mono ?_; rintro e w1 ⟨r1, rfl, hr1, hb1⟩)
          | (go_at_call 42; go_split_ands; refine (join_any r1 (some ⟨y, 0, none⟩) _ _ _ hr1 (by assumption) (by rw [Rp.ins_len, EL.out, ER.out, Rn.len_data0]; omega)).mono ?_; rintro e w2 ⟨r2, rfl, hr2, hb2⟩))
      go_wp2_with fail
      go_ret
      go_split_ands
      refine ⟨r2, rfl, ?_, by assumption⟩
      have e := Rp.ins_left l.toL r.toL s.data.toList k (by rw [EL.out]; exact h)
      rw [← e] at hr2; exact hr2
    · have d1 : decide (k ≤ l.len) = false := by simp; omega
      go_enter Try.func44, Try.ntmps44
      go_wp2_with (go_at_call 66; refine (single_any _ (some ⟨x, 0, none⟩) _ b5).mono ?_; rintro e w1 ⟨rfl, rfl⟩)
      have hR := hx.rep gl
      have hw1 : IntKind.i64.wrap ((k : Int) - (l.len : Int)) = ((k - l.len : Nat) : Int) := by rw [IntWalk.i64_in _ (by omega)]; omega
      go_region_held3 (fun v => v.cell? ⟨b, 5, none⟩ = some (.pointer (some ⟨x, 0, none⟩)) ∧ v.cell? ⟨b, 6, none⟩ = some (.pointer (some ⟨y, 0, none⟩)) ∧ v.cell? ⟨x, 0, none⟩ = some (.int .i64 l.len) ∧ Rp.IsPart v y r ∧ Rp.Rep v (some ⟨x, 0, none⟩) l.toL ∧ Below w.heap.size w v)
        (first
          | (refine ⟨?_, ?_, ?_, ?_, ?_, ?_⟩ <;> with_reducible (first | (refine Rp.cell_dr ?_; assumption) | (refine Rp.IsPart.dr ?_; assumption) | (refine Rp.Rep.dr ?_; assumption) | (refine Rp.below_dr ?_; exact Below.refl _ _)))
          | (go_split_ands; refine ⟨?_, ?_, ?_, ?_, ?_, ?_⟩ <;> with_reducible (first | (refine Rp.cell_up hb2 ?_; assumption) | (refine Rp.IsPart.up hb2 ?_; assumption) | (refine Rp.Rep.up hb2 ?_; assumption) | (refine Rp.below_up ?_ hb2; assumption)))
          | (go_split_ands; refine ⟨?_, ?_, ?_, ?_, ?_, ?_⟩ <;> with_reducible (first | (refine Rp.cell_up hb1 ?_; assumption) | (refine Rp.IsPart.up hb1 ?_; assumption) | (refine Rp.Rep.up hb1 ?_; assumption) | (refine Rp.below_up ?_ hb1; assumption))))
        (first
          | (go_at_call 44; go_split_ands; refine (IR.out y (k - l.len) s _ (by assumption) gr (by clear hw1; omega) (by clear hw1; omega)).mono ?_; rintro e w1 ⟨r1, rfl, hr1, hb1⟩)
          | (go_at_call 42; go_split_ands; refine (join_any (some ⟨x, 0, none⟩) r1 _ _ _ (by assumption) hr1 (by rw [Rp.ins_len, EL.out, ER.out, Rn.len_data0]; clear hw1; omega)).mono ?_; rintro e w2 ⟨r2, rfl, hr2, hb2⟩))
      clear hw1
      go_wp2_with fail
      go_ret
      go_split_ands
      refine ⟨r2, rfl, ?_, by assumption⟩
      have e := Rp.ins_right l.toL r.toL s.data.toList k (by rw [EL.out]; omega)
      rw [EL.out] at e
      rw [← e] at hr2; exact hr2
set_option maxHeartbeats 400000 in
theorem put_any (p : Option Addr) (k : Nat) (l : List UInt8) (s : ByteArray) (w : World) (hp : Rp.Rep w p l) (hk : k ≤ l.length) (hl : l.length + s.size ≤ 1000000) :
    Calls Try.prog 44 #[.pointer p, .int .i64 k, .string s] w (Rp.RPost w (l.take k ++ s.data.toList ++ l.drop k)) := by
  rcases hp with ⟨rfl, rfl⟩ | ⟨a, ta, rfl, ha, ga, rfl⟩
  · have hs : s.size ≤ 1000000 := by simp at hl; omega
    go_enter Try.func44, Try.ntmps44
    go_wp2_with (go_at_call 38; refine (pieces_any _ _ hs).mono ?_; rintro e w1 ⟨r1, rfl, hr1, hb1⟩)
    go_ret
    exact ⟨r1, rfl, by simpa using hr1, hb1⟩
  · exact put_t ta a k s w ha ga hk hl
end Go.Proofs.Ytnjcahcbeicblaa
