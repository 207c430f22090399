/- What 'write' does, walked. -/
import Derived.Test.YtigibeioapkgiaaRpI
namespace Go.Proofs.Ytigibeioapkgiaa
set_option linter.unusedVariables false
set_option linter.unusedSimpArgs false
open Go.RowKit
open Rp (Tr)
/-- the bytes from f on ahead of g -/
def Rp.sl (l : List UInt8) (f g : Int) : List UInt8 := (l.take g.toNat).drop f.toNat
theorem Rp.sl_append (a b : List UInt8) (f g : Int) : Rp.sl (a ++ b) f g = Rp.sl a f g ++ Rp.sl b (f - a.length) (g - a.length) := by
  unfold Rp.sl
  have e1 : (f - (a.length : Int)).toNat = f.toNat - a.length := by omega
  have e2 : (g - (a.length : Int)).toNat = g.toNat - a.length := by omega
  rw [e1, e2, List.take_append, List.drop_append]
  by_cases h : g.toNat ≤ a.length
  · have e3 : g.toNat - a.length = 0 := by omega
    rw [e3]; simp
  · have e3 : (a.take g.toNat).length = a.length := by simp; omega
    rw [e3]
theorem Rp.sl_none (l : List UInt8) (f g : Int) (h : g ≤ f ∨ g ≤ 0 ∨ (l.length : Int) ≤ f) : Rp.sl l f g = [] := by
  unfold Rp.sl
  exact List.drop_of_length_le (by simp; omega)
theorem Rp.sl_len (l : List UInt8) (f g : Int) : (Rp.sl l f g).length ≤ l.length := by unfold Rp.sl; simp; omega
theorem Rp.sl_mid (u : ByteArray) (f g : Int) (F G : Nat) (hF : F = f.toNat) (hG : (G : Int) = min g u.size) (hg : 0 < g) : (u.extract F G).data.toList = Rp.sl u.data.toList f g := by
  unfold Rp.sl
  have e : u.data.toList.length = u.size := by simp
  have h1 : u.data.toList.take g.toNat = u.data.toList.take G := by
    by_cases h : g ≤ u.size
    · have : G = g.toNat := by omega
      rw [this]
    · rw [List.take_of_length_le (by omega), List.take_of_length_le (by omega)]
  rw [h1, ← hF]
  simp [List.drop_take]
/-- behind writing: the builder at bb holds the bytes bs, nothing of W has changed -/
def Rp.WPost (W : World) (bb : Nat) (bs : List UInt8) (e : Ending) (w' : World) : Prop := e = .returned (.tuple #[]) ∧ Lib.IsBuilder 86 5 W.heap.size bb (Lib.byteCells bs) w' ∧ Below W.heap.size W w'
theorem Rp.bld_dr {T U : TypeId} {B b : Nat} {bs : List Value} {w : World} (h : Lib.IsBuilder T U B b bs w) : Lib.IsBuilder T U B b bs w.drew := h
set_option maxRecDepth 100000 in
set_option maxHeartbeats 1000000 in
theorem write_t (t : Tr) : ∀ (b bb : Nat) (f g : Int) (bs : List UInt8) (W w : World), Rp.IsPart W b t → t.Good → Below W.heap.size W w → Lib.IsBuilder 86 5 W.heap.size bb (Lib.byteCells bs) w → bs.length + t.len ≤ 1000000 → -1099511627776 + t.len ≤ f → f ≤ 1099511627776 → -1099511627776 + t.len ≤ g → g ≤ 1099511627776 →
    Calls Try.prog 53 #[.pointer (some ⟨bb, 0, none⟩), .pointer (some ⟨b, 0, none⟩), .int .i64 f, .int .i64 g] w (Rp.WPost W bb (bs ++ Rp.sl t.toL f g)) := by
  induction t with
  | leaf u =>
    intro b bb f g bs W w hb G0 hW hbld hl f1 f2 g1 g2
    have hlt := hb.lt
    obtain ⟨b0, _, _, _, b4, b5, _⟩ : Rp.Cells W b (.leaf u) none none := hb
    rw [Rp.len_leaf] at b0 hl f1 g1
    have b4' : W.cell? ⟨b, 4, none⟩ = some (.string u) := b4
    clear b4
    replace b0 := Rp.cell_up hW b0
    replace b4' := Rp.cell_up hW b4'
    replace b5 := Rp.cell_up hW b5
    obtain ⟨z1, z2⟩ : 1 ≤ u.size ∧ u.size ≤ 64 := G0
    have el : (Tr.leaf u).toL.length = u.size := by simp [Tr.toL]
    by_cases k1 : g ≤ f ∨ g ≤ 0 ∨ (u.size : Int) ≤ f
    · have E := Lib.hid (Rp.sl_none (Tr.leaf u).toL f g (by rw [el]; exact k1))
      clear el
      by_cases k2 : g ≤ f
      · have d1 : decide (g ≤ f) = true := by simp; omega
        clear k1 k2
        go_enter Try.func53, Try.ntmps53
        go_wp2_with fail
        go_end0
        exact ⟨rfl, by rw [E.out, List.append_nil]; exact hbld, hW⟩
      · by_cases k3 : g ≤ 0
        · have d1 : decide (g ≤ f) = false := by simp; omega
          have d2 : decide (g ≤ 0) = true := by simp; omega
          clear k1 k2 k3
          go_enter Try.func53, Try.ntmps53
          go_wp2_with fail
          go_end0
          exact ⟨rfl, by rw [E.out, List.append_nil]; exact hbld, hW⟩
        · have d1 : decide (g ≤ f) = false := by simp; omega
          have d2 : decide (g ≤ 0) = false := by simp; omega
          have d3 : decide ((u.size : Int) ≤ f) = true := by simp; omega
          clear k1 k2 k3
          go_enter Try.func53, Try.ntmps53
          go_wp2_with fail
          go_end0
          exact ⟨rfl, by rw [E.out, List.append_nil]; exact hbld, hW⟩
    · have d1 : decide (g ≤ f) = false := by simp; omega
      have d2 : decide (g ≤ 0) = false := by simp; omega
      have d3 : decide ((u.size : Int) ≤ f) = false := by simp; omega
      obtain ⟨F, hF⟩ : ∃ F : Nat, F = f.toNat := ⟨_, rfl⟩
      obtain ⟨G, hG⟩ : ∃ G : Nat, (G : Int) = min g u.size := ⟨(min g u.size).toNat, by omega⟩
      have E := Rp.sl_mid u f g F G hF hG (by omega)
      have E' := Lib.hid E; clear E
      have m1 : max f 0 = (F : Int) := by omega
      have m2 : min g (u.size : Int) = (G : Int) := by omega
      have i1 : (0 : Int) ≤ (F : Int) := by omega
      have i2 : (F : Int) ≤ (G : Int) := by omega
      have i4 : (G : Int) ≤ (u.size : Int) := by omega
      have z4 : (Lib.byteCells bs).length + (u.extract F G).size ≤ 140737488355328 := by rw [Lib.byteCells_length]; simp; omega
      have Z := Lib.hid z4; clear z4
      have hWs := hW.size
      clear el k1 hF hG
      go_enter Try.func53, Try.ntmps53
      go_wp2_with (go_at_call 61; refine (single_any _ none _ b5).mono ?_; rintro e w1 ⟨rfl, rfl⟩)
      go_region_held3 (fun v => v.cell? ⟨b, 4, none⟩ = some (.string u) ∧ v.cell? ⟨b, 0, none⟩ = some (.int .i64 u.size))
        (first
          | (refine ⟨?_, ?_⟩ <;> with_reducible (first | (refine Rp.cell_dr ?_; assumption)))
          | (go_split_ands; refine ⟨?_, ?_⟩ <;> with_reducible (first | (refine Rp.cell_on hb1 ?_ hlt; assumption))))
        (first
          | (go_at_call 66; refine (writeString_any W.heap.size bb (Lib.byteCells bs) _ _ (Rp.bld_dr hbld) Z.out hWs).mono ?_; rintro e w1 ⟨rfl, hd, hb1⟩))
      all_goals
        go_wp2_with fail
        go_end0
        refine ⟨rfl, .inr ?_, hW.drew.trans hb1⟩
        rw [Lib.byteCells_append]
        have : Rp.sl (Tr.leaf u).toL f g = (u.extract F G).data.toList := E'.out.symm
        rw [this]; exact hd
  | node l r il ir =>
    intro b bb f g bs W w hb G0 hW hbld hl f1 f2 g1 g2
    have IL := Lib.hid il; clear il
    have IR := Lib.hid ir; clear ir
    obtain ⟨x, y, ⟨b0, _, _, _, _, b5, b6⟩, hx, hy⟩ := hb
    have hlt : b < W.heap.size := World.block_lt_of_cell? W _ b0
    have hltx := hx.lt
    obtain ⟨_, _, ⟨x0, _, _, _, _, _, _⟩⟩ := hx.cells
    obtain ⟨gl, gr, _, _, _⟩ := G0
    have hpl := Rp.good_pos gl; have hpr := Rp.good_pos gr
    have el : (Tr.node l r).toL.length = (Tr.node l r).len := rfl
    have eln := Rp.len_node l r
    have b6W := Lib.hid b6
    replace b0 := Rp.cell_up hW b0
    replace b5 := Rp.cell_up hW b5
    replace b6 := Rp.cell_up hW b6
    replace x0 := Rp.cell_up hW x0
    by_cases k1 : g ≤ f ∨ g ≤ 0 ∨ ((Tr.node l r).len : Int) ≤ f
    · have E := Lib.hid (Rp.sl_none (Tr.node l r).toL f g (by rw [el]; exact k1))
      clear el eln
      by_cases k2 : g ≤ f
      · have d1 : decide (g ≤ f) = true := by simp; omega
        clear k1 k2
        go_enter Try.func53, Try.ntmps53
        go_wp2_with fail
        go_end0
        exact ⟨rfl, by rw [E.out, List.append_nil]; exact hbld, hW⟩
      · by_cases k3 : g ≤ 0
        · have d1 : decide (g ≤ f) = false := by simp; omega
          have d2 : decide (g ≤ 0) = true := by simp; omega
          clear k1 k2 k3
          go_enter Try.func53, Try.ntmps53
          go_wp2_with fail
          go_end0
          exact ⟨rfl, by rw [E.out, List.append_nil]; exact hbld, hW⟩
        · have d1 : decide (g ≤ f) = false := by simp; omega
          have d2 : decide (g ≤ 0) = false := by simp; omega
          have d3 : decide (((Tr.node l r).len : Int) ≤ f) = true := by simp; omega
          clear k1 k2 k3
          go_enter Try.func53, Try.ntmps53
          go_wp2_with fail
          go_end0
          exact ⟨rfl, by rw [E.out, List.append_nil]; exact hbld, hW⟩
    · have d1 : decide (g ≤ f) = false := by simp; omega
      have d2 : decide (g ≤ 0) = false := by simp; omega
      have d3 : decide (((Tr.node l r).len : Int) ≤ f) = false := by simp; omega
      have E := Rp.sl_append l.toL r.toL f g
      have e2 : (l.toL.length : Int) = l.len := rfl
      rw [e2] at E
      have E' := Lib.hid E; clear E e2
      have q1 : -1099511627776 + (l.len : Int) ≤ f ∧ -1099511627776 + (r.len : Int) ≤ f - l.len ∧ -1099511627776 + (l.len : Int) ≤ g ∧ -1099511627776 + (r.len : Int) ≤ g - l.len ∧ f - l.len ≤ 1099511627776 ∧ g - l.len ≤ 1099511627776 ∧ bs.length + l.len ≤ 1000000 := by omega
      have Q := Lib.hid q1; clear q1
      have q2 : (bs ++ Rp.sl l.toL f g).length + r.len ≤ 1000000 := by
        have := Rp.sl_len l.toL f g
        have e3 : l.toL.length = l.len := rfl
        rw [List.length_append]; omega
      have Q2 := Lib.hid q2; clear q2
      have y1 : l.len ≤ 1000000 := by omega
      have y2 : -1099511627776 ≤ f := by omega
      have y3 : -1099511627776 ≤ g := by omega
      clear el eln k1
      go_enter Try.func53, Try.ntmps53
      go_wp2_with (go_at_call 61; refine (single_any _ (some ⟨x, 0, none⟩) _ b5).mono ?_; rintro e w1 ⟨rfl, rfl⟩)
      refine (IL.out x bb f g bs W w hx gl hW hbld Q.out.2.2.2.2.2.2 Q.out.1 f2 Q.out.2.2.1 g2).mono ?_
      rintro e w1 ⟨rfl, hbld1, hW1⟩
      have b6' := Rp.cell_up hW1 b6W.out
      clear b6
      go_wp2_with fail
      refine (IR.out y bb (f - l.len) (g - l.len) _ W w1 hy gr hW1 hbld1 Q2.out Q.out.2.1 Q.out.2.2.2.2.1 Q.out.2.2.2.1 Q.out.2.2.2.2.2.1).mono ?_
      rintro e w2 ⟨rfl, hbld2, hW2⟩
      go_wp2_with fail
      go_end0
      refine ⟨rfl, ?_, hW2⟩
      have e4 : Rp.sl (Tr.node l r).toL f g = _ := E'.out
      rw [e4, ← List.append_assoc]; exact hbld2
end Go.Proofs.Ytigibeioapkgiaa
