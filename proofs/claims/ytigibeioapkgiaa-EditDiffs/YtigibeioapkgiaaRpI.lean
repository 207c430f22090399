/- What 'take' answers, walked. -/
import Derived.Test.YtigibeioapkgiaaRpH
namespace Go.Proofs.Ytigibeioapkgiaa
set_option linter.unusedVariables false
set_option linter.unusedSimpArgs false
open Go.RowKit
open Rp (Tr)
/-- a text without the bytes from f on ahead of g -/
def Rp.tk (l : List UInt8) (f g : Int) : List UInt8 := if f < g then l.take f.toNat ++ l.drop g.toNat else l
theorem Rp.tk_append (a b : List UInt8) (f g : Int) : Rp.tk (a ++ b) f g = Rp.tk a f g ++ Rp.tk b (f - a.length) (g - a.length) := by
  unfold Rp.tk
  by_cases h : f < g
  · rw [if_pos h, if_pos h, if_pos (by omega), List.take_append, List.drop_append]
    have e1 : (f - (a.length : Int)).toNat = f.toNat - a.length := by omega
    have e2 : (g - (a.length : Int)).toNat = g.toNat - a.length := by omega
    rw [e1, e2]
    by_cases h2 : f.toNat ≤ a.length
    · have e3 : f.toNat - a.length = 0 := by omega
      rw [e3]; simp
    · have e3 : a.drop g.toNat = [] := List.drop_of_length_le (by omega)
      rw [e3]; simp
  · rw [if_neg h, if_neg h, if_neg (by omega)]
theorem Rp.tk_same (l : List UInt8) (f g : Int) (h : g ≤ f ∨ g ≤ 0 ∨ (l.length : Int) ≤ f) : Rp.tk l f g = l := by
  unfold Rp.tk
  by_cases h0 : f < g
  · rw [if_pos h0]
    rcases h with h | h | h
    · omega
    · have e1 : f.toNat = 0 := by omega
      have e2 : g.toNat = 0 := by omega
      rw [e1, e2]; simp
    · rw [List.take_of_length_le (by omega), List.drop_of_length_le (by omega)]; simp
  · rw [if_neg h0]
theorem Rp.tk_none (l : List UInt8) (f g : Int) (h0 : f < g) (h1 : f ≤ 0) (h2 : (l.length : Int) ≤ g) : Rp.tk l f g = [] := by
  unfold Rp.tk
  have e1 : f.toNat = 0 := by omega
  rw [if_pos h0, e1, List.drop_of_length_le (by omega)]; simp
theorem Rp.tk_len (l : List UInt8) (f g : Int) : (Rp.tk l f g).length ≤ l.length := by
  unfold Rp.tk
  split
  · simp; omega
  · exact Nat.le_refl _
theorem Rp.tk_mid (u : ByteArray) (f g : Int) (h0 : f < g) (G : Nat) (hG : (G : Int) = min g u.size) (hg : 0 < g) : (u.extract 0 f.toNat ++ u.extract G u.size).data.toList = Rp.tk u.data.toList f g := by
  unfold Rp.tk
  rw [if_pos h0, Rp.append_data, Rp.ext_left, Rp.ext_right]
  by_cases h : g ≤ u.size
  · have : G = g.toNat := by omega
    rw [this]
  · have e : u.data.toList.length = u.size := by simp
    rw [List.drop_of_length_le (by omega), List.drop_of_length_le (by omega)]
set_option maxRecDepth 100000 in
set_option maxHeartbeats 1000000 in
theorem take_t (t : Tr) : ∀ (b : Nat) (f g : Int) (w : World), Rp.IsPart w b t → t.Good → t.len ≤ 1000000 → -1099511627776 + t.len ≤ f → f ≤ 1099511627776 → -1099511627776 + t.len ≤ g → g ≤ 1099511627776 →
    Calls Try.prog 50 #[.pointer (some ⟨b, 0, none⟩), .int .i64 f, .int .i64 g] w (Rp.RPost w (Rp.tk t.toL f g)) := by
  induction t with
  | leaf u =>
    intro b f g w hb G0 hl f1 f2 g1 g2
    have hrep := hb.rep G0
    obtain ⟨b0, _, _, _, b4, b5, _⟩ : Rp.Cells w b (.leaf u) none none := hb
    rw [Rp.len_leaf] at b0 hl f1 g1
    have b4' : w.cell? ⟨b, 4, none⟩ = some (.string u) := b4
    clear b4
    obtain ⟨z1, z2⟩ : 1 ≤ u.size ∧ u.size ≤ 64 := G0
    have el : (Tr.leaf u).toL.length = u.size := by simp [Tr.toL]
    by_cases k1 : g ≤ f ∨ g ≤ 0 ∨ (u.size : Int) ≤ f
    · have E := Lib.hid (Rp.tk_same (Tr.leaf u).toL f g (by rw [el]; exact k1))
      clear el
      by_cases k2 : g ≤ f
      · have d1 : decide (g ≤ f) = true := by simp; omega
        clear k1 k2
        go_enter Try.func50, Try.ntmps50
        go_wp2_with fail
        go_ret
        exact ⟨_, rfl, by rw [E.out]; exact hrep, Below.refl _ _⟩
      · by_cases k3 : g ≤ 0
        · have d1 : decide (g ≤ f) = false := by simp; omega
          have d2 : decide (g ≤ 0) = true := by simp; omega
          clear k1 k2 k3
          go_enter Try.func50, Try.ntmps50
          go_wp2_with fail
          go_ret
          exact ⟨_, rfl, by rw [E.out]; exact hrep, Below.refl _ _⟩
        · have d1 : decide (g ≤ f) = false := by simp; omega
          have d2 : decide (g ≤ 0) = false := by simp; omega
          have d3 : decide ((u.size : Int) ≤ f) = true := by simp; omega
          clear k1 k2 k3
          go_enter Try.func50, Try.ntmps50
          go_wp2_with fail
          go_ret
          exact ⟨_, rfl, by rw [E.out]; exact hrep, Below.refl _ _⟩
    · have d1 : decide (g ≤ f) = false := by simp; omega
      have d2 : decide (g ≤ 0) = false := by simp; omega
      have d3 : decide ((u.size : Int) ≤ f) = false := by simp; omega
      by_cases k2 : f ≤ 0 ∧ (u.size : Int) ≤ g
      · have E := Lib.hid (Rp.tk_none (Tr.leaf u).toL f g (by omega) k2.1 (by rw [el]; exact k2.2))
        have d4 : decide (f ≤ 0) = true := by simp; omega
        have d5 : decide ((u.size : Int) ≤ g) = true := by simp; omega
        clear el k1 k2
        go_enter Try.func50, Try.ntmps50
        go_wp2_with fail
        go_ret
        exact ⟨_, rfl, by rw [E.out]; exact Rp.Rep.none _, Below.refl _ _⟩
      · obtain ⟨F, hF⟩ : ∃ F : Nat, F = f.toNat := ⟨_, rfl⟩
        obtain ⟨G, hG⟩ : ∃ G : Nat, (G : Int) = min g u.size := ⟨(min g u.size).toNat, by omega⟩
        have E := Rp.tk_mid u f g (by omega) G hG (by omega)
        rw [← hF] at E
        have E' := Lib.hid E; clear E
        have m1 : max f 0 = (F : Int) := by omega
        have m2 : min g (u.size : Int) = (G : Int) := by omega
        have i1 : (0 : Int) ≤ (F : Int) := by omega
        have i2 : (F : Int) ≤ (u.size : Int) := by omega
        have i3 : (0 : Int) ≤ (G : Int) := by omega
        have i4 : (G : Int) ≤ (u.size : Int) := by omega
        have i5 : F ≤ u.size := by omega
        have i6 : G ≤ u.size := by omega
        have c1 : ¬ 9223372036854775807 < F + (u.size - G) := by omega
        have z3 : 1 ≤ (u.extract 0 F ++ u.extract G u.size).size := by simp; omega
        have z4 : (u.extract 0 F ++ u.extract G u.size).size ≤ 64 := by simp; omega
        have Z := Lib.hid (And.intro z3 z4); clear z3 z4
        by_cases k3 : f ≤ 0
        · have d4 : decide (f ≤ 0) = true := by simp; omega
          have d5 : decide ((u.size : Int) ≤ g) = false := by simp; omega
          clear el k1 k2 k3 hF hG
          go_enter Try.func50, Try.ntmps50
          go_wp2_with (go_at_call 61; refine (single_any _ none _ b5).mono ?_; rintro e w1 ⟨rfl, rfl⟩)
          go_region_held3 (fun v => v.cell? ⟨b, 4, none⟩ = some (.string u) ∧ v.cell? ⟨b, 0, none⟩ = some (.int .i64 u.size) ∧ Below w.heap.size w v)
            (first
              | (refine ⟨?_, ?_, ?_⟩ <;> with_reducible (first | (refine Rp.cell_dr ?_; assumption) | (refine Rp.below_dr ?_; exact Below.refl _ _)))
              | (go_split_ands; refine ⟨?_, ?_, ?_⟩ <;> with_reducible (first | (refine Rp.cell_up hb1 ?_; assumption) | (refine Rp.below_up ?_ hb1; assumption))))
            (first
              | (go_at_call 45; refine (piece_some _ _ (Nat.le_trans Z.out.2 (by decide)) Z.out.1).mono ?_; rintro e w1 ⟨r1, rfl, hr1, hb1⟩))
          all_goals
            go_wp2_with fail
            go_ret
            go_split_ands
            exact ⟨_, rfl, .inr ⟨r1, _, rfl, hr1, Z.out, E'.out⟩, by assumption⟩
        · have d4 : decide (f ≤ 0) = false := by simp; omega
          clear el k1 k2 k3 hF hG
          go_enter Try.func50, Try.ntmps50
          go_wp2_with (go_at_call 61; refine (single_any _ none _ b5).mono ?_; rintro e w1 ⟨rfl, rfl⟩)
          go_region_held3 (fun v => v.cell? ⟨b, 4, none⟩ = some (.string u) ∧ v.cell? ⟨b, 0, none⟩ = some (.int .i64 u.size) ∧ Below w.heap.size w v)
            (first
              | (refine ⟨?_, ?_, ?_⟩ <;> with_reducible (first | (refine Rp.cell_dr ?_; assumption) | (refine Rp.below_dr ?_; exact Below.refl _ _)))
              | (go_split_ands; refine ⟨?_, ?_, ?_⟩ <;> with_reducible (first | (refine Rp.cell_up hb1 ?_; assumption) | (refine Rp.below_up ?_ hb1; assumption))))
            (first
              | (go_at_call 45; refine (piece_some _ _ (Nat.le_trans Z.out.2 (by decide)) Z.out.1).mono ?_; rintro e w1 ⟨r1, rfl, hr1, hb1⟩))
          all_goals
            go_wp2_with fail
            go_ret
            go_split_ands
            exact ⟨_, rfl, .inr ⟨r1, _, rfl, hr1, Z.out, E'.out⟩, by assumption⟩
  | node l r il ir =>
    intro b f g w hb G0 hl f1 f2 g1 g2
    have IL := Lib.hid il; clear il
    have IR := Lib.hid ir; clear ir
    have hrep := hb.rep G0
    obtain ⟨x, y, ⟨b0, _, _, _, _, b5, b6⟩, hx, hy⟩ := hb
    obtain ⟨_, _, ⟨x0, _, _, _, _, _, _⟩⟩ := hx.cells
    obtain ⟨gl, gr, _, _, _⟩ := G0
    have hpl := Rp.good_pos gl; have hpr := Rp.good_pos gr
    have el : (Tr.node l r).toL.length = (Tr.node l r).len := rfl
    have eln := Rp.len_node l r
    by_cases k1 : g ≤ f ∨ g ≤ 0 ∨ ((Tr.node l r).len : Int) ≤ f
    · have E := Lib.hid (Rp.tk_same (Tr.node l r).toL f g (by rw [el]; exact k1))
      clear el eln
      by_cases k2 : g ≤ f
      · have d1 : decide (g ≤ f) = true := by simp; omega
        clear k1 k2
        go_enter Try.func50, Try.ntmps50
        go_wp2_with fail
        go_ret
        exact ⟨_, rfl, by rw [E.out]; exact hrep, Below.refl _ _⟩
      · by_cases k3 : g ≤ 0
        · have d1 : decide (g ≤ f) = false := by simp; omega
          have d2 : decide (g ≤ 0) = true := by simp; omega
          clear k1 k2 k3
          go_enter Try.func50, Try.ntmps50
          go_wp2_with fail
          go_ret
          exact ⟨_, rfl, by rw [E.out]; exact hrep, Below.refl _ _⟩
        · have d1 : decide (g ≤ f) = false := by simp; omega
          have d2 : decide (g ≤ 0) = false := by simp; omega
          have d3 : decide (((Tr.node l r).len : Int) ≤ f) = true := by simp; omega
          clear k1 k2 k3
          go_enter Try.func50, Try.ntmps50
          go_wp2_with fail
          go_ret
          exact ⟨_, rfl, by rw [E.out]; exact hrep, Below.refl _ _⟩
    · have d1 : decide (g ≤ f) = false := by simp; omega
      have d2 : decide (g ≤ 0) = false := by simp; omega
      have d3 : decide (((Tr.node l r).len : Int) ≤ f) = false := by simp; omega
      by_cases k2 : f ≤ 0 ∧ ((Tr.node l r).len : Int) ≤ g
      · have E := Lib.hid (Rp.tk_none (Tr.node l r).toL f g (by omega) k2.1 (by rw [el]; exact k2.2))
        have d4 : decide (f ≤ 0) = true := by simp; omega
        have d5 : decide (((Tr.node l r).len : Int) ≤ g) = true := by simp; omega
        clear el eln k1 k2
        go_enter Try.func50, Try.ntmps50
        go_wp2_with fail
        go_ret
        exact ⟨_, rfl, by rw [E.out]; exact Rp.Rep.none _, Below.refl _ _⟩
      · have E := Rp.tk_append l.toL r.toL f g
        have e2 : (l.toL.length : Int) = l.len := rfl
        rw [e2] at E
        have E' := Lib.hid E; clear E e2
        have hw1 : IntKind.i64.wrap (f - (l.len : Int)) = f - l.len := IntWalk.i64_in _ (by omega)
        have hw2 : IntKind.i64.wrap (g - (l.len : Int)) = g - l.len := IntWalk.i64_in _ (by omega)
        have q1 : -1099511627776 + (l.len : Int) ≤ f ∧ -1099511627776 + (r.len : Int) ≤ f - l.len ∧ -1099511627776 + (l.len : Int) ≤ g ∧ -1099511627776 + (r.len : Int) ≤ g - l.len ∧ f - l.len ≤ 1099511627776 ∧ g - l.len ≤ 1099511627776 ∧ l.len ≤ 1000000 ∧ r.len ≤ 1000000 ∧ l.len + r.len ≤ 1000000 := by
          clear hw1 hw2; omega
        have Q := Lib.hid q1; clear q1
        have hlen : (Rp.tk l.toL f g).length + (Rp.tk r.toL (f - l.len) (g - l.len)).length ≤ 1000000 := by
          have a1 := Rp.tk_len l.toL f g
          have a2 := Rp.tk_len r.toL (f - l.len) (g - l.len)
          have a3 := Q.out
          have a4 : l.toL.length = l.len := rfl
          have a5 : r.toL.length = r.len := rfl
          clear hw1 hw2; omega
        have HL := Lib.hid hlen; clear hlen
        by_cases k3 : f ≤ 0
        · have d4 : decide (f ≤ 0) = true := by simp; omega
          have d5 : decide (((Tr.node l r).len : Int) ≤ g) = false := by clear hw1 hw2; simp; omega
          clear el eln k1 k2 k3
          go_enter Try.func50, Try.ntmps50
          go_wp2_with (go_at_call 61; refine (single_any _ (some ⟨x, 0, none⟩) _ b5).mono ?_; rintro e w1 ⟨rfl, rfl⟩)
          go_region_held3 (fun v => v.cell? ⟨b, 5, none⟩ = some (.pointer (some ⟨x, 0, none⟩)) ∧ v.cell? ⟨b, 6, none⟩ = some (.pointer (some ⟨y, 0, none⟩)) ∧ Rp.IsPart v x l ∧ Rp.IsPart v y r ∧ Below w.heap.size w v)
            (first
              | (refine ⟨?_, ?_, ?_, ?_, ?_⟩ <;> with_reducible (first | (refine Rp.cell_dr ?_; assumption) | (refine Rp.IsPart.dr ?_; assumption) | (refine Rp.below_dr ?_; exact Below.refl _ _)))
              | (go_split_ands; refine ⟨?_, ?_, ?_, ?_, ?_⟩ <;> with_reducible (first | (refine Rp.cell_up hb3 ?_; assumption) | (refine Rp.IsPart.up hb3 ?_; assumption) | (refine Rp.below_up ?_ hb3; assumption)))
              | (go_split_ands; refine ⟨?_, ?_, ?_, ?_, ?_⟩ <;> with_reducible (first | (refine Rp.cell_up hb2 ?_; assumption) | (refine Rp.IsPart.up hb2 ?_; assumption) | (refine Rp.below_up ?_ hb2; assumption)))
              | (go_split_ands; refine ⟨?_, ?_, ?_, ?_, ?_⟩ <;> with_reducible (first | (refine Rp.cell_up hb1 ?_; assumption) | (refine Rp.IsPart.up hb1 ?_; assumption) | (refine Rp.below_up ?_ hb1; assumption))))
            (first
              | (go_at_call_of 50 (Value.pointer (some ⟨x, 0, none⟩)); go_split_ands; refine (IL.out x f g _ (by assumption) gl Q.out.2.2.2.2.2.2.1 Q.out.1 f2 Q.out.2.2.1 g2).mono ?_; rintro e w1 ⟨r1, rfl, hr1, hb1⟩)
              | (go_at_call 50; go_split_ands; refine (IR.out y (f - l.len) (g - l.len) _ (by assumption) gr Q.out.2.2.2.2.2.2.2.1 Q.out.2.1 Q.out.2.2.2.2.1 Q.out.2.2.2.1 Q.out.2.2.2.2.2.1).mono ?_; rintro e w2 ⟨r2, rfl, hr2, hb2⟩; have hr1' := hr1.up hb2)
              | (go_at_call 51; refine (join_any r1 r2 _ _ _ hr1' hr2 HL.out).mono ?_; rintro e w3 ⟨r3, rfl, hr3, hb3⟩))
          go_wp2_with fail
          go_ret
          go_split_ands
          exact ⟨r3, rfl, by rw [← E'.out] at hr3; exact hr3, by assumption⟩
        · have d4 : decide (f ≤ 0) = false := by simp; omega
          clear el eln k1 k2 k3
          go_enter Try.func50, Try.ntmps50
          go_wp2_with (go_at_call 61; refine (single_any _ (some ⟨x, 0, none⟩) _ b5).mono ?_; rintro e w1 ⟨rfl, rfl⟩)
          go_region_held3 (fun v => v.cell? ⟨b, 5, none⟩ = some (.pointer (some ⟨x, 0, none⟩)) ∧ v.cell? ⟨b, 6, none⟩ = some (.pointer (some ⟨y, 0, none⟩)) ∧ Rp.IsPart v x l ∧ Rp.IsPart v y r ∧ Below w.heap.size w v)
            (first
              | (refine ⟨?_, ?_, ?_, ?_, ?_⟩ <;> with_reducible (first | (refine Rp.cell_dr ?_; assumption) | (refine Rp.IsPart.dr ?_; assumption) | (refine Rp.below_dr ?_; exact Below.refl _ _)))
              | (go_split_ands; refine ⟨?_, ?_, ?_, ?_, ?_⟩ <;> with_reducible (first | (refine Rp.cell_up hb3 ?_; assumption) | (refine Rp.IsPart.up hb3 ?_; assumption) | (refine Rp.below_up ?_ hb3; assumption)))
              | (go_split_ands; refine ⟨?_, ?_, ?_, ?_, ?_⟩ <;> with_reducible (first | (refine Rp.cell_up hb2 ?_; assumption) | (refine Rp.IsPart.up hb2 ?_; assumption) | (refine Rp.below_up ?_ hb2; assumption)))
              | (go_split_ands; refine ⟨?_, ?_, ?_, ?_, ?_⟩ <;> with_reducible (first | (refine Rp.cell_up hb1 ?_; assumption) | (refine Rp.IsPart.up hb1 ?_; assumption) | (refine Rp.below_up ?_ hb1; assumption))))
            (first
              | (go_at_call_of 50 (Value.pointer (some ⟨x, 0, none⟩)); go_split_ands; refine (IL.out x f g _ (by assumption) gl Q.out.2.2.2.2.2.2.1 Q.out.1 f2 Q.out.2.2.1 g2).mono ?_; rintro e w1 ⟨r1, rfl, hr1, hb1⟩)
              | (go_at_call 50; go_split_ands; refine (IR.out y (f - l.len) (g - l.len) _ (by assumption) gr Q.out.2.2.2.2.2.2.2.1 Q.out.2.1 Q.out.2.2.2.2.1 Q.out.2.2.2.1 Q.out.2.2.2.2.2.1).mono ?_; rintro e w2 ⟨r2, rfl, hr2, hb2⟩; have hr1' := hr1.up hb2)
              | (go_at_call 51; refine (join_any r1 r2 _ _ _ hr1' hr2 HL.out).mono ?_; rintro e w3 ⟨r3, rfl, hr3, hb3⟩))
          go_wp2_with fail
          go_ret
          go_split_ands
          exact ⟨r3, rfl, by rw [← E'.out] at hr3; exact hr3, by assumption⟩
set_option maxHeartbeats 400000 in
theorem take_any (p : Option Addr) (f g : Int) (l : List UInt8) (w : World) (hp : Rp.Rep w p l) (hl : l.length ≤ 1000000) (f1 : -1000000 ≤ f) (f2 : f ≤ 1000000) (g1 : -1000000 ≤ g) (g2 : g ≤ 1000000) :
    Calls Try.prog 50 #[.pointer p, .int .i64 f, .int .i64 g] w (Rp.RPost w (Rp.tk l f g)) := by
  rcases hp with ⟨rfl, rfl⟩ | ⟨a, ta, rfl, ha, ga, rfl⟩
  · go_enter Try.func50, Try.ntmps50
    go_wp2_with fail
    go_ret
    exact ⟨none, rfl, .inl ⟨rfl, by unfold Rp.tk; split <;> simp⟩, Below.refl _ _⟩
  · have e : ta.toL.length = ta.len := rfl
    rw [e] at hl
    exact take_t ta a f g w ha ga hl (by omega) (by omega) (by omega) (by omega)
end Go.Proofs.Ytigibeioapkgiaa
