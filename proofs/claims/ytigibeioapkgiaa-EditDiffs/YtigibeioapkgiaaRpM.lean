/- Plain facts on trees of pieces (no program is named here): what is kept by putting together, how high such a tree is. -/
import Derived.Test.YtigibeioapkgiaaRnM
namespace Go.Proofs.Ytigibeioapkgiaa
set_option linter.unusedVariables false
set_option linter.unusedSimpArgs false
namespace Rp
/-- a part: a piece, or two parts -/
inductive Tr where
  | leaf (s : ByteArray)
  | node (l r : Tr)
namespace Tr
def txt : Tr → ByteArray
  | leaf s => s
  | node _ _ => ByteArray.empty
def toL : Tr → List UInt8
  | leaf s => s.data.toList
  | node l r => l.toL ++ r.toL
def ht : Tr → Nat
  | leaf _ => 1
  | node l r => 1 + max l.ht r.ht
def len (t : Tr) : Nat := t.toL.length
def lf : Tr → Tr
  | leaf s => leaf s
  | node l _ => l
def rt : Tr → Tr
  | leaf s => leaf s
  | node _ r => r
/-- pieces have 1 to 64 bytes, what is put together more -/
def Good : Tr → Prop
  | leaf s => 1 ≤ s.size ∧ s.size ≤ 64
  | node l r => l.Good ∧ r.Good ∧ 64 < l.len + r.len ∧ l.ht ≤ r.ht + 1 ∧ r.ht ≤ l.ht + 1
end Tr
open Tr
theorem len_leaf (s : ByteArray) : (leaf s).len = s.size := by simp [Tr.len, Tr.toL]
theorem len_node (l r : Tr) : (node l r).len = l.len + r.len := by simp [Tr.len, Tr.toL]
theorem ht_pos (t : Tr) : 1 ≤ t.ht := by cases t <;> simp [Tr.ht]
theorem ht_one {t : Tr} (h : t.ht ≤ 1) : ∃ s, t = leaf s := by
  cases t with
  | leaf s => exact ⟨s, rfl⟩
  | node l r => have := ht_pos l; simp [Tr.ht] at h; omega
theorem ht_two {t : Tr} (h : 2 ≤ t.ht) : t = node t.lf t.rt := by
  cases t with
  | leaf s => simp [Tr.ht] at h
  | node l r => rfl
theorem good_pos {t : Tr} (g : t.Good) : 1 ≤ t.len := by
  cases t with
  | leaf s => rw [len_leaf]; exact g.1
  | node l r => rw [len_node]; have := g.2.2.1; omega
theorem ht_le_len {t : Tr} (g : t.Good) : t.ht ≤ t.len := by
  induction t with
  | leaf s => rw [len_leaf]; exact g.1
  | node l r il ir =>
    have a := il g.1; have b := ir g.2.1; have c := good_pos g.1; have d := good_pos g.2.1
    rw [len_node]; simp only [Tr.ht]; omega
/-- of at most 64 bytes: a piece -/
theorem small_leaf {t : Tr} (g : t.Good) (h : t.len ≤ 64) : ∃ s, t = leaf s ∧ 1 ≤ s.size := by
  cases t with
  | leaf s => exact ⟨s, rfl, g.1⟩
  | node l r => rw [len_node] at h; have := g.2.2.1; omega
/-- two parts put together whose heights differ by 1 at most -/
def pairT (a b : Tr) : Tr := if a.len + b.len ≤ 64 then leaf (a.txt ++ b.txt) else node a b
theorem pair_small {a b : Tr} (ga : a.Good) (gb : b.Good) (h : a.len + b.len ≤ 64) : ∃ s u, a = leaf s ∧ b = leaf u ∧ 1 ≤ s.size ∧ 1 ≤ u.size ∧ pairT a b = leaf (s ++ u) := by
  obtain ⟨s, rfl, hs⟩ := small_leaf ga (by omega)
  obtain ⟨u, rfl, hu⟩ := small_leaf gb (by omega)
  exact ⟨s, u, rfl, rfl, hs, hu, by unfold pairT; rw [if_pos h]; rfl⟩
theorem pair_big {a b : Tr} (h : ¬ a.len + b.len ≤ 64) : pairT a b = node a b := by unfold pairT; rw [if_neg h]
theorem append_data (s u : ByteArray) : (s ++ u).data.toList = s.data.toList ++ u.data.toList := by simp
theorem pair_toL {a b : Tr} (ga : a.Good) (gb : b.Good) : (pairT a b).toL = a.toL ++ b.toL := by
  by_cases h : a.len + b.len ≤ 64
  · obtain ⟨s, u, rfl, rfl, _, _, e⟩ := pair_small ga gb h
    rw [e]; simp [Tr.toL]
  · rw [pair_big h]; rfl
theorem pair_len {a b : Tr} (ga : a.Good) (gb : b.Good) : (pairT a b).len = a.len + b.len := by
  unfold Tr.len; rw [pair_toL ga gb]; simp
theorem pair_ht {a b : Tr} (ga : a.Good) (gb : b.Good) : ((pairT a b).ht = 1 + max a.ht b.ht ∧ pairT a b = node a b) ∨ (a.len + b.len ≤ 64 ∧ a.ht = 1 ∧ b.ht = 1 ∧ (pairT a b).ht = 1) := by
  by_cases h : a.len + b.len ≤ 64
  · obtain ⟨s, u, rfl, rfl, _, _, e⟩ := pair_small ga gb h
    exact .inr ⟨h, rfl, rfl, by rw [e]; rfl⟩
  · exact .inl ⟨by rw [pair_big h]; rfl, pair_big h⟩
theorem pair_good {a b : Tr} (ga : a.Good) (gb : b.Good) (h1 : a.ht ≤ b.ht + 1) (h2 : b.ht ≤ a.ht + 1) : (pairT a b).Good := by
  by_cases h : a.len + b.len ≤ 64
  · obtain ⟨s, u, rfl, rfl, hs, hu, e⟩ := pair_small ga gb h
    rw [e]; rw [len_leaf, len_leaf] at h
    constructor
    · simp; omega
    · simp; omega
  · rw [pair_big h]; exact ⟨ga, gb, by omega, h1, h2⟩
theorem pair_ht_le {a b : Tr} (ga : a.Good) (gb : b.Good) : (pairT a b).ht ≤ 1 + max a.ht b.ht := by
  rcases pair_ht ga gb with ⟨h, _⟩ | ⟨_, h1, h2, h⟩ <;> omega
/-- two parts put together whose heights differ by 2 at most -/
def balT (a b : Tr) : Tr :=
  if a.ht + 1 < b.ht then
    if b.rt.ht < b.lf.ht then pairT (pairT a b.lf.lf) (pairT b.lf.rt b.rt) else pairT (pairT a b.lf) b.rt
  else if b.ht + 1 < a.ht then
    if a.lf.ht < a.rt.ht then pairT (pairT a.lf a.rt.lf) (pairT a.rt.rt b) else pairT a.lf (pairT a.rt b)
  else pairT a b
theorem bal_l1 {a x y z : Tr} (h : a.ht + 1 < (node (node x y) z).ht) (h2 : z.ht < (node x y).ht) : balT a (node (node x y) z) = pairT (pairT a x) (pairT y z) := by
  unfold balT; rw [if_pos h]; exact if_pos h2
theorem bal_l2 {a l r : Tr} (h : a.ht + 1 < (node l r).ht) (h2 : ¬ r.ht < l.ht) : balT a (node l r) = pairT (pairT a l) r := by
  unfold balT; rw [if_pos h]; exact if_neg h2
theorem bal_r1 {b x y z : Tr} (h : b.ht + 1 < (node x (node y z)).ht) (h2 : x.ht < (node y z).ht) : balT (node x (node y z)) b = pairT (pairT x y) (pairT z b) := by
  unfold balT; rw [if_neg (by omega), if_pos h]; exact if_pos h2
theorem bal_r2 {b l r : Tr} (h : b.ht + 1 < (node l r).ht) (h2 : ¬ l.ht < r.ht) : balT (node l r) b = pairT l (pairT r b) := by
  unfold balT; rw [if_neg (by omega), if_pos h]; exact if_neg h2
theorem bal_no {a b : Tr} (h : a.ht ≤ b.ht + 1) (h2 : b.ht ≤ a.ht + 1) : balT a b = pairT a b := by
  unfold balT; rw [if_neg (by omega), if_neg (by omega)]
/-- what is known of t, as a and b put together -/
structure Joined (a b t : Tr) : Prop where
  good : t.Good
  text : t.toL = a.toL ++ b.toL
  low : max a.ht b.ht ≤ t.ht
  high : t.ht ≤ 1 + max a.ht b.ht
  left : a.ht = 2 → b.ht = 1 → t.ht = 3 → t.lf.ht = 1
  right : a.ht = 1 → b.ht = 2 → t.ht = 3 → t.rt.ht = 1
theorem joined_pair {a b : Tr} (ga : a.Good) (gb : b.Good) (h1 : a.ht ≤ b.ht + 1) (h2 : b.ht ≤ a.ht + 1) (n1 : ¬ (a.ht = 2 ∧ b.ht = 1)) (n2 : ¬ (b.ht = 2 ∧ a.ht = 1)) : Joined a b (pairT a b) := by
  have hh := pair_ht ga gb
  have hp := ht_pos a; have hq := ht_pos b
  exact ⟨pair_good ga gb h1 h2, pair_toL ga gb, by rcases hh with ⟨h, _⟩ | ⟨_, h3, h4, h⟩ <;> omega, pair_ht_le ga gb, fun x y => absurd ⟨x, y⟩ n1, fun x y => absurd ⟨y, x⟩ n2⟩
set_option maxHeartbeats 2000000 in
/-- a is two parts, and too high for b: b goes to its right part -/
theorem joined_over {l r b t : Tr} (ga : (node l r).Good) (gb : b.Good) (hov : b.ht + 1 < (node l r).ht ∨ ((node l r).ht = 2 ∧ b.ht = 1)) (J : Joined r b t) : Joined (node l r) b (balT l t) := by
  obtain ⟨gl, gr, hlen, hb1, hb2⟩ := ga
  have pl := ht_pos l; have pr := ht_pos r; have pb := ht_pos b
  have eh : (node l r).ht = 1 + max l.ht r.ht := rfl
  rw [eh] at hov
  have jl := J.low; have jh := J.high
  have etl : (node l r).toL = l.toL ++ r.toL := rfl
  have htl : t.len = r.len + b.len := by unfold Tr.len; rw [J.text]; simp
  have pbl := good_pos gb
  by_cases hd : t.ht ≤ l.ht + 1
  · have hd2 : l.ht ≤ t.ht + 1 := by omega
    rw [bal_no hd2 hd]
    have hh := pair_ht gl J.good
    have hno : (pairT l t).ht = 1 + max l.ht t.ht ∧ pairT l t = node l t := by
      rcases hh with h | ⟨h0, h3, h4, h⟩
      · exact h
      · omega
    refine ⟨pair_good gl J.good hd2 hd, ?_, ?_, ?_, ?_, ?_⟩
    · rw [pair_toL gl J.good, J.text, etl, List.append_assoc]
    · rw [hno.1, eh]; omega
    · rw [hno.1, eh]; omega
    · intro h1 h2 h3; rw [hno.2]; show l.ht = 1; omega
    · intro h1; omega
  · -- t is 2 higher than l
    obtain ⟨tl, tr, rfl⟩ : ∃ tl tr, t = node tl tr := ⟨_, _, ht_two (by omega)⟩
    obtain ⟨gtl, gtr, tlen, tb1, tb2⟩ := J.good
    have et : (node tl tr).ht = 1 + max tl.ht tr.ht := rfl
    have ett : (node tl tr).toL = tl.toL ++ tr.toL := rfl
    have jt := J.text
    rw [et] at jl jh hd
    have ptl := ht_pos tl; have ptr := ht_pos tr
    by_cases hz : tr.ht < tl.ht
    · obtain ⟨x, y, rfl⟩ : ∃ x y, tl = node x y := ⟨_, _, ht_two (by omega)⟩
      obtain ⟨gx, gy, xlen, xb1, xb2⟩ := gtl
      have ex : (node x y).ht = 1 + max x.ht y.ht := rfl
      rw [bal_l1 (by rw [et]; omega) hz]
      have h1 := pair_ht gl gx
      have h2 := pair_ht gy gtr
      have g1 := pair_good gl gx (by omega) (by omega)
      have g2 := pair_good gy gtr (by omega) (by omega)
      have h3 := pair_ht g1 g2
      have l1 := pair_len gl gx
      have l2 := pair_len gy gtr
      have elx : (node x y).toL = x.toL ++ y.toL := rfl
      have px := ht_pos x; have py := ht_pos y
      rw [len_node] at htl
      rw [len_node] at htl
      have hex : ¬ (l.ht = 1 ∧ x.ht = 1 ∧ y.ht = 1 ∧ tr.ht = 1) := by
        rintro ⟨e1, e2, e3, e4⟩
        have := J.left (by omega) (by omega) (by rw [et]; omega)
        have e5 : (node (node x y) tr).lf.ht = (node x y).ht := rfl
        omega
      refine ⟨pair_good g1 g2 (by omega) (by omega), ?_, ?_, ?_, ?_, ?_⟩
      · rw [pair_toL g1 g2, pair_toL gl gx, pair_toL gy gtr, etl, List.append_assoc l.toL r.toL b.toL, ← jt, ett, elx]; simp [List.append_assoc]
      · rw [eh]; omega
      · rw [eh]; omega
      · intro h1' h2' _; omega
      · intro h1' h2' _; omega
    · rw [bal_l2 (by rw [et]; omega) hz]
      have h1 := pair_ht gl gtl
      have g1 := pair_good gl gtl (by omega) (by omega)
      have h3 := pair_ht g1 gtr
      refine ⟨pair_good g1 gtr (by omega) (by omega), ?_, ?_, ?_, ?_, ?_⟩
      · rw [pair_toL g1 gtr, pair_toL gl gtl, etl, List.append_assoc l.toL r.toL b.toL, ← jt, ett]; simp [List.append_assoc]
      · rw [eh]; omega
      · rw [eh]; omega
      · intro h1' h2' _; omega
      · intro h1' h2' _; omega
set_option maxHeartbeats 2000000 in
/-- b is two parts, and too high for a: a goes to its left part -/
theorem joined_under {a l r t : Tr} (ga : a.Good) (gb : (node l r).Good) (hov : a.ht + 1 < (node l r).ht ∨ ((node l r).ht = 2 ∧ a.ht = 1)) (J : Joined a l t) : Joined a (node l r) (balT t r) := by
  obtain ⟨gl, gr, hlen, hb1, hb2⟩ := gb
  have pl := ht_pos l; have pr := ht_pos r; have pa := ht_pos a
  have eh : (node l r).ht = 1 + max l.ht r.ht := rfl
  rw [eh] at hov
  have jl := J.low; have jh := J.high
  have etl : (node l r).toL = l.toL ++ r.toL := rfl
  have htl : t.len = a.len + l.len := by unfold Tr.len; rw [J.text]; simp
  have pal := good_pos ga
  by_cases hd : t.ht ≤ r.ht + 1
  · have hd2 : r.ht ≤ t.ht + 1 := by omega
    rw [bal_no hd hd2]
    have hh := pair_ht J.good gr
    have hno : (pairT t r).ht = 1 + max t.ht r.ht ∧ pairT t r = node t r := by
      rcases hh with h | ⟨h0, h3, h4, h⟩
      · exact h
      · omega
    refine ⟨pair_good J.good gr hd hd2, ?_, ?_, ?_, ?_, ?_⟩
    · rw [pair_toL J.good gr, J.text, etl, List.append_assoc]
    · rw [hno.1, eh]; omega
    · rw [hno.1, eh]; omega
    · intro h1 h2; omega
    · intro h1 h2 h3; rw [hno.2]; show r.ht = 1; omega
  · obtain ⟨tl, tr, rfl⟩ : ∃ tl tr, t = node tl tr := ⟨_, _, ht_two (by omega)⟩
    obtain ⟨gtl, gtr, tlen, tb1, tb2⟩ := J.good
    have et : (node tl tr).ht = 1 + max tl.ht tr.ht := rfl
    have ett : (node tl tr).toL = tl.toL ++ tr.toL := rfl
    have jt := J.text
    rw [et] at jl jh hd
    have ptl := ht_pos tl; have ptr := ht_pos tr
    by_cases hz : tl.ht < tr.ht
    · obtain ⟨x, y, rfl⟩ : ∃ x y, tr = node x y := ⟨_, _, ht_two (by omega)⟩
      obtain ⟨gx, gy, xlen, xb1, xb2⟩ := gtr
      have ex : (node x y).ht = 1 + max x.ht y.ht := rfl
      rw [bal_r1 (by rw [et]; omega) hz]
      have h1 := pair_ht gtl gx
      have h2 := pair_ht gy gr
      have g1 := pair_good gtl gx (by omega) (by omega)
      have g2 := pair_good gy gr (by omega) (by omega)
      have h3 := pair_ht g1 g2
      have l1 := pair_len gtl gx
      have l2 := pair_len gy gr
      have elx : (node x y).toL = x.toL ++ y.toL := rfl
      have px := ht_pos x; have py := ht_pos y
      rw [len_node] at htl
      rw [len_node] at htl
      have hex : ¬ (r.ht = 1 ∧ x.ht = 1 ∧ y.ht = 1 ∧ tl.ht = 1) := by
        rintro ⟨e1, e2, e3, e4⟩
        have := J.right (by omega) (by omega) (by rw [et]; omega)
        have e5 : (node tl (node x y)).rt.ht = (node x y).ht := rfl
        omega
      refine ⟨pair_good g1 g2 (by omega) (by omega), ?_, ?_, ?_, ?_, ?_⟩
      · rw [pair_toL g1 g2, pair_toL gtl gx, pair_toL gy gr, etl, ← List.append_assoc a.toL l.toL r.toL, ← jt, ett, elx]; simp [List.append_assoc]
      · rw [eh]; omega
      · rw [eh]; omega
      · intro h1' h2' _; omega
      · intro h1' h2' _; omega
    · rw [bal_r2 (by rw [et]; omega) hz]
      have h1 := pair_ht gtr gr
      have g1 := pair_good gtr gr (by omega) (by omega)
      have h3 := pair_ht gtl g1
      refine ⟨pair_good gtl g1 (by omega) (by omega), ?_, ?_, ?_, ?_, ?_⟩
      · rw [pair_toL gtl g1, pair_toL gtr gr, etl, ← List.append_assoc a.toL l.toL r.toL, ← jt, ett]; simp [List.append_assoc]
      · rw [eh]; omega
      · rw [eh]; omega
      · intro h1' h2' _; omega
      · intro h1' h2' _; omega
/-- how many bits a number has -/
def bits (n : Nat) : Nat := if n = 0 then 0 else 1 + bits (n / 2)
termination_by n
decreasing_by omega
theorem bits_ge (k n : Nat) (h : 2 ^ k ≤ n) : k + 1 ≤ bits n := by
  induction k generalizing n with
  | zero => rw [bits, if_neg (by simp at h; omega)]; omega
  | succ k ih =>
    have hp : 2 ^ (k + 1) = 2 * 2 ^ k := by rw [Nat.pow_succ]; omega
    have h0 : 0 < 2 ^ k := Nat.pow_pos (by decide)
    have := ih (n / 2) (by omega)
    rw [bits, if_neg (by omega)]; omega
theorem good_grows (k : Nat) (t : Tr) (g : t.Good) (h : 2 * k + 1 ≤ t.ht) : 2 ^ k ≤ t.len := by
  induction k generalizing t with
  | zero => exact good_pos g
  | succ k ih =>
    obtain ⟨l, r, rfl⟩ : ∃ l r, t = node l r := ⟨_, _, ht_two (by omega)⟩
    obtain ⟨gl, gr, _, h1, h2⟩ := g
    have e : (node l r).ht = 1 + max l.ht r.ht := rfl
    have a := ih l gl (by omega)
    have b := ih r gr (by omega)
    rw [len_node, Nat.pow_succ]; omega
theorem good_bound {t : Tr} (g : t.Good) : t.ht ≤ 4 + 2 * bits t.len := by
  have h := good_grows ((t.ht - 1) / 2) t g (by have := ht_pos t; omega)
  have := bits_ge _ _ h
  omega
end Rp
end Go.Proofs.Ytigibeioapkgiaa
