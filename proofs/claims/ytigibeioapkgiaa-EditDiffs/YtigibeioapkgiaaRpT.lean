/- What 'Lines' and 'Signs' answer, walked. The place behind a line feed, plain; what 'behind' answers, walked. What the document's answers of layer 2 are, walked. -/
import Derived.Test.YtigibeioapkgiaaRpQ
namespace Go.Proofs.Ytigibeioapkgiaa
set_option linter.unusedVariables false
set_option linter.unusedSimpArgs false
open Go.RowKit
open Rp (Tr)
theorem Rp.way_take {l pre post : List UInt8} {u : ByteArray} {k : Nat} (hk : k < l.length) (W : Rp.Way (fun x _ _ => decide ((k : Int) < x)) l pre u.data.toList post) :
    ∃ j, k = pre.length + j ∧ j ≤ u.size ∧ l.take k = pre ++ (u.extract 0 j).data.toList := by
  obtain ⟨j, hj, hu, _⟩ := Rp.way_at hk W
  refine ⟨j, hj, by omega, ?_⟩
  rw [W.text, Rp.ext_left, List.append_assoc, List.take_append, List.take_of_length_le (by omega), List.take_append]
  have e1 : k - pre.length = j := by omega
  have e2 : j - u.data.toList.length = 0 := by simp; omega
  rw [e1, e2]; simp
/-- what ahead's frame lays: the rope, the place, the sum -/
structure Rp.Laid (w : World) (p : Option Addr) (i : Int) (v : World) : Prop where
  rope : v.cell? ⟨w.heap.size, 0, none⟩ = some (.pointer p)
  place : v.cell? ⟨w.heap.size + 1, 0, none⟩ = some (.int .i64 i)
  box : Rp.Box3 v (w.heap.size + 2) 0 0 0
  be : Below w.heap.size w v
theorem Rp.laid_new (w : World) (p : Option Addr) (i : Int) : Rp.Laid w p i (((w.alloc (.cells #[.pointer p] 27)).alloc (.cells #[.int .i64 i] 3)).alloc (.cells #[.int .i64 0, .int .i64 0, .int .i64 0] 67)) :=
  ⟨by simp [go_sem], by simp [go_sem], by constructor <;> simp [go_sem], Rp.below_al3 _ _ _ _⟩
theorem Rp.Laid.up {w v v' : World} {p : Option Addr} {i : Int} (h : Rp.Laid w p i v) (hb : Below v.heap.size v v') : Rp.Laid w p i v' :=
  ⟨Rp.cell_up hb h.rope, Rp.cell_up hb h.place, h.box.up hb, Rp.below_up h.be hb⟩
theorem Rp.Laid.dr {w v : World} {p : Option Addr} {i : Int} (h : Rp.Laid w p i v) : Rp.Laid w p i v.drew := h.up (Below.refl _ _).drew
open Go.RowKit
open Rp (Tr)
/-- p is the place behind the line feed number k (0: the beginning) -/
def Rp.Behind (l : List UInt8) (k p : Nat) : Prop := p ≤ l.length ∧ Rp.lns (l.take p) = k ∧ (p = 0 ∨ l.getD (p - 1) 0 = 10)
theorem Rp.lns_cons (c : UInt8) (l : List UInt8) : Rp.lns (c :: l) = Rp.lns l + if c = 10 then 1 else 0 := by
  unfold Rp.lns; rw [List.count_cons]; simp
theorem Rp.lns_take_le (l : List UInt8) (i : Nat) : Rp.lns (l.take i) ≤ Rp.lns l := by
  have := Rp.lns_append (l.take i) (l.drop i)
  rw [List.take_append_drop] at this; omega
theorem Rp.lns_take_mono (l : List UInt8) {i j : Nat} (h : i ≤ j) : Rp.lns (l.take i) ≤ Rp.lns (l.take j) := by
  have e : l.take i = (l.take j).take i := by rw [List.take_take]; congr 1; omega
  rw [e]; exact Rp.lns_take_le _ _
theorem Rp.lns_take_succ (l : List UInt8) (i : Nat) (h : i < l.length) : Rp.lns (l.take (i + 1)) = Rp.lns (l.take i) + if l.getD i 0 = 10 then 1 else 0 := by
  rw [List.take_succ_eq_append_getElem h, Rp.lns_append]
  have : l.getD i 0 = l[i] := by simp [h]
  rw [this, Rp.lns_cons]; simp [Rp.lns]
theorem Rp.behind_one {l : List UInt8} {k p q : Nat} (hp : Rp.Behind l k p) (hq : Rp.Behind l k q) : p = q := by
  obtain ⟨p1, p2, p3⟩ := hp
  obtain ⟨q1, q2, q3⟩ := hq
  rcases Nat.lt_trichotomy p q with h | h | h
  · rcases q3 with q3 | q3
    · omega
    · have := Rp.lns_take_succ l (q - 1) (by omega)
      rw [q3, if_pos rfl, Nat.sub_add_cancel (by omega)] at this
      have := Rp.lns_take_mono l (show p ≤ q - 1 by omega)
      omega
  · exact h
  · rcases p3 with p3 | p3
    · omega
    · have := Rp.lns_take_succ l (p - 1) (by omega)
      rw [p3, if_pos rfl, Nat.sub_add_cancel (by omega)] at this
      have := Rp.lns_take_mono l (show q ≤ p - 1 by omega)
      omega
theorem Rp.idx_spec (l : List UInt8) (h : 0 < Rp.lns l) : ∃ d : Nat, Lib.indexByte l 10 = d ∧ d < l.length ∧ l.getD d 0 = 10 ∧ Rp.lns (l.take d) = 0 := by
  induction l with
  | nil => simp [Rp.lns] at h
  | cons c l ih =>
    by_cases hc : c = 10
    · subst hc; exact ⟨0, by simp [Lib.indexByte], by simp, by simp, by simp [Rp.lns]⟩
    · rw [Rp.lns_cons, if_neg hc] at h
      obtain ⟨d, h1, h2, h3, h4⟩ := ih (by omega)
      refine ⟨d + 1, ?_, by simp; omega, by simpa using h3, ?_⟩
      · have hb : (c == 10) = false := by simpa using hc
        unfold Lib.indexByte
        rw [hb, h1]
        have : ((d : Int) == -1) = false := beq_eq_false_iff_ne.2 (by omega)
        rw [this]; simp
      · rw [List.take_succ_cons, Rp.lns_cons, if_neg hc, h4]
theorem Rp.behind_next {l : List UInt8} {k p d : Nat} (hp : Rp.Behind l k p) (h2 : d < (l.drop p).length) (h3 : (l.drop p).getD d 0 = 10) (h4 : Rp.lns ((l.drop p).take d) = 0) : Rp.Behind l (k + 1) (p + 1 + d) := by
  obtain ⟨p1, p2, p3⟩ := hp
  simp at h2
  have e3 : l.getD (p + d) 0 = 10 := by
    rw [← h3]; simp [List.getD_eq_getElem?_getD, List.getElem?_drop]
  refine ⟨by omega, ?_, .inr ?_⟩
  · have e : p + 1 + d = (p + d) + 1 := by omega
    rw [e, Rp.lns_take_succ l (p + d) (by omega), e3, if_pos rfl]
    have : l.take (p + d) = l.take p ++ (l.drop p).take d := by rw [List.take_add]
    rw [this, Rp.lns_append, h4, p2]
  · have e : p + 1 + d - 1 = p + d := by omega
    rw [e]; exact e3
theorem Rp.behind_more {l : List UInt8} {k p : Nat} (hp : Rp.Behind l k p) (h : k < Rp.lns l) : 0 < Rp.lns (l.drop p) := by
  have := Rp.lns_append (l.take p) (l.drop p)
  rw [List.take_append_drop, hp.2.1] at this; omega
/-- a place, and whether there is one, are answered -/
def Rp.LnPost (w : World) (n : Int) (b : Bool) (e : Ending) (w' : World) : Prop := e = .returned (.tuple #[.int .i64 n, .bool b]) ∧ Below w.heap.size w w'
theorem Rp.way_line {l pre post : List UInt8} {u : ByteArray} {k : Nat} (h0 : 0 < k) (hk : k ≤ Rp.lns l) (W : Rp.Way (fun _ y _ => decide ((k : Int) ≤ y)) l pre u.data.toList post) :
    ∃ j, k = Rp.lns pre + j ∧ 0 < j ∧ j ≤ Rp.lns u.data.toList ∧ ∀ q, Rp.Behind u.data.toList j q → Rp.Behind l k (pre.length + q) := by
  have h1 : Rp.lns pre < k := by
    rcases W.ahead with h | h
    · rw [h]; simpa [Rp.lns] using h0
    · simp [Rp.qL] at h; omega
  have h2 : k ≤ Rp.lns pre + Rp.lns u.data.toList := by
    rcases W.behind with h | h
    · have := W.text
      rw [h, List.append_nil] at this
      rw [this, Rp.lns_append] at hk; exact hk
    · simp only [Rp.qL, Rp.lns_append] at h; simp at h; omega
  refine ⟨k - Rp.lns pre, by omega, by omega, by omega, ?_⟩
  rintro q ⟨q1, q2, q3⟩
  have hq0 : q ≠ 0 := by
    rintro rfl
    simp [Rp.lns] at q2; unfold Rp.lns at h1; omega
  rcases q3 with q3 | q3
  · exact absurd q3 hq0
  have hlen : l.length = pre.length + u.data.toList.length + post.length := by
    have := congrArg List.length W.text
    simp only [List.length_append] at this; exact this
  refine ⟨by omega, ?_, .inr ?_⟩
  · rw [W.text, List.append_assoc, List.take_append, List.take_of_length_le (by omega), List.take_append, Rp.lns_append, Rp.lns_append]
    have e1 : pre.length + q - pre.length = q := by omega
    have e2 : q - u.data.toList.length = 0 := by omega
    rw [e1, e2, q2]; simp [Rp.lns]; unfold Rp.lns at h1; omega
  · rw [← q3, W.text, List.append_assoc, List.getD_eq_getElem?_getD, List.getElem?_append_right (by omega), List.getElem?_append_left (by omega), List.getD_eq_getElem?_getD]
    have e1 : pre.length + q - 1 - pre.length = q - 1 := by omega
    rw [e1]
def Rp.LinePost (w : World) (l : List UInt8) (k : Nat) (e : Ending) (w' : World) : Prop := ∃ q : Nat, Rp.Behind l k q ∧ Rp.LnPost w q true e w'
open Go.RowKit
open Rp (Tr)
theorem Rp.lns_take_at (s : ByteArray) (k : Nat) (h : k < s.size) : Rp.lns (s.data.toList.take (k + 1)) = Rp.lns (s.data.toList.take k) + if (s[k].toNat : Int) = 10 then 1 else 0 := by
  rw [Rn.take_snoc s k h, Rp.lns_append, Rp.lns_cons]
  have : (s[k] = 10) ↔ ((s[k].toNat : Int) = 10) := by
    rw [← UInt8.toNat_inj]
    have : (10 : UInt8).toNat = 10 := rfl
    omega
  by_cases hc : (s[k].toNat : Int) = 10
  · rw [if_pos hc, if_pos (this.2 hc)]; simp [Rp.lns]
  · rw [if_neg hc, if_neg (fun e => hc (this.1 e))]; simp [Rp.lns]
theorem Rp.behind_here (s : ByteArray) (i k : Nat) (h : i < s.size) (hc : (s[i].toNat : Int) = 10) (hk : Rp.lns (s.data.toList.take i) + 1 = k) : Rp.Behind s.data.toList k (i + 1) := by
  refine ⟨by simp; omega, ?_, .inr ?_⟩
  · rw [Rp.lns_take_at s i h, if_pos hc]; exact hk
  · have e : s[i] = 10 := by
      rw [← UInt8.toNat_inj]
      have : (10 : UInt8).toNat = 10 := rfl
      omega
    rw [← e]; simp [h]; rfl
theorem Rp.bits_le (n : Nat) : Rp.bits n ≤ n := by
  induction n using Nat.strongRecOn with
  | _ n ih =>
    rw [Rp.bits]
    split
    · omega
    · have := ih (n / 2) (by omega); omega
theorem Rp.bits_step (m : Nat) (h : 0 < m) : Rp.bits m = 1 + Rp.bits (m / 2) := by rw [Rp.bits, if_neg (by omega)]
end Go.Proofs.Ytigibeioapkgiaa
