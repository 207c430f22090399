/- The place behind a line feed, plain; what 'behind' answers, walked. -/
import Derived.Test.YtnjcahcbeicblaaRpR
namespace Go.Proofs.Ytnjcahcbeicblaa
set_option linter.unusedVariables false
set_option linter.unusedSimpArgs false
open Go.RowKit
open Rp (Tr)
/-- p is the place behind the line feed number k (0: the beginning) -/
def Rp.Behind (l : List UInt8) (k p : Nat) : Prop := p ≤ l.length ∧ Rp.lns (l.take p) = k ∧ (p = 0 ∨ l.getD (p - 1) 0 = 10)
theorem Rp.lns_cons (c : UInt8) (l : List UInt8) : Rp.lns (c :: l) = Rp.lns l + if c = 10 then 1 else 0 := by
  unfold Rp.lns; rw [List.count_cons]; simp
theorem Rp.lns_take_le (l : List UInt8) (i : Nat) : Rp.lns (l.take i) ≤ Rp.lns l := by
  have := Rp.lns_append (l.take i) (l.drop i)
  rw [List.take_append_drop] at this; omega
theorem Rp.lns_take_mono (l : List UInt8) {i j : Nat} (h : i ≤ j) : Rp.lns (l.take i) ≤ Rp.lns (l.take j) := by
  have e : l.take i = (l.take j).take i := by rw [List.take_take]; congr 1; omega
  rw [e]; exact Rp.lns_take_le _ _
theorem Rp.lns_take_succ (l : List UInt8) (i : Nat) (h : i < l.length) : Rp.lns (l.take (i + 1)) = Rp.lns (l.take i) + if l.getD i 0 = 10 then 1 else 0 := by
  rw [List.take_succ_eq_append_getElem h, Rp.lns_append]
  have : l.getD i 0 = l[i] := by simp [h]
  rw [this, Rp.lns_cons]; simp [Rp.lns]
theorem Rp.behind_one {l : List UInt8} {k p q : Nat} (hp : Rp.Behind l k p) (hq : Rp.Behind l k q) : p = q := by
  obtain ⟨p1, p2, p3⟩ := hp
  obtain ⟨q1, q2, q3⟩ := hq
  rcases Nat.lt_trichotomy p q with h | h | h
  · rcases q3 with q3 | q3
    · omega
    · have := Rp.lns_take_succ l (q - 1) (by omega)
      rw [q3, if_pos rfl, Nat.sub_add_cancel (by omega)] at this
      have := Rp.lns_take_mono l (show p ≤ q - 1 by omega)
      omega
  · exact h
  · rcases p3 with p3 | p3
    · omega
    · have := Rp.lns_take_succ l (p - 1) (by omega)
      rw [p3, if_pos rfl, Nat.sub_add_cancel (by omega)] at this
      have := Rp.lns_take_mono l (show q ≤ p - 1 by omega)
      omega
theorem Rp.idx_spec (l : List UInt8) (h : 0 < Rp.lns l) : ∃ d : Nat, Lib.indexByte l 10 = d ∧ d < l.length ∧ l.getD d 0 = 10 ∧ Rp.lns (l.take d) = 0 := by
  induction l with
  | nil => simp [Rp.lns] at h
  | cons c l ih =>
    by_cases hc : c = 10
    · subst hc; exact ⟨0, by simp [Lib.indexByte], by simp, by simp, by simp [Rp.lns]⟩
    · rw [Rp.lns_cons, if_neg hc] at h
      obtain ⟨d, h1, h2, h3, h4⟩ := ih (by omega)
      refine ⟨d + 1, ?_, by simp; omega, by simpa using h3, ?_⟩
      · have hb : (c == 10) = false := by simpa using hc
        unfold Lib.indexByte
        rw [hb, h1]
        have : ((d : Int) == -1) = false := beq_eq_false_iff_ne.2 (by omega)
        rw [this]; simp
      · rw [List.take_succ_cons, Rp.lns_cons, if_neg hc, h4]
theorem Rp.behind_next {l : List UInt8} {k p d : Nat} (hp : Rp.Behind l k p) (h2 : d < (l.drop p).length) (h3 : (l.drop p).getD d 0 = 10) (h4 : Rp.lns ((l.drop p).take d) = 0) : Rp.Behind l (k + 1) (p + 1 + d) := by
  obtain ⟨p1, p2, p3⟩ := hp
  simp at h2
  have e3 : l.getD (p + d) 0 = 10 := by
    rw [← h3]; simp [List.getD_eq_getElem?_getD, List.getElem?_drop]
  refine ⟨by omega, ?_, .inr ?_⟩
  · have e : p + 1 + d = (p + d) + 1 := by omega
    rw [e, Rp.lns_take_succ l (p + d) (by omega), e3, if_pos rfl]
    have : l.take (p + d) = l.take p ++ (l.drop p).take d := by rw [List.take_add]
    rw [this, Rp.lns_append, h4, p2]
  · have e : p + 1 + d - 1 = p + d := by omega
    rw [e]; exact e3
theorem Rp.behind_more {l : List UInt8} {k p : Nat} (hp : Rp.Behind l k p) (h : k < Rp.lns l) : 0 < Rp.lns (l.drop p) := by
  have := Rp.lns_append (l.take p) (l.drop p)
  rw [List.take_append_drop, hp.2.1] at this; omega
theorem indexLF_any (s : ByteArray) (d : Nat) (w : World) (h : Lib.indexByte s.data.toList 10 = d) : Calls Try.prog 76 #[.string s, .int .u8 10] w fun e w' => e = .returned (.int .i64 d) ∧ w = w' := by
  refine (Try.strings_IndexByte s 10 w).mono fun e w' ⟨he, hw⟩ => ⟨?_, hw.symm⟩
  rw [he]
  have : Lib.indexByte s.data.toList (10 : Int).toNat.toUInt8 = d := h
  rw [this]
set_option maxHeartbeats 1000000 in
theorem behind_any (s : ByteArray) (k : Nat) (w : World) (hs : s.size ≤ 1000000) (hk : k ≤ Rp.lns s.data.toList) :
    Calls Try.prog 62 #[.string s, .int .i64 k] w fun e w' => (∃ p : Nat, e = .returned (.int .i64 p) ∧ Rp.Behind s.data.toList k p) ∧ w = w' := by
  have hkb : k ≤ 1000000 := by have := Rp.lns_le s.data.toList; simp at this; omega
  have HK := Lib.hid hk; clear hk
  go_enter Try.func62, Try.ntmps62
  go_wp2_with fail
  go_loop [5, 7] (fun a i => ∃ j p : Nat, j ≤ k ∧ p ≤ s.size ∧ i = .int .i64 j ∧ a = .int .i64 p ∧ Hid (Rp.Behind s.data.toList j p)) (fun _ i => k - (intOf i).toNat)
  case atStart => exact ⟨0, 0, Nat.zero_le _, Nat.zero_le _, rfl, rfl, ⟨Nat.zero_le _, by simp [Rp.lns], .inl rfl⟩⟩
  case round =>
    obtain ⟨j, p, hj, hp, rfl, rfl, HB⟩ := hrel
    by_cases hlt : j < k
    · obtain ⟨d, h1, h2, h3, h4⟩ := Rp.idx_spec _ (Rp.behind_more HB.out (Nat.lt_of_lt_of_le hlt HK.out))
      have HN := Lib.hid (Rp.behind_next HB.out h2 h3 h4)
      have hb := HN.out.1
      rw [Rn.len_data0] at hb
      rw [← Rp.ext_right] at h1
      have H1 := Lib.hid h1
      clear h1 h2 h3 h4
      go_wp2_with fail
      refine (indexLF_any _ d w H1.out).mono ?_
      rintro e w' ⟨rfl, rfl⟩
      go_wp2_with fail
      go_round
      case rel => exact ⟨j + 1, p + 1 + d, by omega, by omega, by go_num, by simp; omega, HN.out⟩
      case measure => simp [intOf]; omega
    · have e : j = k := by omega
      subst e
      go_wp2_with fail
      go_ret
      exact ⟨⟨p, rfl, HB.out⟩, rfl⟩
/-- a place, and whether there is one, are answered -/
def Rp.LnPost (w : World) (n : Int) (b : Bool) (e : Ending) (w' : World) : Prop := e = .returned (.tuple #[.int .i64 n, .bool b]) ∧ Below w.heap.size w w'
theorem Rp.way_line {l pre post : List UInt8} {u : ByteArray} {k : Nat} (h0 : 0 < k) (hk : k ≤ Rp.lns l) (W : Rp.Way (fun _ y _ => decide ((k : Int) ≤ y)) l pre u.data.toList post) :
    ∃ j, k = Rp.lns pre + j ∧ 0 < j ∧ j ≤ Rp.lns u.data.toList ∧ ∀ q, Rp.Behind u.data.toList j q → Rp.Behind l k (pre.length + q) := by
  have h1 : Rp.lns pre < k := by
    rcases W.ahead with h | h
    · rw [h]; simpa [Rp.lns] using h0
    · simp [Rp.qL] at h; omega
  have h2 : k ≤ Rp.lns pre + Rp.lns u.data.toList := by
    rcases W.behind with h | h
    · have := W.text
      rw [h, List.append_nil] at this
      rw [this, Rp.lns_append] at hk; exact hk
    · simp only [Rp.qL, Rp.lns_append] at h; simp at h; omega
  refine ⟨k - Rp.lns pre, by omega, by omega, by omega, ?_⟩
  rintro q ⟨q1, q2, q3⟩
  have hq0 : q ≠ 0 := by
    rintro rfl
    simp [Rp.lns] at q2; unfold Rp.lns at h1; omega
  rcases q3 with q3 | q3
  · exact absurd q3 hq0
  have hlen : l.length = pre.length + u.data.toList.length + post.length := by
    have := congrArg List.length W.text
    simp only [List.length_append] at this; exact this
  refine ⟨by omega, ?_, .inr ?_⟩
  · rw [W.text, List.append_assoc, List.take_append, List.take_of_length_le (by omega), List.take_append, Rp.lns_append, Rp.lns_append]
    have e1 : pre.length + q - pre.length = q := by omega
    have e2 : q - u.data.toList.length = 0 := by omega
    rw [e1, e2, q2]; simp [Rp.lns]; unfold Rp.lns at h1; omega
  · rw [← q3, W.text, List.append_assoc, List.getD_eq_getElem?_getD, List.getElem?_append_right (by omega), List.getElem?_append_left (by omega), List.getD_eq_getElem?_getD]
    have e1 : pre.length + q - 1 - pre.length = q - 1 := by omega
    rw [e1]
set_option maxHeartbeats 1000000 in
theorem line_zero (p : Option Addr) (w : World) : Calls Try.prog 36 #[.agg #[.pointer p], .int .i64 0] w (Rp.LnPost w 0 true) := by
  go_enter Try.func36, Try.ntmps36
  go_wp2_with fail
  go_ret2
  exact ⟨rfl, Rp.below_al2 _ _ _⟩
set_option maxHeartbeats 1000000 in
theorem line_no (p : Option Addr) (l : List UInt8) (i : Int) (w : World) (hp : Rp.Rep w p l) (h : i < 0 ∨ (Rp.lns l : Int) < i) : Calls Try.prog 36 #[.agg #[.pointer p], .int .i64 i] w (Rp.LnPost w 0 false) := by
  have d0 : (i == 0) = false := beq_eq_false_iff_ne.2 (by omega)
  by_cases h1 : i < 0
  · have d1 : decide (i < 0) = true := by simp; omega
    clear h
    go_enter Try.func36, Try.ntmps36
    go_wp2_with fail
    go_quiet (fail)
    go_wp2_with fail
    go_ret2
    exact ⟨rfl, Rp.below_drewN (Rp.below_al2 _ _ _) _⟩
  · have d1 : decide (i < 0) = false := by simp; omega
    have d2 : decide ((Rp.lns l : Int) < i) = true := by simp; omega
    have hf := Rp.field_1
    clear h
    go_enter Try.func36, Try.ntmps36
    go_wp2_with fail
    have hc0 : ((w.alloc (.cells #[.pointer p] 26)).alloc (.cells #[.int .i64 i] 3)).cell? ⟨w.heap.size, 0, none⟩ = some (.pointer p) := by simp [go_sem]
    have hc1 : ((w.alloc (.cells #[.pointer p] 26)).alloc (.cells #[.int .i64 i] 3)).cell? ⟨w.heap.size + 1, 0, none⟩ = some (.int .i64 i) := by simp [go_sem]
    have hbw : Below w.heap.size w ((w.alloc (.cells #[.pointer p] 26)).alloc (.cells #[.int .i64 i] 3)) := Rp.below_al2 _ _ _
    have hpW := hp.up hbw
    generalize (w.alloc (.cells #[.pointer p] 26)).alloc (.cells #[.int .i64 i] 3) = W at *
    go_region_held3 (fun v => v.cell? ⟨w.heap.size, 0, none⟩ = some (.pointer p) ∧ v.cell? ⟨w.heap.size + 1, 0, none⟩ = some (.int .i64 i) ∧ Rp.Rep v p l ∧ Below w.heap.size w v)
      (first
        | (refine ⟨?_, ?_, ?_, ?_⟩ <;> with_reducible (first | (refine Rp.cell_dr ?_; assumption) | (refine Rp.Rep.dr ?_; assumption) | (refine Rp.below_dr ?_; assumption)))
        | (go_split_ands; refine ⟨?_, ?_, ?_, ?_⟩ <;> with_reducible (first | (refine Rp.cell_up hb1 ?_; assumption) | (refine Rp.Rep.up hb1 ?_; assumption) | (refine Rp.below_up ?_ hb1; assumption))))
      (first
        | (go_at_call 43; go_split_ands; refine (all_any p l _ (by assumption)).mono ?_; rintro e w1 ⟨rfl, hb1⟩))
    all_goals
      go_wp2_with fail
      go_ret2
      go_split_ands
      exact ⟨rfl, by assumption⟩
def Rp.LinePost (w : World) (l : List UInt8) (k : Nat) (e : Ending) (w' : World) : Prop := ∃ q : Nat, Rp.Behind l k q ∧ Rp.LnPost w q true e w'
set_option maxHeartbeats 1000000 in
theorem line_yes (p : Option Addr) (l : List UInt8) (k : Nat) (w : World) (hp : Rp.Rep w p l) (hl : l.length ≤ 1000000) (h0 : 0 < k) (h : k ≤ Rp.lns l) : Calls Try.prog 36 #[.agg #[.pointer p], .int .i64 k] w fun e w' => ∃ q : Nat, Rp.Behind l k q ∧ Rp.LnPost w q true e w' := by
  obtain ⟨a, t, rfl, ha, ga, rfl⟩ : ∃ a t, p = some ⟨a, 0, none⟩ ∧ Rp.IsPart w a t ∧ t.Good ∧ t.toL = l := by
    rcases hp with ⟨rfl, rfl⟩ | h'
    · simp [Rp.lns] at h; omega
    · exact h'
  have hkb : k ≤ 1000000 := by have := Rp.lns_le t.toL; omega
  have d0 : ((k : Int) == 0) = false := beq_eq_false_iff_ne.2 (by omega)
  have d1 : decide ((k : Int) < 0) = false := by simp
  have d2 : decide (Rp.lns t.toL < k) = false := by simp; omega
  have hp0 := ha.rep ga
  have hmf : ∀ (fn : Fn) (first cap : Array Value) (w : World), (Instr.makeFunc fn first cap).run Try.prog w = .ok (.func fn first cap) w := fun _ _ _ _ => rfl
  have hf := Rp.field_1
  show Calls Try.prog 36 #[.agg #[.pointer (some ⟨a, 0, none⟩)], .int .i64 k] w (Rp.LinePost w t.toL k)
  go_enter Try.func36, Try.ntmps36
  go_wp2_with fail
  have hc0 : ((w.alloc (.cells #[.pointer (some ⟨a, 0, none⟩)] 26)).alloc (.cells #[.int .i64 k] 3)).cell? ⟨w.heap.size, 0, none⟩ = some (.pointer (some ⟨a, 0, none⟩)) := by simp [go_sem]
  have hc1 : ((w.alloc (.cells #[.pointer (some ⟨a, 0, none⟩)] 26)).alloc (.cells #[.int .i64 k] 3)).cell? ⟨w.heap.size + 1, 0, none⟩ = some (.int .i64 k) := by simp [go_sem]
  have hbw : Below w.heap.size w ((w.alloc (.cells #[.pointer (some ⟨a, 0, none⟩)] 26)).alloc (.cells #[.int .i64 k] 3)) := Rp.below_al2 _ _ _
  have hpW := hp0.up hbw
  have haW := ha.up hbw
  generalize (w.alloc (.cells #[.pointer (some ⟨a, 0, none⟩)] 26)).alloc (.cells #[.int .i64 k] 3) = W at *
  go_region_held3 (fun v => v.cell? ⟨w.heap.size, 0, none⟩ = some (.pointer (some ⟨a, 0, none⟩)) ∧ v.cell? ⟨w.heap.size + 1, 0, none⟩ = some (.int .i64 k) ∧ Rp.Rep v (some ⟨a, 0, none⟩) t.toL ∧ Rp.IsPart v a t ∧ Below w.heap.size w v)
    (first
      | (refine ⟨?_, ?_, ?_, ?_, ?_⟩ <;> with_reducible (first | (refine Rp.cell_dr ?_; assumption) | (refine Rp.Rep.dr ?_; assumption) | (refine Rp.IsPart.dr ?_; assumption) | (refine Rp.below_dr ?_; assumption)))
      | (go_split_ands; refine ⟨?_, ?_, ?_, ?_, ?_⟩ <;> with_reducible (first | (refine Rp.cell_up hb1 ?_; assumption) | (refine Rp.Rep.up hb1 ?_; assumption) | (refine Rp.IsPart.up hb1 ?_; assumption) | (refine Rp.below_up ?_ hb1; assumption))))
    (first
      | (go_at_call 43; go_split_ands; refine (all_any _ t.toL _ (by assumption)).mono ?_; rintro e w1 ⟨rfl, hb1⟩))
  clear hc0 hc1 hbw hpW haW
  obtain ⟨q1, q2, q3, q4, q5⟩ := ‹w1.cell? ⟨w.heap.size, 0, none⟩ = some (.pointer (some ⟨a, 0, none⟩)) ∧ w1.cell? ⟨w.heap.size + 1, 0, none⟩ = some (.int .i64 k) ∧ Rp.Rep w1 (some ⟨a, 0, none⟩) t.toL ∧ Rp.IsPart w1 a t ∧ Below w.heap.size w w1›
  go_wp2_with fail
  refine (down_any 61 #[.pointer (some ⟨w.heap.size + 1, 0, none⟩)] a t (fun _ y _ => decide ((k : Int) ≤ y)) w1 q4 ga hl entLine (fun x y z v hv => clLine_any _ k x y z v (Rp.cell_up hv q2))).mono ?_
  rintro e w2 ⟨c, pre, u, post, rfl, hc4, hu, hway, hb2⟩
  have hpl : pre.length ≤ 1000000 := by
    have := congrArg List.length hway.text
    simp only [List.length_append] at this; omega
  have hpn := Rp.lns_le pre
  replace q2 := Rp.cell_up hb2 q2
  have q6 := Rp.below_up q5 hb2
  obtain ⟨j, hj, hj0, hju, hjv⟩ := Rp.way_line h0 h hway
  have HV := Lib.hid hjv; clear hjv
  have HJ := Lib.hid hj; clear hj
  have lt1 : w.heap.size + 1 < w2.heap.size := World.block_lt_of_cell? w2 _ q2
  have lt2 : c < w2.heap.size := World.block_lt_of_cell? w2 _ hc4
  have hg : Rp.Box3 (w2.alloc (.cells #[.int .i64 pre.length, .int .i64 (Rp.lns pre), .int .i64 (Rn.cnt pre)] 79)) w2.heap.size pre.length (Rp.lns pre) (Rn.cnt pre) := by constructor <;> simp [go_sem]
  have hc4x := Rp.cell_al (o := .cells #[.int .i64 pre.length, .int .i64 (Rp.lns pre), .int .i64 (Rn.cnt pre)] 79) hc4
  have q2x := Rp.cell_al (o := .cells #[.int .i64 pre.length, .int .i64 (Rp.lns pre), .int .i64 (Rn.cnt pre)] 79) q2
  have q6x := q6.alloc q6.size (.cells #[.int .i64 pre.length, .int .i64 (Rp.lns pre), .int .i64 (Rn.cnt pre)] 79)
  clear q1 q3 q4 q5 hmf hf hway hb2
  go_wp2_with fail
  clear q2 q6 hc4
  generalize w2.alloc (.cells #[.int .i64 pre.length, .int .i64 (Rp.lns pre), .int .i64 (Rn.cnt pre)] 79) = V at *
  generalize w2.heap.size = gg at *
  obtain ⟨g0, g1, g2, _, _, _, _, _⟩ := hg
  have hw1 : IntKind.i64.wrap ((k : Int) - (Rp.lns pre : Int)) = (j : Int) := by have := HJ.out; rw [IntWalk.i64_in _ (by omega)]; omega
  go_region_held3 (fun v => v.cell? ⟨gg, 0, none⟩ = some (.int .i64 pre.length) ∧ v.cell? ⟨gg, 1, none⟩ = some (.int .i64 (Rp.lns pre)) ∧ v.cell? ⟨c, 4, none⟩ = some (.string u) ∧ v.cell? ⟨w.heap.size + 1, 0, none⟩ = some (.int .i64 k) ∧ Below w.heap.size w v)
    (first
      | (refine ⟨?_, ?_, ?_, ?_, ?_⟩ <;> with_reducible (first | (refine Rp.cell_dr ?_; assumption) | (refine Rp.below_dr ?_; assumption)))
      | (go_split_ands; refine ⟨?_, ?_, ?_, ?_, ?_⟩ <;> assumption))
    (first
      | (go_at_call 62; refine (behind_any u j _ (by omega) hju).mono ?_; rintro e w' ⟨⟨q, rfl, hq⟩, rfl⟩; have hqb := hq.1; rw [Rn.len_data0] at hqb; have hw2 : IntKind.i64.wrap ((pre.length : Int) + (q : Int)) = (pre.length : Int) + (q : Int) := IntWalk.i64_in _ (by omega)))
  all_goals
    clear hw2
    go_wp2_with fail
    go_ret2
    go_split_ands
    exact ⟨pre.length + q, HV.out q hq, by simp, by assumption⟩
end Go.Proofs.Ytnjcahcbeicblaa
