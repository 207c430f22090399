/- What 'join' answers, walked. -/
import Derived.Test.YtigibeioapkgiaaRpE
namespace Go.Proofs.Ytigibeioapkgiaa
set_option linter.unusedVariables false
set_option linter.unusedSimpArgs false
open Go.RowKit
open Rp (Tr)
theorem over_b (a b : Nat) (x y : Nat) (w : World) (ha : w.cell? ⟨a, 3, none⟩ = some (.int .i64 x)) (hb : w.cell? ⟨b, 3, none⟩ = some (.int .i64 y)) (hx : x ≤ 1099511627776) (hy : y ≤ 1099511627776) :
    Calls Try.prog 62 #[.pointer (some ⟨a, 0, none⟩), .pointer (some ⟨b, 0, none⟩)] w fun e w' => e = .returned (.bool (Rp.overB x y)) ∧ Below w.heap.size w w' :=
  (over_any a b x y w ha hb hx hy).mono fun _ _ ⟨h, n, hw⟩ => ⟨h, by rw [hw]; exact Rp.below_drewN (Below.refl _ _) n⟩
/-- two parts put together are answered -/
def Rp.JPost (w : World) (ta tb : Tr) (e : Ending) (w' : World) : Prop := ∃ c t, e = .returned (.pointer (some ⟨c, 0, none⟩)) ∧ Rp.IsPart w' c t ∧ Rp.Joined ta tb t ∧ Below w.heap.size w w'
theorem Rp.Joined.len {a b t : Tr} (J : Rp.Joined a b t) : t.len = a.len + b.len := by unfold Tr.len; rw [J.text]; simp
theorem Rp.over_hts {l r b t : Tr} (ga : (Tr.node l r).Good) (hov : b.ht + 1 < (Tr.node l r).ht ∨ ((Tr.node l r).ht = 2 ∧ b.ht = 1)) (J : Rp.Joined r b t) : l.ht ≤ t.ht + 2 ∧ t.ht ≤ l.ht + 2 := by
  obtain ⟨_, _, _, h1, h2⟩ := ga
  have := J.low; have := J.high
  have e : (Tr.node l r).ht = 1 + max l.ht r.ht := rfl
  have := Rp.ht_pos l; have := Rp.ht_pos r; have := Rp.ht_pos b
  omega
theorem Rp.under_hts {l r a t : Tr} (gb : (Tr.node l r).Good) (hov : a.ht + 1 < (Tr.node l r).ht ∨ ((Tr.node l r).ht = 2 ∧ a.ht = 1)) (J : Rp.Joined a l t) : t.ht ≤ r.ht + 2 ∧ r.ht ≤ t.ht + 2 := by
  obtain ⟨_, _, _, h1, h2⟩ := gb
  have := J.low; have := J.high
  have e : (Tr.node l r).ht = 1 + max l.ht r.ht := rfl
  have := Rp.ht_pos l; have := Rp.ht_pos r; have := Rp.ht_pos a
  omega
theorem Rp.overB_true {x y : Nat} (h : Rp.overB x y = true) : y + 1 < x ∨ (x = 2 ∧ y = 1) := by simpa [Rp.overB] using h
theorem Rp.overB_false {x y : Nat} (h : Rp.overB x y = false) : x ≤ y + 1 ∧ ¬ (x = 2 ∧ y = 1) := by
  simp [Rp.overB] at h; refine ⟨by omega, fun e => ?_⟩; exact h.2 e.1 e.2
theorem Rp.child_hts (l r : Tr) : l.ht + 1 ≤ (Tr.node l r).ht ∧ r.ht + 1 ≤ (Tr.node l r).ht := by
  have e : (Tr.node l r).ht = 1 + max l.ht r.ht := rfl
  omega
set_option maxRecDepth 100000 in
set_option maxHeartbeats 2000000 in
theorem join_n (n : Nat) : ∀ (a b : Nat) (ta tb : Tr) (w : World), ta.ht + tb.ht ≤ n → Rp.IsPart w a ta → Rp.IsPart w b tb → ta.Good → tb.Good → ta.len + tb.len ≤ 1000000 →
    Calls Try.prog 51 #[.pointer (some ⟨a, 0, none⟩), .pointer (some ⟨b, 0, none⟩)] w (Rp.JPost w ta tb) := by
  induction n with
  | zero => intro a b ta tb w hn; have := Rp.ht_pos ta; omega
  | succ n ih =>
    intro a b ta tb w hn ha hb ga gb hl
    have IH := Lib.hid ih; clear ih
    obtain ⟨_, _, ⟨_, _, _, b3, _, _, _⟩⟩ := hb.cells
    obtain ⟨_, _, ⟨_, _, _, a3, _, _, _⟩⟩ := ha.cells
    have hha := Rp.ht_le_len ga; have hhb := Rp.ht_le_len gb
    rcases Bool.eq_false_or_eq_true (Rp.overB ta.ht tb.ht) with hov | hov
    · have HO := Lib.hid (Rp.overB_true hov)
      obtain ⟨l, r, rfl⟩ : ∃ l r, ta = .node l r := ⟨_, _, Rp.ht_two (by have := HO.out; have := Rp.ht_pos tb; omega)⟩
      obtain ⟨al, ar, ⟨_, _, _, _, _, a5, a6⟩, hal, har⟩ := ha
      have GA := ga
      obtain ⟨gl, gr, _, _, _⟩ := ga
      have hch := Rp.child_hts l r
      rw [Rp.len_node] at hl hha
      go_enter Try.func51, Try.ntmps51
      go_wp2_with (go_at_call 62; refine (over_b a b _ _ _ a3 b3 (by omega) (by omega)).mono ?_; rintro e wv ⟨rfl, hbo⟩; replace hal := hal.up hbo; replace har := har.up hbo; replace hb := hb.up hbo; replace a5 := Rp.cell_up hbo a5; replace a6 := Rp.cell_up hbo a6)
      go_region_held3 (fun v => v.cell? ⟨a, 5, none⟩ = some (.pointer (some ⟨al, 0, none⟩)) ∧ v.cell? ⟨a, 6, none⟩ = some (.pointer (some ⟨ar, 0, none⟩)) ∧ Rp.IsPart v al l ∧ Rp.IsPart v ar r ∧ Rp.IsPart v b tb ∧ Below w.heap.size w v)
        (first
          | (refine ⟨?_, ?_, ?_, ?_, ?_, ?_⟩ <;> with_reducible (first | (refine Rp.cell_dr ?_; assumption) | (refine Rp.IsPart.dr ?_; assumption) | (refine Rp.below_dr ?_; assumption)))
          | (go_split_ands; refine ⟨?_, ?_, ?_, ?_, ?_, ?_⟩ <;> with_reducible (first | (refine Rp.cell_up hb2 ?_; assumption) | (refine Rp.IsPart.up hb2 ?_; assumption) | (refine Rp.below_up ?_ hb2; assumption)))
          | (go_split_ands; refine ⟨?_, ?_, ?_, ?_, ?_, ?_⟩ <;> with_reducible (first | (refine Rp.cell_up hb1 ?_; assumption) | (refine Rp.IsPart.up hb1 ?_; assumption) | (refine Rp.below_up ?_ hb1; assumption))))
        (first
          | (go_at_call 51; go_split_ands; refine (IH.out ar b r tb _ (by omega) (by assumption) (by assumption) gr gb (by omega)).mono ?_; rintro e w1 ⟨c1, t, rfl, hc1, J, hb1⟩; have TH := Lib.hid (Rp.over_hts GA HO.out J); have TL := Lib.hid J.len)
          | (go_at_call 63; go_split_ands; refine (bal_any al c1 l t _ (by assumption) hc1 gl J.good TH.out.1 TH.out.2 (by rw [TL.out]; omega)).mono ?_; rintro e w2 ⟨c2, rfl, hc2, hb2⟩))
      go_wp2_with fail
      go_ret
      go_split_ands
      exact ⟨c2, _, rfl, hc2, Rp.joined_over GA gb HO.out J, by assumption⟩
    · have HF := Lib.hid (Rp.overB_false hov)
      rcases Bool.eq_false_or_eq_true (Rp.overB tb.ht ta.ht) with hov2 | hov2
      · have HO := Lib.hid (Rp.overB_true hov2)
        obtain ⟨l, r, rfl⟩ : ∃ l r, tb = .node l r := ⟨_, _, Rp.ht_two (by have := HO.out; have := Rp.ht_pos ta; omega)⟩
        obtain ⟨bl, br, ⟨_, _, _, _, _, b5, b6⟩, hbl, hbr⟩ := hb
        have GB := gb
        obtain ⟨gl, gr, _, _, _⟩ := gb
        have hch := Rp.child_hts l r
        rw [Rp.len_node] at hl hhb
        go_enter Try.func51, Try.ntmps51
        go_wp2_with fail
        refine (over_b a b _ _ _ a3 b3 (by omega) (by omega)).mono ?_
        rintro e wv ⟨rfl, hbo⟩
        replace hbl := hbl.up hbo; replace hbr := hbr.up hbo; replace ha := ha.up hbo; replace b5 := Rp.cell_up hbo b5; replace b6 := Rp.cell_up hbo b6; replace a3 := Rp.cell_up hbo a3; replace b3 := Rp.cell_up hbo b3
        go_wp2_with fail
        refine (over_b b a _ _ _ b3 a3 (by omega) (by omega)).mono ?_
        rintro e wu ⟨rfl, hbp⟩
        replace hbl := hbl.up hbp; replace hbr := hbr.up hbp; replace ha := ha.up hbp; replace b5 := Rp.cell_up hbp b5; replace b6 := Rp.cell_up hbp b6; replace hbo := Rp.below_up hbo hbp
        go_wp2_with fail
        go_region_held3 (fun v => v.cell? ⟨b, 5, none⟩ = some (.pointer (some ⟨bl, 0, none⟩)) ∧ v.cell? ⟨b, 6, none⟩ = some (.pointer (some ⟨br, 0, none⟩)) ∧ Rp.IsPart v bl l ∧ Rp.IsPart v br r ∧ Rp.IsPart v a ta ∧ Below w.heap.size w v)
          (first
            | (refine ⟨?_, ?_, ?_, ?_, ?_, ?_⟩ <;> with_reducible (first | (refine Rp.cell_dr ?_; assumption) | (refine Rp.IsPart.dr ?_; assumption) | (refine Rp.below_dr ?_; assumption)))
            | (go_split_ands; refine ⟨?_, ?_, ?_, ?_, ?_, ?_⟩ <;> with_reducible (first | (refine Rp.cell_up hb2 ?_; assumption) | (refine Rp.IsPart.up hb2 ?_; assumption) | (refine Rp.below_up ?_ hb2; assumption)))
            | (go_split_ands; refine ⟨?_, ?_, ?_, ?_, ?_, ?_⟩ <;> with_reducible (first | (refine Rp.cell_up hb1 ?_; assumption) | (refine Rp.IsPart.up hb1 ?_; assumption) | (refine Rp.below_up ?_ hb1; assumption))))
          (first
            | (go_at_call 51; go_split_ands; refine (IH.out a bl ta l _ (by omega) (by assumption) (by assumption) ga gl (by omega)).mono ?_; rintro e w1 ⟨c1, t, rfl, hc1, J, hb1⟩; have TH := Lib.hid (Rp.under_hts GB HO.out J); have TL := Lib.hid J.len)
            | (go_at_call 63; go_split_ands; refine (bal_any c1 br t r _ hc1 (by assumption) J.good gr TH.out.1 TH.out.2 (by rw [TL.out]; omega)).mono ?_; rintro e w2 ⟨c2, rfl, hc2, hb2⟩))
        go_wp2_with fail
        go_ret
        go_split_ands
        exact ⟨c2, _, rfl, hc2, Rp.joined_under ga GB HO.out J, by assumption⟩
      · have HG := Lib.hid (Rp.overB_false hov2)
        go_enter Try.func51, Try.ntmps51
        go_wp2_with fail
        refine (over_b a b _ _ _ a3 b3 (by omega) (by omega)).mono ?_
        rintro e wv ⟨rfl, hbo⟩
        replace ha := ha.up hbo; replace hb := hb.up hbo; replace a3 := Rp.cell_up hbo a3; replace b3 := Rp.cell_up hbo b3
        go_wp2_with fail
        refine (over_b b a _ _ _ b3 a3 (by omega) (by omega)).mono ?_
        rintro e wu ⟨rfl, hbp⟩
        replace ha := ha.up hbp; replace hb := hb.up hbp; replace hbo := Rp.below_up hbo hbp
        go_wp2_with fail
        refine (pair_any _ _ ta tb _ ha hb ga gb hl).mono ?_
        rintro e w1 ⟨c1, rfl, hc1, hb1⟩
        go_wp2_with fail
        go_ret
        exact ⟨c1, _, rfl, hc1, Rp.joined_pair ga gb HF.out.1 HG.out.1 HF.out.2 HG.out.2, Rp.below_up hbo hb1⟩
end Go.Proofs.Ytigibeioapkgiaa
