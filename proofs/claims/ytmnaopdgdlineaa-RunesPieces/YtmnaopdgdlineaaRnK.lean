/- The law of pieces, walked. -/
import Derived.Test.YtmnaopdgdlineaaRnJ
import Derived.Test.YtmnaopdgdlineaaRnQ
import Derived.OpenShut
namespace Go.Proofs.Ytmnaopdgdlineaa
open Go.RowKit
/-- what is known of a slice of integers that came in: nil, or a row of cells that hold the numbers zs (the first len are its elements) -/
def IsRow (k : IntKind) (w : World) (a : Option Addr) (len cap : Nat) (zs : List Int) : Prop :=
  (a = none ∧ len = 0 ∧ cap = 0 ∧ zs = []) ∨
  ∃ x, a = some x ∧ len ≤ cap ∧ cap ≤ maxLen ∧ zs.length = cap ∧ (∀ i, i < zs.length → w.cell? (x.add i) = some (.int k (zs.getD i 0))) ∧ ∀ n ∈ zs, (Lit.int k n).wf = true
/-- what was put together so far -/
structure Made (s : ByteArray) (ns : List Int) (j : Nat) : Prop where
  eq : s.data.toList = Rn.cat ns
  sg : Rn.Signs ns
  sz : s.size ≤ 4 * j
  ln : ns.length ≤ j
theorem Made.on {s : ByteArray} {ns : List Int} {j : Nat} (h : Made s ns j) (n : Int) (hn : Rn.signI n = true) : Made (s ++ strOfNums (Rn.bytesI n)) (ns ++ [n]) (j + 1) where
  eq := by rw [ByteArray.data_append, Array.toList_append, h.eq, strOfNums_data, Rn.cat_append]; simp [Rn.cat, Rn.blk]
  sg := by intro m hm; simp at hm; rcases hm with hm | rfl; exact h.sg m hm; exact hn
  sz := by rw [ByteArray.size_append, strOfNums_size]; have := bytesI_len n; have := h.sz; omega
  ln := by have := h.ln; simp; omega
theorem Made.skip {s : ByteArray} {ns : List Int} {j : Nat} (h : Made s ns j) : Made s ns (j + 1) := ⟨h.eq, h.sg, by have := h.sz; omega, by have := h.ln; omega⟩
set_option maxRecDepth 100000 in
set_option maxHeartbeats 2000000 in
theorem lawPieces (a : Option Addr) (len cap : Nat) (zs : List Int) (x y : Int) (w : World) (hr : IsRow .i64 w a len cap zs) (hx : 0 ≤ x ∧ x ≤ 255) (hy : 0 ≤ y ∧ y ≤ 255) :
    Calls Try.prog 6 #[.slice a len cap, .int .u8 x, .int .u8 y] w fun e w' => e = .returned (.bool true) ∧ Below w.heap.size w w' := by
  have hlen : len ≤ 2 ^ 63 - 1 := by
    rcases hr with ⟨_, h, _⟩ | ⟨_, _, h1, h2, _⟩
    · omega
    · unfold maxLen at h2; omega
  have hcell : ∀ j : Nat, j < len → ∃ b off, a = some ⟨b, off, none⟩ ∧ b < w.heap.size ∧ w.cell? ⟨b, off + j, none⟩ = some (.int .i64 (zs.getD j 0)) := by
    intro j hj
    rcases hr with ⟨_, h, _⟩ | ⟨p, rfl, h1, h2, h3, h4, h5⟩
    · omega
    · have h0 := h4 j (by omega)
      obtain ⟨b, off, rfl, hc⟩ := ints_at h4 (by omega)
      have h1 := hc j (by omega)
      exact ⟨b, off, rfl, World.block_lt_of_cell? w _ h1, h1⟩
  have HCELL := Lib.hid hcell; clear hcell
  clear hr
  go_enter Try.func6, Try.ntmps6
  go_wp2_with (go_at_call 7; refine (alive_any _).mono ?_; rintro e w1 ⟨rfl, hb1⟩)
  go_loopw [7, 8, 9] (fun s n j wr => ∃ (k : Nat) (S : ByteArray) (ns : List Int), k ≤ len ∧ k ≤ 40 ∧ s = .string S ∧ n = .int .i64 ns.length ∧ j = .int .i64 k ∧ Made S ns k ∧ Below w.heap.size w wr) (fun _ _ j _ => 40 - (intOf j).toNat)
  case atStart => exact ⟨0, ⟨#[]⟩, [], by omega, by omega, rfl, rfl, rfl, ⟨rfl, by intro m hm; simp at hm, by decide, by simp⟩, hb1⟩
  case round =>
    obtain ⟨k, S, ns, hk1, hk2, rfl, rfl, rfl, hm, hb⟩ := hrel
    have hsz := hm.sz
    have hln := hm.ln
    by_cases hgo : k < len ∧ k < 40
    · obtain ⟨hlt, hlt2⟩ := hgo
      · obtain ⟨b, off, rfl, hbl, hc0⟩ := HCELL.out k hlt
        have hc := (hb.cell (p := ⟨b, off + k, none⟩) hbl).trans hc0
        clear hc0
        generalize zs.getD k 0 = z at hc
        have hz4 : (strOfNums (Rn.bytesI z)).size ≤ 4 := by rw [strOfNums_size]; exact bytesI_len z
        rcases Bool.eq_false_or_eq_true (Rn.signI z) with hS | hS
        · go_wp2_with (first | (go_at_call 11; refine (sign_any _ _).mono ?_; rintro e w' ⟨rfl, rfl⟩) | (go_at_call 12; refine (refBytes_any _ _).mono ?_; rintro e w6 ⟨rfl, hx⟩; replace hb := bthen hb hx; clear hx))
          go_roundw
          case rel => exact ⟨k + 1, _, ns ++ [z], by omega, by omega, rfl, by rw [List.length_append]; rfl, by go_num, hm.on z hS, hb⟩
          case measure => simp [intOf]; omega
        · go_wp2_with (first | (go_at_call 11; refine (sign_any _ _).mono ?_; rintro e w' ⟨rfl, rfl⟩))
          go_roundw
          case rel => exact ⟨k + 1, S, ns, by omega, by omega, rfl, rfl, by go_num, hm.skip, hb⟩
          case measure => simp [intOf]; omega
    · have hout : (k < len ∧ ¬ (k : Int) < 40) ∨ ¬ (k : Int) < len := by omega
      clear hgo
      obtain ⟨A, hA1, hA2⟩ : ∃ A : Nat, A ≤ S.size ∧ (if (S.size : Int) < x then (S.size : Int) else x) = A := by
        by_cases h : (S.size : Int) < x
        · exact ⟨S.size, Nat.le_refl _, by rw [if_pos h]⟩
        · exact ⟨x.toNat, by omega, by rw [if_neg h]; omega⟩
      obtain ⟨B, hB1, hB2⟩ : ∃ B : Nat, B ≤ S.size ∧ (if (S.size : Int) < y then (S.size : Int) else y) = B := by
        by_cases h : (S.size : Int) < y
        · exact ⟨S.size, Nat.le_refl _, by rw [if_pos h]⟩
        · exact ⟨y.toNat, by omega, by rw [if_neg h]; omega⟩
      have hw1 : ∀ w', Calls Try.prog 13 #[.string S] w' fun e w'' => e = .returned (.bool true) ∧ Below w'.heap.size w' w'' := by
        intro w'; have h := whole_any S w' (by unfold maxLen; omega)
        rw [hm.eq, Rn.whole_cat ns hm.sg] at h; exact h
      have hw2 : ∀ w', Calls Try.prog 20 #[.string S] w' fun e w'' => e = .returned (.int .i64 ns.length) ∧ w' = w'' := by
        intro w'; have h := count_any S w' (by unfold maxLen; omega)
        rw [hm.eq, Rn.cnt_cat ns hm.sg] at h; exact h
      have hw3 : ∀ (a b : Nat), a ≤ b → b ≤ S.size → Rn.edgeB S a = true → Rn.edgeB S b = true → ∀ w', Calls Try.prog 13 #[.string (S.extract a b)] w' fun e w'' => e = .returned (.bool true) ∧ Below w'.heap.size w' w'' := by
        intro a b hab hb h1 h2 w'
        have h := whole_any (S.extract a b) w' (by unfold maxLen; simp; omega)
        have e1 := Rn.edge_of S a h1
        have e2 := Rn.edge_of S b h2
        rw [Lib.extract_data, hm.eq, Rn.piece_whole ns hm.sg a b hab (by rw [← hm.eq, Rn.len_data]; exact hb) (by rw [← hm.eq]; exact e1) (by rw [← hm.eq]; exact e2)] at h
        exact h
      have H1 := Lib.hid hw1; have H2 := Lib.hid hw2; have H3 := Lib.hid hw3
      clear hw1 hw2 hw3
      rcases hout with ⟨hlt, hout⟩ | hout
      all_goals
        by_cases hAB : A ≤ B
        all_goals
          go_wp2_with fail
          refine (H1.out _).mono ?_; rintro e w2 ⟨rfl, hq⟩
          replace hb := bthen hb hq; clear hq
          first | have hs := H3.out A B hAB hB1 | have hs := H3.out B A (by omega) hA1
          have HS := Lib.hid hs; clear hs
          rcases Bool.eq_false_or_eq_true (Rn.edgeB S (A : Int)) with hE1 | hE1
          all_goals
            rcases Bool.eq_false_or_eq_true (Rn.edgeB S (B : Int)) with hE2 | hE2
            all_goals
              go_wp2_with (first | (go_at_call 20; refine (H2.out _).mono ?_; rintro e w' ⟨rfl, rfl⟩) | (go_at_call 15; refine (edge_any _ _ _ (by unfold maxLen; omega)).mono ?_; rintro e w' ⟨rfl, rfl⟩) | (go_at_call 13; first | (refine (HS.out hE1 hE2 _).mono ?_; rintro e w7 ⟨rfl, hq⟩; replace hb := bthen hb hq; clear hq) | (refine (HS.out hE2 hE1 _).mono ?_; rintro e w7 ⟨rfl, hq⟩; replace hb := bthen hb hq; clear hq)))
              go_ret
              exact ⟨rfl, hb⟩
end Go.Proofs.Ytmnaopdgdlineaa
