/- The law of whole texts and signs, walked. -/
import Derived.Test.YtmnaopdgdlineaaRnG
namespace Go.Proofs.Ytmnaopdgdlineaa
open Go.RowKit
theorem bytesI_len (n : Int) : (Rn.bytesI n).length ≤ 4 := by
  unfold Rn.bytesI; (repeat' split) <;> simp
theorem bytes_first (n : Int) (s : ByteArray) (h : Rn.signI n = true) : Rn.firstL (strOfNums (Rn.bytesI n) ++ s).data.toList = (n, ((strOfNums (Rn.bytesI n)).size : Int)) := by
  have hd : (strOfNums (Rn.bytesI n) ++ s).data.toList = (Rn.bytesI n).map (fun n => UInt8.ofNat n.toNat) ++ s.data.toList := by
    rw [ByteArray.data_append, Array.toList_append, strOfNums_data]
  have hz : (strOfNums (Rn.bytesI n)).size = (Rn.bytesI n).length := strOfNums_size _
  have hp : 1 ≤ (Rn.bytesI n).length := by
    rcases Rn.sign_cases h with h | h | ⟨h, h2, h3⟩ | h
    · rw [(Rn.bytesI_1 n h).2.1]; simp
    · rw [(Rn.bytesI_2 n h).2.1]; simp
    · rw [(Rn.bytesI_3 n ⟨h, h2⟩ h3).2.1]; simp
    · rw [(Rn.bytesI_4 n h).2.1]; simp
  rw [hd, hz]
  refine Rn.first_of n h _ _ hp (by simp) ?_
  rw [List.take_left' (by simp)]
  exact (Rn.map_back _ _ (Rn.bytesI_byte n)).1 rfl
set_option maxRecDepth 100000 in
set_option maxHeartbeats 2000000 in
theorem lawWhole (s : ByteArray) (n : Int) (w : World) (hs : s.size ≤ maxLen) : Calls Try.prog 3 #[.string s, .int .i64 n] w fun e w' => e = .returned (.bool true) ∧ Below w.heap.size w w' := by
  unfold maxLen at hs
  by_cases hl : (500 : Int) < s.size
  · go_enter Try.func3, Try.ntmps3
    go_wp2_with (go_at_call 7; refine (alive_any _).mono ?_; rintro e w1 ⟨rfl, hb⟩)
    go_ret
    exact ⟨rfl, hb⟩
  have h1 := fun w' => bytes_any n w'
  have h2 := fun w' => refBytes_any n w'
  have h3 := fun w' => first_any s w' (by unfold maxLen; omega)
  have h4 := fun w' => refFirst_any s w' (by unfold maxLen; omega)
  have h5 := fun w' => whole_any s w' (by unfold maxLen; omega)
  have h6 := fun w' => refWhole_any s w' (by unfold maxLen; omega)
  have h7 := fun w' => first_any (strOfNums (Rn.bytesI n) ++ s) w' (by unfold maxLen; have := bytesI_len n; rw [ByteArray.size_append, strOfNums_size]; omega)
  have h8 := bytes_first n s
  have hBz : (strOfNums (Rn.bytesI n)).size ≤ 4 := by rw [strOfNums_size]; exact bytesI_len n
  generalize strOfNums (Rn.bytesI n) = B at h1 h2 h7 h8 hBz
  generalize Rn.firstL (B ++ s).data.toList = F2 at h7 h8
  generalize Rn.firstL s.data.toList = F1 at h3 h4
  generalize Rn.wholeL s.data.toList = b at h5 h6
  obtain ⟨x, y⟩ := F2
  obtain ⟨a, k⟩ := F1
  simp only [] at h3 h4 h7
  have H1 := Lib.hid h1; have H2 := Lib.hid h2; have H3 := Lib.hid h3; have H4 := Lib.hid h4; have H5 := Lib.hid h5; have H6 := Lib.hid h6; have H7 := Lib.hid h7
  clear h1 h2 h3 h4 h5 h6 h7
  have key : Rn.signI n = false ∨ (Rn.signI n = true ∧ x = n ∧ y = (B.size : Int)) := by
    rcases Bool.eq_false_or_eq_true (Rn.signI n) with hS | hS
    · right; have h9 := h8 hS; simp only [Prod.mk.injEq] at h9; exact ⟨hS, h9.1, h9.2⟩
    · exact .inl hS
  clear h8
  rcases key with hS | ⟨hS, rfl, rfl⟩
  all_goals
    go_enter Try.func3, Try.ntmps3
    go_wp2_with fail
    refine (alive_any _).mono ?_; rintro e w1 ⟨rfl, hb⟩
    go_wp2_with fail
    refine (H3.out _).mono ?_; rintro e w2 ⟨rfl, q, rfl⟩
    replace hb := below_drewN hb q
    go_wp2_with fail
    refine (H4.out _).mono ?_; rintro e w3 ⟨rfl, hx⟩
    replace hb := bthen hb hx; clear hx
    go_wp2_with fail
    refine (H1.out _).mono ?_; rintro e w4 ⟨rfl, hx⟩
    replace hb := bthen hb hx; clear hx
    go_wp2_with fail
    refine (H7.out _).mono ?_; rintro e w5 ⟨rfl, r, rfl⟩
    replace hb := below_drewN hb r
    go_wp2_with (first | (go_at_call 11; refine (sign_any _ _).mono ?_; rintro e w' ⟨rfl, rfl⟩) | (go_at_call 12; refine (H2.out _).mono ?_; rintro e w6 ⟨rfl, hx⟩; replace hb := bthen hb hx; clear hx) | (go_at_call 13; refine (H5.out _).mono ?_; rintro e w7 ⟨rfl, hx⟩; replace hb := bthen hb hx; clear hx) | (go_at_call 14; refine (H6.out _).mono ?_; rintro e w8 ⟨rfl, hx⟩; replace hb := bthen hb hx; clear hx) | (go_at_call 10; refine (H1.out _).mono ?_; rintro e w9 ⟨rfl, hx⟩; replace hb := bthen hb hx; clear hx))
    go_ret
    exact ⟨rfl, hb⟩
end Go.Proofs.Ytmnaopdgdlineaa
