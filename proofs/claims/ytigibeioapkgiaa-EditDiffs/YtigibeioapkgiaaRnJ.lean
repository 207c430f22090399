/- The law of whole texts and signs, walked. -/
import Derived.Test.YtigibeioapkgiaaRnG
namespace Go.Proofs.Ytigibeioapkgiaa
set_option linter.unusedVariables false
set_option linter.unusedSimpArgs false
open Go.RowKit
theorem bytesI_len (n : Int) : (Rn.bytesI n).length ≤ 4 := by
  unfold Rn.bytesI; (repeat' split) <;> simp
theorem bytes_first (n : Int) (s : ByteArray) (h : Rn.signI n = true) : Rn.firstL (strOfNums (Rn.bytesI n) ++ s).data.toList = (n, ((strOfNums (Rn.bytesI n)).size : Int)) := by
  have hd : (strOfNums (Rn.bytesI n) ++ s).data.toList = (Rn.bytesI n).map (fun n => UInt8.ofNat n.toNat) ++ s.data.toList := by
    rw [ByteArray.data_append, Array.toList_append, strOfNums_data]
  have hz : (strOfNums (Rn.bytesI n)).size = (Rn.bytesI n).length := strOfNums_size _
  have hp : 1 ≤ (Rn.bytesI n).length := by
    rcases Rn.sign_cases h with h | h | ⟨h, h2, h3⟩ | h
    · rw [(Rn.bytesI_1 n h).2.1]; simp
    · rw [(Rn.bytesI_2 n h).2.1]; simp
    · rw [(Rn.bytesI_3 n ⟨h, h2⟩ h3).2.1]; simp
    · rw [(Rn.bytesI_4 n h).2.1]; simp
  rw [hd, hz]
  refine Rn.first_of n h _ _ hp (by simp) ?_
  rw [List.take_left' (by simp)]
  exact (Rn.map_back _ _ (Rn.bytesI_byte n)).1 rfl
end Go.Proofs.Ytigibeioapkgiaa
