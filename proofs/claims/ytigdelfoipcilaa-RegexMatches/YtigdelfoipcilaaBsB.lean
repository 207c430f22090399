/- What OnesCount64 and Len answer, walked. -/
import Derived.Test.YtigdelfoipcilaaBsA
import Derived.Test.YtigdelfoipcilaaBsP
import Derived.Laws.Bits128
namespace Go.Proofs.Ytigdelfoipcilaa
set_option linter.unusedVariables false
set_option linter.unusedSimpArgs false
open Go.RowKit
theorem Bs.wrap_nat {n : Nat} (h : n < 18446744073709551616) : IntKind.u64.wrap (n : Int) = n := by rw [IntKind.wrap_u64]; omega
theorem Bs.and_c (x m : Nat) (hx : x < 18446744073709551616) (hm : m < 18446744073709551616) : bits .and .u64 (x : Int) (m : Int) = ((x &&& m : Nat) : Int) := u64_and_nat x m hx hm
theorem Bs.add_c (a b : Nat) (h : a + b < 18446744073709551616) : IntKind.u64.wrap ((a : Int) + (b : Int)) = ((a + b : Nat) : Int) := by rw [← Bs.wrap_nat h]; simp
theorem Bs.and_le_r (x m : Nat) : x &&& m ≤ m := Nat.and_le_right
theorem Bs.sum1 (x d m : Nat) (hx : x < 18446744073709551616) (hm : m < 9223372036854775808) : IntKind.u64.wrap (bits .and .u64 ((x : Int) / (d : Int)) (m : Int) + bits .and .u64 (x : Int) (m : Int)) = (((x / d &&& m) + (x &&& m) : Nat) : Int) := by
  have e : (x : Int) / (d : Int) = ((x / d : Nat) : Int) := by simp
  have h1 : x / d < 18446744073709551616 := Nat.lt_of_le_of_lt (Nat.div_le_self _ _) hx
  have l1 := Bs.and_le_r (x / d) m
  have l2 := Bs.and_le_r x m
  rw [e, Bs.and_c _ _ h1 (by omega), Bs.and_c _ _ hx (by omega), Bs.add_c _ _ (by omega)]
theorem Bs.sum2 (x d : Nat) (h : x + x / d < 18446744073709551616) : IntKind.u64.wrap ((x : Int) + (x : Int) / (d : Int)) = ((x + x / d : Nat) : Int) := by
  have e : (x : Int) / (d : Int) = ((x / d : Nat) : Int) := by simp
  rw [e, Bs.add_c _ _ h]
theorem Bs.sum3 (x d m : Nat) (h : x / d + x < 18446744073709551616) (hm : m < 18446744073709551616) : bits .and .u64 (IntKind.u64.wrap ((x : Int) / (d : Int) + (x : Int))) (m : Int) = (((x / d + x) &&& m : Nat) : Int) := by
  have e : (x : Int) / (d : Int) = ((x / d : Nat) : Int) := by simp
  rw [e, Bs.add_c _ _ h, Bs.and_c _ _ h hm]
theorem Bs.ones_int (x : Nat) (hx : x < 18446744073709551616) {a b c d e f : Int} (h1 : a = IntKind.u64.wrap (bits .and .u64 ((x : Int) / 2) 6148914691236517205 + bits .and .u64 (x : Int) 6148914691236517205))
    (h2 : b = IntKind.u64.wrap (bits .and .u64 (a / 4) 3689348814741910323 + bits .and .u64 a 3689348814741910323)) (h3 : c = bits .and .u64 (IntKind.u64.wrap (b / 16 + b)) 1085102592571150095)
    (h4 : d = IntKind.u64.wrap (c + c / 256)) (h5 : e = IntKind.u64.wrap (d + d / 65536)) (h6 : f = IntKind.u64.wrap (e + e / 4294967296)) : bits .and .i64 (wrap64 f) 127 = (Bs.ones 64 x : Int) := by
  obtain ⟨A, hA⟩ : ∃ A, A = (x / 2 &&& 6148914691236517205) + (x &&& 6148914691236517205) := ⟨_, rfl⟩
  have lA : A < 18446744073709551616 := by
    have l1 := Bs.and_le_r (x / 2) 6148914691236517205
    have l2 := Bs.and_le_r x 6148914691236517205
    omega
  have g1 : a = (A : Int) := by rw [h1, hA]; exact Bs.sum1 x 2 6148914691236517205 hx (by decide)
  obtain ⟨B, hB⟩ : ∃ B, B = (A / 4 &&& 3689348814741910323) + (A &&& 3689348814741910323) := ⟨_, rfl⟩
  have lB : B ≤ 7378697629483820646 := by
    have l1 := Bs.and_le_r (A / 4) 3689348814741910323
    have l2 := Bs.and_le_r A 3689348814741910323
    omega
  have g2 : b = (B : Int) := by rw [h2, g1, hB]; exact Bs.sum1 A 4 3689348814741910323 lA (by decide)
  obtain ⟨C, hC⟩ : ∃ C, C = (B / 16 + B) &&& 1085102592571150095 := ⟨_, rfl⟩
  have lC : C ≤ 1085102592571150095 := by rw [hC]; exact Bs.and_le_r _ _
  have g3 : c = (C : Int) := by rw [h3, g2, hC]; exact Bs.sum3 B 16 1085102592571150095 (by omega) (by decide)
  obtain ⟨D, hD⟩ : ∃ D, D = C + C / 256 := ⟨_, rfl⟩
  have g4 : d = (D : Int) := by rw [h4, g3, hD]; exact Bs.sum2 C 256 (by omega)
  obtain ⟨E, hE⟩ : ∃ E, E = D + D / 65536 := ⟨_, rfl⟩
  have g5 : e = (E : Int) := by rw [h5, g4, hE]; exact Bs.sum2 D 65536 (by omega)
  obtain ⟨F, hF⟩ : ∃ F, F = E + E / 4294967296 := ⟨_, rfl⟩
  have g6 : f = (F : Int) := by rw [h6, g5, hF]; exact Bs.sum2 E 4294967296 (by omega)
  obtain ⟨r1, r2⟩ := Bs.ones_swar x hA hB hC hD hE hF
  have e1 : wrap64 (F : Int) = F := by unfold wrap64; omega
  rw [g6, e1, i64_and127, ← r1]
  simp
end Go.Proofs.Ytigdelfoipcilaa
