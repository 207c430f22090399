/- How many bits of a number are 1, reckoned in the way of math/bits: plain facts. What OnesCount64 and Len answer, walked. -/
import Derived.Test.YtndenipjiclkaaaBsM
import Derived.Test.YtndenipjiclkaaaBsA
import Derived.Laws.Bits128
namespace Go.Proofs.Ytndenipjiclkaaa
set_option linter.unusedVariables false
set_option linter.unusedSimpArgs false
/-- of the truths of g the first n: how many hold -/
def Bs.cnt (g : Nat → Bool) : Nat → Nat
  | 0 => 0
  | n + 1 => Bs.cnt g n + if g n then 1 else 0
theorem Bs.cnt_succ (g : Nat → Bool) (n : Nat) : Bs.cnt g (n + 1) = Bs.cnt g n + if g n then 1 else 0 := rfl
theorem Bs.cnt_shift (g : Nat → Bool) : ∀ n, Bs.cnt g (n + 1) = (if g 0 then 1 else 0) + Bs.cnt (fun k => g (k + 1)) n
  | 0 => by simp [Bs.cnt]
  | n + 1 => by
    rw [Bs.cnt_succ, Bs.cnt_shift g n, Bs.cnt_succ]
    omega
theorem Bs.cnt_add (g : Nat → Bool) (a : Nat) : ∀ n, Bs.cnt g (a + n) = Bs.cnt g a + Bs.cnt (fun k => g (a + k)) n
  | 0 => by simp [Bs.cnt]
  | n + 1 => by rw [← Nat.add_assoc, Bs.cnt_succ, Bs.cnt_succ, Bs.cnt_add g a n]; omega
theorem Bs.cnt_congr {g h : Nat → Bool} : ∀ n, (∀ k, k < n → g k = h k) → Bs.cnt g n = Bs.cnt h n
  | 0, _ => rfl
  | n + 1, e => by rw [Bs.cnt_succ, Bs.cnt_succ, Bs.cnt_congr n fun k hk => e k (by omega), e n (by omega)]
theorem Bs.cnt_le (g : Nat → Bool) : ∀ n, Bs.cnt g n ≤ n
  | 0 => by simp [Bs.cnt]
  | n + 1 => by have := Bs.cnt_le g n; rw [Bs.cnt_succ]; split <;> omega
theorem Bs.cnt_filter (g : Nat → Bool) : ∀ n, ((List.range n).filter g).length = Bs.cnt g n
  | 0 => rfl
  | n + 1 => by
    rw [List.range_succ, List.filter_append, List.length_append, Bs.cnt_filter g n, Bs.cnt_succ]
    cases h : g n <;> simp [h]
/-- the ones among the lowest n bits -/
def Bs.ones : Nat → Nat → Nat
  | 0, _ => 0
  | n + 1, x => x % 2 + Bs.ones n (x / 2)
theorem Bs.ones_cnt : ∀ n x, Bs.ones n x = Bs.cnt (fun k => x.testBit k) n
  | 0, x => rfl
  | n + 1, x => by
    rw [Bs.cnt_shift]
    unfold Bs.ones
    rw [Bs.ones_cnt n (x / 2), Nat.testBit_zero]
    have e : (fun k => x.testBit (k + 1)) = fun k => (x / 2).testBit k := funext fun k => Nat.testBit_succ x k
    rw [e]
    have : x % 2 = if decide (x % 2 = 1) = true then 1 else 0 := by split <;> simp_all <;> omega
    omega
theorem Bs.ones_word (f : Nat → Bool) (i : Nat) : Bs.ones 64 (Bs.word f i) = Bs.cnt (fun k => f (64 * i + k)) 64 := by
  rw [Bs.ones_cnt]
  exact Bs.cnt_congr 64 fun k hk => by simp [Bs.word_bit, hk]
/-- a mask, digit by digit -/
theorem Bs.mask_step (j x r m : Nat) (hr : r < 2 ^ j) : x &&& (r + 2 ^ j * m) = (x % 2 ^ j &&& r) + 2 ^ j * (x / 2 ^ j &&& m) := by
  have hp : 0 < 2 ^ j := Nat.two_pow_pos j
  have e1 : (r + 2 ^ j * m) / 2 ^ j = m := by rw [Nat.add_mul_div_left _ _ hp, Nat.div_eq_of_lt hr, Nat.zero_add]
  have e2 : (r + 2 ^ j * m) % 2 ^ j = r := by rw [Nat.add_mul_mod_self_left, Nat.mod_eq_of_lt hr]
  have h1 : (x &&& (r + 2 ^ j * m)) / 2 ^ j = x / 2 ^ j &&& m := by rw [Nat.and_div_two_pow, e1]
  have h2 : (x &&& (r + 2 ^ j * m)) % 2 ^ j = x % 2 ^ j &&& r := by rw [Nat.and_mod_two_pow, e2]
  have h3 := Nat.div_add_mod (x &&& (r + 2 ^ j * m)) (2 ^ j)
  rw [h1, h2] at h3
  omega
def Bs.m1 : Nat → Nat | 0 => 0 | n + 1 => 1 + 2 ^ 2 * Bs.m1 n
def Bs.m2 : Nat → Nat | 0 => 0 | n + 1 => 3 + 2 ^ 4 * Bs.m2 n
def Bs.m3 : Nat → Nat | 0 => 0 | n + 1 => 15 + 2 ^ 8 * Bs.m3 n
theorem Bs.m1_is : Bs.m1 32 = 6148914691236517205 := by decide +kernel
theorem Bs.m2_is : Bs.m2 16 = 3689348814741910323 := by decide +kernel
theorem Bs.m3_is : Bs.m3 8 = 1085102592571150095 := by decide +kernel
def Bs.s1 : Nat → Nat → Nat | 0, _ => 0 | n + 1, x => (x % 4 / 2 + x % 2) + 4 * Bs.s1 n (x / 4)
def Bs.p4 (d : Nat) : Nat := d % 2 + d / 2 % 2 + d / 4 % 2 + d / 8 % 2
def Bs.s2 : Nat → Nat → Nat | 0, _ => 0 | n + 1, x => Bs.p4 x + 16 * Bs.s2 n (x / 16)
def Bs.s3 : Nat → Nat → Nat | 0, _ => 0 | n + 1, x => (Bs.p4 x + Bs.p4 (x / 16)) + 256 * Bs.s3 n (x / 256)
theorem Bs.p4_le (d : Nat) : Bs.p4 d ≤ 4 := by unfold Bs.p4; omega
theorem Bs.p4_is (x : Nat) : Bs.p4 x = x % 4 / 2 + x % 2 + (x / 4 % 4 / 2 + x / 4 % 2) := by
  unfold Bs.p4
  have a : x / 2 % 2 = x % 4 / 2 := by omega
  have b : x / 8 % 2 = x / 4 % 4 / 2 := by omega
  omega
theorem Bs.s3_succ (n x : Nat) : Bs.s3 (n + 1) x = (Bs.p4 x + Bs.p4 (x / 16)) + 256 * Bs.s3 n (x / 256) := rfl
theorem Bs.s3_eight (x : Nat) : Bs.s3 8 x = (Bs.p4 x + Bs.p4 (x / 16)) + 256 * ((Bs.p4 (x / 256) + Bs.p4 (x / 256 / 16)) + 256 * ((Bs.p4 (x / 256 / 256) + Bs.p4 (x / 256 / 256 / 16)) + 256 * ((Bs.p4 (x / 256 / 256 / 256) + Bs.p4 (x / 256 / 256 / 256 / 16)) + 256 * ((Bs.p4 (x / 256 / 256 / 256 / 256) + Bs.p4 (x / 256 / 256 / 256 / 256 / 16)) + 256 * ((Bs.p4 (x / 256 / 256 / 256 / 256 / 256) + Bs.p4 (x / 256 / 256 / 256 / 256 / 256 / 16)) + 256 * ((Bs.p4 (x / 256 / 256 / 256 / 256 / 256 / 256) + Bs.p4 (x / 256 / 256 / 256 / 256 / 256 / 256 / 16)) + 256 * (Bs.p4 (x / 256 / 256 / 256 / 256 / 256 / 256 / 256) + Bs.p4 (x / 256 / 256 / 256 / 256 / 256 / 256 / 256 / 16)))))))) := by
  rw [Bs.s3_succ 7, Bs.s3_succ 6, Bs.s3_succ 5, Bs.s3_succ 4, Bs.s3_succ 3, Bs.s3_succ 2, Bs.s3_succ 1, Bs.s3_succ 0]
  simp only [Bs.s3, Nat.mul_zero, Nat.add_zero]
theorem Bs.step1 : ∀ n x, (x / 2 &&& Bs.m1 n) + (x &&& Bs.m1 n) = Bs.s1 n x
  | 0, x => by simp [Bs.m1, Bs.s1]
  | n + 1, x => by
    have ih := Bs.step1 n (x / 4)
    have a := Bs.mask_step 2 (x / 2) 1 (Bs.m1 n) (by decide)
    have b := Bs.mask_step 2 x 1 (Bs.m1 n) (by decide)
    unfold Bs.m1 Bs.s1
    rw [a, b, nat_mask1, nat_mask1]
    have e1 : x / 2 / 2 ^ 2 = x / 4 / 2 := by omega
    have e2 : x / 2 ^ 2 = x / 4 := by omega
    rw [e1, e2]
    have e3 : x / 2 % 2 ^ 2 % 2 = x % 4 / 2 := by omega
    have e4 : x % 2 ^ 2 % 2 = x % 2 := by omega
    rw [e3, e4]
    omega
theorem Bs.step2 : ∀ n x, (Bs.s1 (2 * n) x / 4 &&& Bs.m2 n) + (Bs.s1 (2 * n) x &&& Bs.m2 n) = Bs.s2 n x
  | 0, x => by simp [Bs.m2, Bs.s2]
  | n + 1, x => by
    have ih := Bs.step2 n (x / 16)
    have e0 : Bs.s1 (2 * (n + 1)) x = (x % 4 / 2 + x % 2) + 4 * ((x / 4 % 4 / 2 + x / 4 % 2) + 4 * Bs.s1 (2 * n) (x / 16)) := by
      rw [show 2 * (n + 1) = 2 * n + 1 + 1 from rfl]
      simp only [Bs.s1]
      rw [show x / 4 / 4 = x / 16 by omega]
    rw [e0]
    generalize Bs.s1 (2 * n) (x / 16) = u at *
    have a := Bs.mask_step 4 (((x % 4 / 2 + x % 2) + 4 * ((x / 4 % 4 / 2 + x / 4 % 2) + 4 * u)) / 4) 3 (Bs.m2 n) (by decide)
    have b := Bs.mask_step 4 ((x % 4 / 2 + x % 2) + 4 * ((x / 4 % 4 / 2 + x / 4 % 2) + 4 * u)) 3 (Bs.m2 n) (by decide)
    unfold Bs.m2 Bs.s2
    rw [a, b, nat_mask2, nat_mask2]
    have e1 : ((x % 4 / 2 + x % 2) + 4 * ((x / 4 % 4 / 2 + x / 4 % 2) + 4 * u)) / 4 / 2 ^ 4 = u / 4 := by omega
    have e2 : ((x % 4 / 2 + x % 2) + 4 * ((x / 4 % 4 / 2 + x / 4 % 2) + 4 * u)) / 2 ^ 4 = u := by omega
    rw [e1, e2]
    have e3 : ((x % 4 / 2 + x % 2) + 4 * ((x / 4 % 4 / 2 + x / 4 % 2) + 4 * u)) / 4 % 2 ^ 4 % 4 = x / 4 % 4 / 2 + x / 4 % 2 := by omega
    have e4 : ((x % 4 / 2 + x % 2) + 4 * ((x / 4 % 4 / 2 + x / 4 % 2) + 4 * u)) % 2 ^ 4 % 4 = x % 4 / 2 + x % 2 := by omega
    rw [e3, e4]
    rw [Bs.p4_is]
    omega
theorem Bs.s2_low : ∀ n x, Bs.s2 n x % 16 ≤ 4
  | 0, x => by simp [Bs.s2]
  | n + 1, x => by have := Bs.p4_le x; unfold Bs.s2; omega
theorem Bs.step3 : ∀ n x, ((Bs.s2 (2 * n) x / 16 + Bs.s2 (2 * n) x) &&& Bs.m3 n) = Bs.s3 n x
  | 0, x => by simp [Bs.m3, Bs.s3]
  | n + 1, x => by
    have ih := Bs.step3 n (x / 256)
    have lo := Bs.s2_low (2 * n) (x / 256)
    have p1 := Bs.p4_le x
    have p2 := Bs.p4_le (x / 16)
    have e0 : Bs.s2 (2 * (n + 1)) x = Bs.p4 x + 16 * (Bs.p4 (x / 16) + 16 * Bs.s2 (2 * n) (x / 256)) := by
      rw [show 2 * (n + 1) = 2 * n + 1 + 1 from rfl]
      simp only [Bs.s2]
      rw [show x / 16 / 16 = x / 256 by omega]
    rw [e0]
    unfold Bs.m3 Bs.s3
    generalize Bs.s2 (2 * n) (x / 256) = u at *
    generalize Bs.p4 x = a at *
    generalize Bs.p4 (x / 16) = b at *
    rw [Bs.mask_step 8 _ 15 _ (by decide), nat_mask4]
    have e1 : ((a + 16 * (b + 16 * u)) / 16 + (a + 16 * (b + 16 * u))) / 2 ^ 8 = u / 16 + u := by omega
    have e2 : ((a + 16 * (b + 16 * u)) / 16 + (a + 16 * (b + 16 * u))) % 2 ^ 8 % 16 = a + b := by omega
    rw [e1, e2, ih]
/-- the eight bytes, each the ones of a byte, added up -/
theorem Bs.fold8 (p0 p1 p2 p3 p4 p5 p6 p7 : Nat) (h0 : p0 ≤ 8) (h1 : p1 ≤ 8) (h2 : p2 ≤ 8) (h3 : p3 ≤ 8) (h4 : p4 ≤ 8) (h5 : p5 ≤ 8) (h6 : p6 ≤ 8) (h7 : p7 ≤ 8) {v v4 v5 v6 : Nat}
    (hv : v = p0 + 256 * (p1 + 256 * (p2 + 256 * (p3 + 256 * (p4 + 256 * (p5 + 256 * (p6 + 256 * p7))))))) (e4 : v4 = v + v / 256) (e5 : v5 = v4 + v4 / 65536) (e6 : v6 = v5 + v5 / 4294967296) :
    v6 % 128 = p0 + p1 + p2 + p3 + p4 + p5 + p6 + p7 ∧ v6 < 4611686018427387904 := by
  have d1 : v / 256 = p1 + 256 * (p2 + 256 * (p3 + 256 * (p4 + 256 * (p5 + 256 * (p6 + 256 * p7))))) := by omega
  have f4 : v4 = (p0 + p1) + 256 * ((p1 + p2) + 256 * ((p2 + p3) + 256 * ((p3 + p4) + 256 * ((p4 + p5) + 256 * ((p5 + p6) + 256 * ((p6 + p7) + 256 * p7)))))) := by rw [e4, d1, hv]; omega
  clear e4 d1 hv
  have d2 : v4 / 65536 = (p2 + p3) + 256 * ((p3 + p4) + 256 * ((p4 + p5) + 256 * ((p5 + p6) + 256 * ((p6 + p7) + 256 * p7)))) := by omega
  have f5 : v5 = (p0 + p1 + (p2 + p3)) + 256 * ((p1 + p2 + (p3 + p4)) + 256 * ((p2 + p3 + (p4 + p5)) + 256 * ((p3 + p4 + (p5 + p6)) + 256 * ((p4 + p5 + (p6 + p7)) + 256 * ((p5 + p6 + p7) + 256 * ((p6 + p7) + 256 * p7)))))) := by rw [e5, d2, f4]; omega
  clear e5 d2 f4
  have d3 : v5 / 4294967296 = (p4 + p5 + (p6 + p7)) + 256 * ((p5 + p6 + p7) + 256 * ((p6 + p7) + 256 * p7)) := by omega
  rw [d3, f5] at e6
  clear d3 f5
  omega
theorem Bs.ones_four (n x : Nat) : Bs.ones (n + 4) x = Bs.p4 x + Bs.ones n (x / 16) := by
  simp only [Bs.ones, Bs.p4]
  rw [show x / 2 / 2 / 2 / 2 = x / 16 by omega, show x / 2 / 2 / 2 = x / 8 by omega, show x / 2 / 2 = x / 4 by omega]
  omega
theorem Bs.ones_eight (n x : Nat) : Bs.ones (n + 8) x = (Bs.p4 x + Bs.p4 (x / 16)) + Bs.ones n (x / 256) := by
  rw [show n + 8 = (n + 4) + 4 from rfl, Bs.ones_four, Bs.ones_four, show x / 16 / 16 = x / 256 by omega]
  omega
theorem Bs.ones_all (x : Nat) : Bs.ones 64 x = (Bs.p4 x + Bs.p4 (x / 16)) + (Bs.p4 (x / 256) + Bs.p4 (x / 256 / 16)) + (Bs.p4 (x / 256 / 256) + Bs.p4 (x / 256 / 256 / 16)) + (Bs.p4 (x / 256 / 256 / 256) + Bs.p4 (x / 256 / 256 / 256 / 16)) + (Bs.p4 (x / 256 / 256 / 256 / 256) + Bs.p4 (x / 256 / 256 / 256 / 256 / 16)) + (Bs.p4 (x / 256 / 256 / 256 / 256 / 256) + Bs.p4 (x / 256 / 256 / 256 / 256 / 256 / 16)) + (Bs.p4 (x / 256 / 256 / 256 / 256 / 256 / 256) + Bs.p4 (x / 256 / 256 / 256 / 256 / 256 / 256 / 16)) + (Bs.p4 (x / 256 / 256 / 256 / 256 / 256 / 256 / 256) + Bs.p4 (x / 256 / 256 / 256 / 256 / 256 / 256 / 256 / 16)) := by
  rw [Bs.ones_eight 56, Bs.ones_eight 48, Bs.ones_eight 40, Bs.ones_eight 32, Bs.ones_eight 24, Bs.ones_eight 16, Bs.ones_eight 8, Bs.ones_eight 0]
  simp only [Bs.ones]
  omega
/-- the whole of OnesCount64, over numbers -/
theorem Bs.ones_swar (x : Nat) {a b c d e f : Nat} (h1 : a = (x / 2 &&& 6148914691236517205) + (x &&& 6148914691236517205)) (h2 : b = (a / 4 &&& 3689348814741910323) + (a &&& 3689348814741910323))
    (h3 : c = (b / 16 + b) &&& 1085102592571150095) (h4 : d = c + c / 256) (h5 : e = d + d / 65536) (h6 : f = e + e / 4294967296) : f % 128 = Bs.ones 64 x ∧ f < 4611686018427387904 := by
  have g1 : a = Bs.s1 32 x := by rw [h1, ← Bs.m1_is, Bs.step1]
  have g2 : b = Bs.s2 16 x := by
    have t := Bs.step2 16 x
    rw [Bs.m2_is] at t
    rw [h2, g1]
    exact t
  have g3 : c = Bs.s3 8 x := by
    have t := Bs.step3 8 x
    rw [Bs.m3_is] at t
    rw [h3, g2]
    exact t
  clear h1 h2 h3 g1 g2
  have q : ∀ y, Bs.p4 y + Bs.p4 (y / 16) ≤ 8 := fun y => by have := Bs.p4_le y; have := Bs.p4_le (y / 16); omega
  rw [Bs.s3_eight] at g3
  have R := Bs.fold8 _ _ _ _ _ _ _ _ (q x) (q (x / 256)) (q (x / 256 / 256)) (q (x / 256 / 256 / 256)) (q (x / 256 / 256 / 256 / 256)) (q (x / 256 / 256 / 256 / 256 / 256)) (q (x / 256 / 256 / 256 / 256 / 256 / 256)) (q (x / 256 / 256 / 256 / 256 / 256 / 256 / 256)) g3 h4 h5 h6
  exact ⟨by rw [R.1, Bs.ones_all], R.2⟩
open Go.RowKit
theorem Bs.wrap_nat {n : Nat} (h : n < 18446744073709551616) : IntKind.u64.wrap (n : Int) = n := by rw [IntKind.wrap_u64]; omega
theorem Bs.and_c (x m : Nat) (hx : x < 18446744073709551616) (hm : m < 18446744073709551616) : bits .and .u64 (x : Int) (m : Int) = ((x &&& m : Nat) : Int) := u64_and_nat x m hx hm
theorem Bs.add_c (a b : Nat) (h : a + b < 18446744073709551616) : IntKind.u64.wrap ((a : Int) + (b : Int)) = ((a + b : Nat) : Int) := by rw [← Bs.wrap_nat h]; simp
theorem Bs.and_le_r (x m : Nat) : x &&& m ≤ m := Nat.and_le_right
theorem Bs.sum1 (x d m : Nat) (hx : x < 18446744073709551616) (hm : m < 9223372036854775808) : IntKind.u64.wrap (bits .and .u64 ((x : Int) / (d : Int)) (m : Int) + bits .and .u64 (x : Int) (m : Int)) = (((x / d &&& m) + (x &&& m) : Nat) : Int) := by
  have e : (x : Int) / (d : Int) = ((x / d : Nat) : Int) := by simp
  have h1 : x / d < 18446744073709551616 := Nat.lt_of_le_of_lt (Nat.div_le_self _ _) hx
  have l1 := Bs.and_le_r (x / d) m
  have l2 := Bs.and_le_r x m
  rw [e, Bs.and_c _ _ h1 (by omega), Bs.and_c _ _ hx (by omega), Bs.add_c _ _ (by omega)]
theorem Bs.sum2 (x d : Nat) (h : x + x / d < 18446744073709551616) : IntKind.u64.wrap ((x : Int) + (x : Int) / (d : Int)) = ((x + x / d : Nat) : Int) := by
  have e : (x : Int) / (d : Int) = ((x / d : Nat) : Int) := by simp
  rw [e, Bs.add_c _ _ h]
theorem Bs.sum3 (x d m : Nat) (h : x / d + x < 18446744073709551616) (hm : m < 18446744073709551616) : bits .and .u64 (IntKind.u64.wrap ((x : Int) / (d : Int) + (x : Int))) (m : Int) = (((x / d + x) &&& m : Nat) : Int) := by
  have e : (x : Int) / (d : Int) = ((x / d : Nat) : Int) := by simp
  rw [e, Bs.add_c _ _ h, Bs.and_c _ _ h hm]
theorem Bs.ones_int (x : Nat) (hx : x < 18446744073709551616) {a b c d e f : Int} (h1 : a = IntKind.u64.wrap (bits .and .u64 ((x : Int) / 2) 6148914691236517205 + bits .and .u64 (x : Int) 6148914691236517205))
    (h2 : b = IntKind.u64.wrap (bits .and .u64 (a / 4) 3689348814741910323 + bits .and .u64 a 3689348814741910323)) (h3 : c = bits .and .u64 (IntKind.u64.wrap (b / 16 + b)) 1085102592571150095)
    (h4 : d = IntKind.u64.wrap (c + c / 256)) (h5 : e = IntKind.u64.wrap (d + d / 65536)) (h6 : f = IntKind.u64.wrap (e + e / 4294967296)) : bits .and .i64 (wrap64 f) 127 = (Bs.ones 64 x : Int) := by
  obtain ⟨A, hA⟩ : ∃ A, A = (x / 2 &&& 6148914691236517205) + (x &&& 6148914691236517205) := ⟨_, rfl⟩
  have lA : A < 18446744073709551616 := by
    have l1 := Bs.and_le_r (x / 2) 6148914691236517205
    have l2 := Bs.and_le_r x 6148914691236517205
    omega
  have g1 : a = (A : Int) := by rw [h1, hA]; exact Bs.sum1 x 2 6148914691236517205 hx (by decide)
  obtain ⟨B, hB⟩ : ∃ B, B = (A / 4 &&& 3689348814741910323) + (A &&& 3689348814741910323) := ⟨_, rfl⟩
  have lB : B ≤ 7378697629483820646 := by
    have l1 := Bs.and_le_r (A / 4) 3689348814741910323
    have l2 := Bs.and_le_r A 3689348814741910323
    omega
  have g2 : b = (B : Int) := by rw [h2, g1, hB]; exact Bs.sum1 A 4 3689348814741910323 lA (by decide)
  obtain ⟨C, hC⟩ : ∃ C, C = (B / 16 + B) &&& 1085102592571150095 := ⟨_, rfl⟩
  have lC : C ≤ 1085102592571150095 := by rw [hC]; exact Bs.and_le_r _ _
  have g3 : c = (C : Int) := by rw [h3, g2, hC]; exact Bs.sum3 B 16 1085102592571150095 (by omega) (by decide)
  obtain ⟨D, hD⟩ : ∃ D, D = C + C / 256 := ⟨_, rfl⟩
  have g4 : d = (D : Int) := by rw [h4, g3, hD]; exact Bs.sum2 C 256 (by omega)
  obtain ⟨E, hE⟩ : ∃ E, E = D + D / 65536 := ⟨_, rfl⟩
  have g5 : e = (E : Int) := by rw [h5, g4, hE]; exact Bs.sum2 D 65536 (by omega)
  obtain ⟨F, hF⟩ : ∃ F, F = E + E / 4294967296 := ⟨_, rfl⟩
  have g6 : f = (F : Int) := by rw [h6, g5, hF]; exact Bs.sum2 E 4294967296 (by omega)
  obtain ⟨r1, r2⟩ := Bs.ones_swar x hA hB hC hD hE hF
  have e1 : wrap64 (F : Int) = F := by unfold wrap64; omega
  rw [g6, e1, i64_and127, ← r1]
  simp
end Go.Proofs.Ytndenipjiclkaaa
