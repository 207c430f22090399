/- What 'Whole' answers, walked. The program's reader of expressions: plain facts: what stands in the text that is left, by its signs. The program's reader of expressions: what need, pass, at, sign answer, walked. What Of, which, Range and the closures answer, walked. The classes of some sets: plain facts. What Range, like and the closures answer, walked. -/
import Derived.Test.YthapedadnbkgnaaG5
import Derived.Lib.Strings
import Derived.Lib.IndexBytes
import Derived.Deep.LoopGhost
import Derived.Test.YthapedadnbkgnaaG2
import Derived.Test.YthapedadnbkgnaaG3
import Derived.WalkLawsBesides
import Derived.StillTailTactics
import Derived.BigQuiet
import Derived.Deep.QuietTactic
namespace Go.Proofs.Ythapedadnbkgnaa
set_option linter.unusedVariables false
set_option linter.unusedSimpArgs false
open Go.RowKit
theorem tail_data (s : ByteArray) (k : Nat) : (s.extract k s.size).data.toList = s.data.toList.drop k := by
  rw [Lib.extract_data]; exact List.take_of_length_le (by simp)
set_option maxRecDepth 100000 in
set_option maxHeartbeats 400000 in
theorem sign_walk (b at' : Nat) (k : Int) (s : ByteArray) (w : World) (hs : s.size ≤ maxLen) (ha : at' ≤ s.size) (hk : (Rn.firstL (s.data.toList.drop at')).2 = k)
    (hc0 : w.cell? ⟨b, 0, none⟩ = some (.string s)) (hc1 : w.cell? ⟨b, 1, none⟩ = some (.int .i64 at')) (hf : w.frozen? ⟨b, 1, none⟩ = false) :
    Calls Try.prog 39 #[.pointer (some ⟨b, 0, none⟩)] w fun e w' => e = .returned (.bool (decide (0 < k))) ∧ ∃ n, w' = (w.drewN n).setCell ⟨b, 1, none⟩ (.int .i64 (at' + k)) := by
  unfold maxLen at hs
  have hbd := Rn.firstL_bd (s.data.toList.drop at')
  rw [hk, List.length_drop, Rn.len_data] at hbd
  have hT : (s.data.toList.drop at').take (s.size - at') = s.data.toList.drop at' := List.take_of_length_le (by simp)
  go_enter Try.func39, Try.ntmps39
  go_wp2
  have hw1 : IntKind.i64.wrap ((at' : Int) + k) = at' + k := IntWalk.i64_in _ (by omega)
  go_quiet ((go_at_call 61; refine Calls.quiet_of (first_any _ _ (by unfold maxLen; simp; omega))))
  rw [tail_data, hk]
  go_wp2
  go_ret
  exact ⟨rfl, _, rfl⟩
structure ReadsAt (w0 : World) (s : ByteArray) (at' : Nat) (wr : World) : Prop where
  c0 : wr.cell? ⟨w0.heap.size, 0, none⟩ = some (.string s)
  c1 : wr.cell? ⟨w0.heap.size, 1, none⟩ = some (.int .i64 at')
  fz : wr.frozen? ⟨w0.heap.size, 1, none⟩ = false
  be : Below w0.heap.size w0 wr
  wh : Rn.wholeL s.data.toList = Rn.wholeL (s.data.toList.drop at')
theorem ReadsAt.on {w0 : World} {s : ByteArray} {at' k : Nat} {wr : World} (h : ReadsAt w0 s at' wr) (hk : (Rn.firstL (s.data.toList.drop at')).2 = k) (h0 : 0 < k) (n : Nat) :
    ReadsAt w0 s (at' + k) ((wr.drewN n).setCell ⟨w0.heap.size, 1, none⟩ (.int .i64 (at' + k : Nat))) where
  c0 := by have := h.c0; simp [go_sem, this]
  c1 := by have := h.c1; simp [go_sem, this]
  fz := by have := h.fz; simp [go_sem, this]
  be := (below_drewN h.be n).setCell (Nat.le_refl _) _
  wh := by
    rw [h.wh, Rn.wholeL_eq, hk, if_neg (by omega), List.drop_drop]; simp
set_option maxRecDepth 100000 in
set_option maxHeartbeats 400000 in
theorem whole_any (s : ByteArray) (w : World) (hs : s.size ≤ maxLen) : Calls Try.prog 19 #[.string s] w fun e w' => e = .returned (.bool (Rn.wholeL s.data.toList)) ∧ Below w.heap.size w w' := by
  unfold maxLen at hs
  go_enter Try.func19, Try.ntmps19
  go_wp2
  go_loopg [] (s.size + 1) (fun g wr => ∃ at' : Nat, at' ≤ s.size ∧ g + at' = s.size + 1 ∧ ReadsAt w s at' wr)
  case atStart => 
    refine ⟨0, by omega, by omega, ⟨by simp, by simp, by simp, ?_, rfl⟩⟩
    exact (Below.refl _ _).alloc (Nat.le_refl _) _
  case round =>
    obtain ⟨at', h1, h2, hr⟩ := hrel
    have hk0 := Rn.firstL_bd (s.data.toList.drop at')
    rw [List.length_drop, Rn.len_data] at hk0
    obtain ⟨k, hk⟩ : ∃ k : Nat, (Rn.firstL (s.data.toList.drop at')).2 = k := ⟨_, (Int.toNat_of_nonneg hk0.1).symm⟩
    rw [hk] at hk0
    have HK := Lib.hid hk; clear hk
    have hc := sign_walk w.heap.size at' k s wr (by unfold maxLen; omega) h1 HK.out hr.c0 hr.c1 hr.fz
    have HC := Lib.hid hc; clear hc
    by_cases hk1 : 0 < k
    · have hk2 : decide (0 < (k : Int)) = true := by simp; omega
      go_wp2_with (go_at_call 39; refine HC.out.mono ?_; rintro e w' ⟨rfl, n, rfl⟩)
      go_roundg (gk - k)
      case measure => omega
      case rel => exact ⟨at' + k, by omega, by omega, hr.on HK.out hk1 n⟩
    · have hk2 : decide (0 < (k : Int)) = false := by simp; omega
      have hc1 := hr.c1
      go_wp2_with (go_at_call 39; refine HC.out.mono ?_; rintro e w' ⟨rfl, n, rfl⟩)
      go_ret
      refine ⟨ret_bool ?_, (below_drewN hr.be n).setCell (Nat.le_refl _) _⟩
      rw [hr.wh, Rn.wholeL_eq, HK.out, if_pos (by omega), Bool.eq_iff_iff, List.isEmpty_iff_length_eq_zero, List.length_drop, Rn.len_data, beq_iff_eq]
      omega
end Go.Proofs.Ythapedadnbkgnaa
namespace Go.Proofs.Ythapedadnbkgnaa
set_option linter.unusedVariables false
set_option linter.unusedSimpArgs false
structure Px.Str (s : ByteArray) (t : List Int) : Prop where
  cat : s.data.toList = Rn.cat t
  sg : Rn.Signs t
  ln : s.size ≤ 100
theorem Px.Str.max {s : ByteArray} {t : List Int} (h : Px.Str s t) : s.size ≤ maxLen := by have := h.ln; unfold maxLen; omega
theorem Px.Str.nil {s : ByteArray} (h : Px.Str s []) : s.size = 0 := by
  have := h.cat
  rw [Rn.cat] at this
  rw [← Rn.len_data, this]; rfl
theorem Px.Str.len {s : ByteArray} {n : Int} {t : List Int} (h : Px.Str s (n :: t)) : 1 ≤ s.size := by
  have h1 := h.cat
  obtain ⟨c, u, hc, _⟩ := Rn.blk_form n (h.sg n (by simp))
  rw [Rn.cat, hc] at h1
  rw [← Rn.len_data, h1]; simp
theorem Px.sign_pos {n : Int} (h : Rn.signI n = true) : 0 ≤ n := by
  simp only [Rn.signI, Bool.and_eq_true, decide_eq_true_eq] at h; omega
theorem Px.head_low {n : Int} (h : Rn.signI n = true) (hn : n < 128) : ∃ c : UInt8, Rn.blk n = [c] ∧ (c.toNat : Int) = n := by
  have h0 := Px.sign_pos h
  refine ⟨UInt8.ofNat n.toNat, ?_, ?_⟩
  · unfold Rn.blk; rw [(Rn.bytesI_1 n ⟨h0, hn⟩).2.1]; rfl
  · have e : (UInt8.ofNat n.toNat).toNat = n.toNat := by simp; omega
    rw [e]; omega
theorem Px.head_high {n : Int} (h : Rn.signI n = true) (hn : ¬ n < 128) : ∃ (c : UInt8) (u : List UInt8), Rn.blk n = c :: u ∧ 192 ≤ (c.toNat : Int) := by
  have hb := (Rn.map_back (Rn.bytesI n) (Rn.blk n) (Rn.bytesI_byte n)).1 rfl
  obtain ⟨c, u, hc, _⟩ := Rn.blk_form n h
  refine ⟨c, u, hc, ?_⟩
  rw [hc, List.map_cons, Rn.toI] at hb
  rcases Rn.sign_cases h with h | h | ⟨h, h2, h3⟩ | h
  · omega
  · rw [(Rn.bytesI_2 n h).2.1] at hb; simp at hb; omega
  · rw [(Rn.bytesI_3 n ⟨h, h2⟩ h3).2.1] at hb; simp at hb; omega
  · rw [(Rn.bytesI_4 n h).2.1] at hb; simp at hb; omega
theorem Px.Str.is {s : ByteArray} {n : Int} {t : List Int} (h : Px.Str s (n :: t)) (h0 : 0 < s.size) (c : Nat) (hc : c < 128) : (s[0].toNat = c) ↔ n = c := by
  have h1 := h.cat
  rw [Rn.list0 s h0, Rn.cat] at h1
  by_cases hn : n < 128
  · obtain ⟨b, hb, e⟩ := Px.head_low (h.sg n (by simp)) hn
    rw [hb] at h1
    have h2 : s[0] = b := by simpa using (List.cons.inj h1).1
    rw [h2]; omega
  · obtain ⟨b, u, hb, e⟩ := Px.head_high (h.sg n (by simp)) hn
    rw [hb] at h1
    have h2 : s[0] = b := by simpa using (List.cons.inj h1).1
    rw [h2]; omega
theorem Px.Str.low {s : ByteArray} {n : Int} {t : List Int} (h : Px.Str s (n :: t)) (hn : n < 128) : Px.Str (s.extract 1 s.size) t := by
  obtain ⟨b, hb, e⟩ := Px.head_low (h.sg n (by simp)) hn
  have h1 := h.cat
  rw [Rn.cat, hb] at h1
  refine ⟨by rw [tail_data, h1]; simp, fun m hm => h.sg m (by simp [hm]), ?_⟩
  have := h.ln
  rw [ByteArray.size_extract]; omega
theorem Px.Str.on {s : ByteArray} {n : Int} {t : List Int} (h : Px.Str s (n :: t)) : ∃ k : Nat, 0 < k ∧ k ≤ s.size ∧ Rn.firstL s.data.toList = (n, (k : Int)) ∧ Px.Str (s.extract k s.size) t := by
  have hs := h.sg n (by simp)
  obtain ⟨c, u, hc, _⟩ := Rn.blk_form n hs
  have h1 := h.cat
  rw [Rn.cat] at h1
  have hl : (Rn.blk n).length ≤ s.size := by rw [← Rn.len_data, h1]; simp
  refine ⟨(Rn.blk n).length, by rw [hc]; simp, hl, by rw [h1, Rn.blk_first n hs], ?_⟩
  refine ⟨by rw [tail_data, h1]; simp, fun m hm => h.sg m (by simp [hm]), ?_⟩
  have := h.ln
  rw [ByteArray.size_extract]; omega
def Px.oneOf (S : List UInt8) : List Int → Bool
  | [] => false
  | n :: _ => S.any fun b => (b.toNat : Int) == n
theorem Px.Str.any {s : ByteArray} {n : Int} {t : List Int} (h : Px.Str s (n :: t)) (h0 : 0 < s.size) (S : List UInt8) (hS : ∀ b ∈ S, b.toNat < 128) : S.contains s[0] = Px.oneOf S (n :: t) := by
  rw [Bool.eq_iff_iff]
  simp only [Px.oneOf, List.any_eq_true, beq_iff_eq, List.contains_iff_mem]
  constructor
  · intro hm
    exact ⟨_, hm, ((h.is h0 _ (hS _ hm)).1 rfl).symm⟩
  · rintro ⟨b, hb, e⟩
    have := (h.is h0 b.toNat (hS _ hb)).2 (by omega)
    rwa [show s[0] = b from UInt8.toNat_inj.1 this]
theorem Px.whole_signs : ∀ (k : Nat) (l : List UInt8), l.length ≤ k → Rn.wholeL l = true → ∃ t, Rn.Signs t ∧ l = Rn.cat t := by
  intro k
  induction k with
  | zero =>
    intro l hl _
    have : l = [] := List.eq_nil_of_length_eq_zero (by omega)
    exact ⟨[], by intro n hn; simp at hn, by rw [this]; rfl⟩
  | succ k ih =>
    intro l hl h
    rw [Rn.wholeL_eq] at h
    split at h
    · exact ⟨[], by intro n hn; simp at hn, by rw [Rn.cat]; simpa using h⟩
    · rename_i hk
      obtain ⟨n, j, hf⟩ : ∃ n j, Rn.firstL l = (n, j) := ⟨_, _, rfl⟩
      rw [hf] at h hk
      simp only at h hk
      have hof := Rn.of_first l n j hf (by omega)
      have hbd := Rn.firstL_bd l
      rw [hf] at hbd
      simp only at hbd
      obtain ⟨t, ht, e⟩ := ih (l.drop j.toNat) (by rw [List.length_drop]; omega) h
      have hx : Rn.signI n = true ∧ Rn.blk n = l.take j.toNat := by
        refine ⟨hof.1, ?_⟩
        unfold Rn.blk
        obtain ⟨i, e, _, _, _, e2, _⟩ := hof.2
        subst e
        exact (Rn.map_back _ _ (Rn.bytesI_byte n)).2 e2
      refine ⟨n :: t, ?_, ?_⟩
      · intro m hm
        rcases List.mem_cons.1 hm with rfl | hm
        · exact hx.1
        · exact ht m hm
      · rw [Rn.cat, hx.2, ← e, List.take_append_drop]
end Go.Proofs.Ythapedadnbkgnaa
namespace Go.Proofs.Ythapedadnbkgnaa
set_option linter.unusedVariables false
set_option linter.unusedSimpArgs false
open Go.RowKit
def Px.up (why : Int) : Ending := .panicked [{ v := .iface 96 (.agg #[.int .i64 why]), recovered := false }]
structure Px.St (w : World) (r : Nat) (t : List Int) (big : Bool) : Prop where
  c0 : ∃ s, w.cell? ⟨r, 0, none⟩ = some (.string s) ∧ Px.Str s t
  c1 : w.cell? ⟨r, 1, none⟩ = some (.bool big)
  z0 : w.frozen? ⟨r, 0, none⟩ = false
  z1 : w.frozen? ⟨r, 1, none⟩ = false
  only : ∀ j v, w.cell? ⟨r, j, none⟩ = some v → j < 2
theorem Px.St.lt {w : World} {r : Nat} {t : List Int} {big : Bool} (h : Px.St w r t big) : r < w.heap.size := World.block_lt_of_cell? w _ h.c1
theorem Px.St.up {w w' : World} {r : Nat} {t : List Int} {big : Bool} (h : Px.St w r t big) (hb : Below w.heap.size w w') : Px.St w' r t big := by
  have hl := h.lt
  obtain ⟨s, h0, hs⟩ := h.c0
  exact ⟨⟨s, Bs.cell_up hb h0, hs⟩, Bs.cell_up hb h.c1, by rw [hb.frozen hl]; exact h.z0, by rw [hb.frozen hl]; exact h.z1, fun j v hv => h.only j v (by rw [← hb.cell (p := ⟨r, j, none⟩) hl]; exact hv)⟩
theorem Px.only_set {w : World} {r i : Nat} {u : Value} (h : ∀ j v, w.cell? ⟨r, j, none⟩ = some v → j < 2) (hi : i < 2) : ∀ j v, (w.setCell ⟨r, i, none⟩ u).cell? ⟨r, j, none⟩ = some v → j < 2 := fun j v hv => by
  by_cases e : i = j
  · omega
  · rw [World.cell?_setCell_other _ _ _ _ (by simp [e])] at hv
    exact h j v hv
theorem Px.St.text {w : World} {r : Nat} {t : List Int} {big : Bool} (h : Px.St w r t big) {s : ByteArray} {u : List Int} (hs : Px.Str s u) : Px.St (w.setCell ⟨r, 0, none⟩ (.string s)) r u big := by
  obtain ⟨⟨s0, c0, _⟩, c1, z0, z1, only⟩ := h
  refine ⟨⟨s, ?_, hs⟩, ?_, ?_, ?_, Px.only_set only (by omega)⟩ <;> simp [go_sem, c0, c1, z0, z1]
theorem Px.St.big {w : World} {r : Nat} {t : List Int} {big : Bool} (h : Px.St w r t big) (b : Bool) : Px.St (w.setCell ⟨r, 1, none⟩ (.bool b)) r t b := by
  obtain ⟨⟨s0, c0, hs⟩, c1, z0, z1, only⟩ := h
  refine ⟨⟨s0, ?_, hs⟩, ?_, ?_, ?_, Px.only_set only (by omega)⟩ <;> simp [go_sem, c0, c1, z0, z1]
theorem need_yes (why : Int) (w : World) : Calls Try.prog 42 #[.bool true, .int .i64 why] w fun e w' => e = .returned (.tuple #[]) ∧ w' = w := by
  go_enter Try.func42, Try.ntmps42
  go_wp2_with fail
  go_end0
  exact ⟨rfl, rfl⟩
theorem need_no (why : Int) (w : World) : Calls Try.prog 42 #[.bool false, .int .i64 why] w fun e w' => e = Px.up why ∧ w' = w := by
  go_enter Try.func42, Try.ntmps42
  go_wp2_with fail
  exact ⟨rfl, rfl, rfl⟩
theorem Px.empty {s : ByteArray} (h : s.size = 0) : s.toList.isEmpty = true := by
  rw [ByteArray.toList_eq, List.isEmpty_iff_length_eq_zero, Rn.len_data0]; exact h
theorem Px.not_empty {s : ByteArray} (h : 1 ≤ s.size) : s.toList.isEmpty = false := by
  rw [ByteArray.toList_eq, ← Bool.not_eq_true, List.isEmpty_iff_length_eq_zero, Rn.len_data0]; omega
def Px.passed (c : Int) (t : List Int) : List Int := if t.head? = some c then t.drop 1 else t
def Px.PassPost (w : World) (r : Nat) (t : List Int) (big : Bool) (c : Int) (e : Ending) (w' : World) : Prop := e = .returned (.bool (decide (t.head? = some c))) ∧ Px.St w' r (Px.passed c t) big ∧ w.grownBy w' (some r)
set_option maxRecDepth 100000 in
set_option maxHeartbeats 400000 in
theorem pass_any (r : Nat) (t : List Int) (big : Bool) (c : Nat) (hc : c < 128) (w : World) (h : Px.St w r t big) : Calls Try.prog 63 #[.pointer (some ⟨r, 0, none⟩), .int .u8 c] w (Px.PassPost w r t big c) := by
  have HS := Lib.hid h
  obtain ⟨⟨s, c0, hs⟩, c1, z0, z1, _⟩ := h
  have G := Lib.hid (Rx.grown_of r (Below.refl w.heap.size w))
  cases t with
  | nil =>
    have e0 := Px.empty hs.nil
    clear hs
    go_enter Try.func63, Try.ntmps63
    go_wp2_with fail
    go_ret
    exact ⟨by simp, by simpa [Px.passed] using HS.out, G.out⟩
  | cons n t =>
    have h1 := hs.len
    have e0 := Px.not_empty h1
    have hl := hs.max
    unfold maxLen at hl
    have HI := Lib.hid (hs.is h1 c hc)
    have HT := Lib.hid hs
    clear hs
    by_cases hn : n = c
    · have e1 : ((s[0].toNat : Int) != (c : Int)) = false := by have := HI.out.2 hn; simp; omega
      have HE := Lib.hid hn
      clear hn
      have hlo : Px.Str (s.extract 1 s.size) t := HT.out.low (by have := HE.out; omega)
      have HL := Lib.hid hlo
      clear hlo
      go_enter Try.func63, Try.ntmps63
      go_wp2_with fail
      go_ret
      exact ⟨by rw [HE.out]; simp, by rw [Px.passed, if_pos (by rw [HE.out]; rfl)]; exact HS.out.text HL.out, Rx.grown_set G.out _ _⟩
    · have e1 : ((s[0].toNat : Int) != (c : Int)) = true := by
        have := mt HI.out.1 hn
        simp; omega
      have HE := Lib.hid hn
      clear hn
      go_enter Try.func63, Try.ntmps63
      go_wp2_with fail
      go_ret
      exact ⟨by simp [HE.out], by rw [Px.passed, if_neg (by simp [HE.out])]; exact HS.out, G.out⟩
end Go.Proofs.Ythapedadnbkgnaa
namespace Go.Proofs.Ythapedadnbkgnaa
set_option linter.unusedVariables false
set_option linter.unusedSimpArgs false
open Go.RowKit
def Bs.Byt (w : World) (a : Option Addr) (zs : List Nat) : Prop := ∀ i (h : i < zs.length), ∃ x, a = some x ∧ w.cell? (x.add i) = some (.int .u8 (zs[i] : Nat))
theorem Bs.Byt.up {w w' : World} {a : Option Addr} {zs : List Nat} (h : Bs.Byt w a zs) (hb : Below w.heap.size w w') : Bs.Byt w' a zs := fun i hi => by
  obtain ⟨x, e, h⟩ := h i hi
  exact ⟨x, e, Bs.cell_up hb h⟩
def Bs.ofL (zs : List Nat) : Nat → Bool := fun c => zs.any fun z => c == z
theorem Bs.ofL_snoc (zs : List Nat) (k : Nat) (hk : k < zs.length) : Bs.ofL (zs.take (k + 1)) = fun c => Bs.ofL (zs.take k) c || c == zs[k] := by
  funext c
  unfold Bs.ofL
  rw [List.take_succ_eq_append_getElem hk, List.any_append]
  simp
theorem Bs.pow_wrap (k : Nat) (hk : k < 64) : IntKind.u64.wrap ((2 : Int) ^ k) = ((2 ^ k : Nat) : Int) := by
  have h := Bs.wrap_nat (Bs.pow_lt hk)
  rw [← h]; simp
theorem Bs.put_i (f : Nat → Bool) (c : Nat) : bits .or .u64 (Bs.word f (c / 64)) (IntKind.u64.wrap (2 ^ (c % 64))) = (Bs.word (fun d => f d || d == c) (c / 64) : Int) := by
  have hk : c % 64 < 64 := by omega
  rw [Bs.pow_wrap _ hk, u64_or_nat _ _ (Bs.word_lt f _) (Bs.pow_lt hk), Bs.word_put f _ _ hk]
  have e : 64 * (c / 64) + c % 64 = c := by omega
  rw [e]
theorem Bs.put_far (f : Nat → Bool) (c j : Nat) (hj : j ≠ c / 64) : Bs.word (fun d => f d || d == c) j = Bs.word f j := by
  have h := Bs.word_far f (c / 64) j (c % 64) (by omega) (Ne.symm hj)
  have e : 64 * (c / 64) + c % 64 = c := by omega
  rw [e] at h
  exact h
set_option maxRecDepth 100000 in
set_option maxHeartbeats 1000000 in
theorem ofB_any (a : Option Addr) (zs : List Nat) (cap : Nat) (w : World) (hR : Bs.Byt w a zs) (hz : ∀ z ∈ zs, z < 256) (hn : zs.length ≤ 1000000) :
    Calls Try.prog 109 #[.slice a zs.length cap] w fun e w' => e = .returned (Bs.val (Bs.ofL zs)) ∧ Below w.heap.size w w' := by
  have HR := Lib.hid hR; clear hR
  have HZ := Lib.hid hz; clear hz
  go_enter Try.func109, Try.ntmps109
  go_wp2_with fail
  have B0 := (Bs.box_zero w 25).up (Bs.below1 _ (.cells #[.int .u64 0, .int .u64 0, .int .u64 0, .int .u64 0] 25))
  have B1 := Bs.box_zero (w.alloc (.cells #[.int .u64 0, .int .u64 0, .int .u64 0, .int .u64 0] 25)) 25
  have eN : (w.alloc (.cells #[.int .u64 0, .int .u64 0, .int .u64 0, .int .u64 0] 25)).heap.size = w.heap.size + 1 := by simp [go_sem]
  rw [eN] at B1
  have B : Below w.heap.size w ((w.alloc (.cells #[.int .u64 0, .int .u64 0, .int .u64 0, .int .u64 0] 25)).alloc (.cells #[.int .u64 0, .int .u64 0, .int .u64 0, .int .u64 0] 25)) := Bs.below2 _ _ _
  clear eN
  generalize (w.alloc (.cells #[.int .u64 0, .int .u64 0, .int .u64 0, .int .u64 0] 25)).alloc (.cells #[.int .u64 0, .int .u64 0, .int .u64 0, .int .u64 0] 25) = W at *
  go_loopw [8] (fun i wr => ∃ k : Nat, k ≤ zs.length ∧ i = .int .i64 k ∧ Bs.Box wr (w.heap.size + 1) (Bs.ofL (zs.take k)) ∧ Bs.Box wr w.heap.size (fun _ => false) ∧ Below w.heap.size w wr) (fun i _ => zs.length - (intOf i).toNat)
  case atStart => exact ⟨0, Nat.zero_le _, rfl, B1, B0, B⟩
  case round =>
    clear B0 B1 B
    obtain ⟨k, hk, rfl, B1, B0, B⟩ := hrel
    have n1 : w.heap.size ≠ w.heap.size + 1 := by omega
    have m1 : w.heap.size ≤ w.heap.size + 1 := by omega
    by_cases hlt : k < zs.length
    · obtain ⟨x, rfl, hx⟩ := HR.out k hlt
      replace hx := Bs.cell_up B hx
      have hc := HZ.out zs[k] (List.getElem_mem hlt)
      have hsn := Bs.ofL_snoc zs k hlt
      have HSN := Lib.hid hsn; clear hsn
      generalize zs[k] = c at *
      have hi : c / 64 < 4 := by omega
      have b0 := B1.cell (c / 64) hi
      have g0 := B1.frz (c / 64) hi
      have p0 := Bs.put_i (Bs.ofL (zs.take k)) c
      have P0 := Lib.hid p0; clear p0
      go_wp2_with fail
      go_roundw
      case rel =>
        refine ⟨k + 1, by omega, by go_num, ?_, B0.far (Ne.symm n1) _, B.setCell m1 _⟩
        rw [HSN.out, P0.out]
        exact B1.put hi fun j _ hj => Bs.put_far _ c j hj
      case measure => simp [intOf]; omega
    · have e1 : zs.take k = zs := List.take_of_length_le (by omega)
      rw [e1] at B1
      clear e1
      have b0 := B1.cell 0 (by decide); have b1 := B1.cell 1 (by decide); have b2 := B1.cell 2 (by decide); have b3 := B1.cell 3 (by decide)
      have z0 := B0.cell 0 (by decide); have z1 := B0.cell 1 (by decide); have z2 := B0.cell 2 (by decide); have z3 := B0.cell 3 (by decide)
      have g0 := B0.frz 0 (by decide); have g1 := B0.frz 1 (by decide); have g2 := B0.frz 2 (by decide); have g3 := B0.frz 3 (by decide)
      go_wp2_with fail
      exact bodyPost_ret (v := .agg #[.int .u64 ↑(Bs.word (Bs.ofL zs) 0), .int .u64 ↑(Bs.word (Bs.ofL zs) 1), .int .u64 ↑(Bs.word (Bs.ofL zs) 2), .int .u64 ↑(Bs.word (Bs.ofL zs) 3)]) (by simp [results, Try.results109, go_sem, z0, z1, z2, z3]) rfl ⟨rfl, Bs.set4 B (Nat.le_refl _) _ _ _ _⟩
theorem Bs.put_k (f : Nat → Bool) (i k : Nat) (hk : k < 64) : bits .or .u64 (Bs.word f i) (IntKind.u64.wrap (2 ^ k)) = (Bs.word (fun d => f d || d == 64 * i + k) i : Int) := by
  rw [Bs.pow_wrap _ hk, u64_or_nat _ _ (Bs.word_lt f _) (Bs.pow_lt hk), Bs.word_put f _ _ hk]
def Bs.upto (g : Nat → Bool) (n : Nat) : Nat → Bool := fun c => decide (c < n) && g c
theorem Bs.upto_yes {g : Nat → Bool} {n : Nat} (h : g n = true) : Bs.upto g (n + 1) = fun c => Bs.upto g n c || c == n := by
  funext c
  unfold Bs.upto
  by_cases hc : c = n
  · subst hc; simp [h]
  · have : (c < n + 1) = (c < n) := propext (by omega)
    simp [this, hc]
theorem Bs.upto_no {g : Nat → Bool} {n : Nat} (h : g n = false) : Bs.upto g (n + 1) = Bs.upto g n := by
  funext c
  unfold Bs.upto
  by_cases hc : c = n
  · subst hc; simp [h]
  · have : (c < n + 1) = (c < n) := propext (by omega)
    simp [this]
theorem Bs.upto_zero (g : Nat → Bool) : Bs.upto g 0 = fun _ => false := by funext c; simp [Bs.upto]
theorem Bs.upto_all (g : Nat → Bool) (i : Nat) (hi : i < 4) : Bs.word (Bs.upto g 256) i = Bs.word g i := Bs.word_congr fun k hk => by
  have : 64 * i + k < 256 := by omega
  simp [Bs.upto, this]
def Bs.BPost (w : World) (b : Bool) (e : Ending) (w' : World) : Prop := e = .returned (.bool b) ∧ Below w.heap.size w w'
set_option maxRecDepth 100000 in
set_option maxHeartbeats 2000000 in
theorem which_any (K : FuncId) (cap : Array Value) (g : Nat → Bool) (w : World) (hent : ∀ args w, (callFunc K args).run Try.prog w = .ok (.enter K args) w)
    (hQ : ∀ (c : Nat) (v : World), c < 256 → Below w.heap.size w v → Calls Try.prog K (#[.int .u8 c] ++ cap) v (Bs.BPost v (g c))) :
    Calls Try.prog 114 #[.func (.func K) #[] cap] w fun e w' => e = .returned (Bs.val g) ∧ Below w.heap.size w w' := by
  have HQ := Lib.hid hQ; clear hQ
  go_enter Try.func114, Try.ntmps114
  go_wp2_with fail
  have B0 := (Bs.box_zero w 25).up (Bs.below1 _ (.cells #[.int .u64 0, .int .u64 0, .int .u64 0, .int .u64 0] 25))
  have B1 := Bs.box_zero (w.alloc (.cells #[.int .u64 0, .int .u64 0, .int .u64 0, .int .u64 0] 25)) 25
  have eN : (w.alloc (.cells #[.int .u64 0, .int .u64 0, .int .u64 0, .int .u64 0] 25)).heap.size = w.heap.size + 1 := by simp [go_sem]
  rw [eN] at B1
  have B : Below w.heap.size w ((w.alloc (.cells #[.int .u64 0, .int .u64 0, .int .u64 0, .int .u64 0] 25)).alloc (.cells #[.int .u64 0, .int .u64 0, .int .u64 0, .int .u64 0] 25)) := Bs.below2 _ _ _
  clear eN
  generalize (w.alloc (.cells #[.int .u64 0, .int .u64 0, .int .u64 0, .int .u64 0] 25)).alloc (.cells #[.int .u64 0, .int .u64 0, .int .u64 0, .int .u64 0] 25) = W at *
  rw [← Bs.upto_zero g] at B1
  go_loopw [6] (fun s wr => ∃ i : Nat, i ≤ 4 ∧ s = .int .i64 i ∧ Bs.Box wr (w.heap.size + 1) (Bs.upto g (64 * i)) ∧ Bs.Box wr w.heap.size (fun _ => false) ∧ Below w.heap.size w wr) (fun s _ => 4 - (intOf s).toNat)
  case atStart => exact ⟨0, by omega, rfl, B1, B0, B⟩
  case round =>
    clear B0 B1 B
    obtain ⟨i, hi, rfl, B1, B0, B⟩ := hrel
    have n1 : w.heap.size ≠ w.heap.size + 1 := by omega
    have m1 : w.heap.size ≤ w.heap.size + 1 := by omega
    by_cases hlt : i < 4
    · have hd : decide ((i : Int) < 4) = true := decide_eq_true (by omega)
      go_wp2_with fail
      go_loopw [9] (fun s wr => ∃ k : Nat, k ≤ 64 ∧ s = .int .i64 k ∧ Bs.Box wr (w.heap.size + 1) (Bs.upto g (64 * i + k)) ∧ Bs.Box wr w.heap.size (fun _ => false) ∧ Below w.heap.size w wr) (fun s _ => 64 - (intOf s).toNat)
      case atStart => exact ⟨0, by omega, rfl, B1, B0, B⟩
      case round =>
        clear B0 B1 B
        obtain ⟨k, hk, rfl, B1, B0, B⟩ := hrel
        by_cases hlk : k < 64
        · have hc : 64 * i + k < 256 := by omega
          go_wp2_with fail
          refine (HQ.out (64 * i + k) _ hc B).mono ?_
          rintro e v ⟨rfl, hbv⟩
          replace B1 := B1.up hbv
          replace B0 := B0.up hbv
          replace B := Bs.below_up B hbv
          have b0 := B1.cell i hlt
          have g0 := B1.frz i hlt
          rcases Bool.eq_false_or_eq_true (g (64 * i + k)) with hg | hg
          · have hup := Bs.upto_yes hg
            have HUP := Lib.hid hup; clear hup
            have P0 := Lib.hid (Bs.put_k (Bs.upto g (64 * i + k)) i k hlk)
            go_wp2_with fail
            have k1 : (0 : Int) ≤ (i : Int) := by omega
            have k2 : (i : Int) < 4 := by omega
            have k3 : (0 : Int) ≤ (k : Int) := by omega
            have k4 : (k : Int) < 64 := by omega
            go_still_tail 7, (by kernel_rfl)
            change wpList _ _ _ _ _ v.drew
            replace B1 := B1.drew
            replace B0 := B0.drew
            replace B := B.drew
            clear b0 g0
            generalize v.drew = v2 at *
            have b0 := B1.cell i hlt
            have g0 := B1.frz i hlt
            go_wp2_with fail
            go_roundw
            case rel =>
              refine ⟨k + 1, by omega, by go_num, ?_, B0.far (Ne.symm n1) _, B.setCell m1 _⟩
              rw [← Nat.add_assoc, HUP.out, P0.out]
              exact B1.put hlt fun j _ hj => Bs.word_far _ _ _ _ hlk (Ne.symm hj)
            case measure => simp [intOf]; omega
          · have hup := Bs.upto_no hg
            have HUP := Lib.hid hup; clear hup
            go_wp2_with fail
            go_roundw
            case rel =>
              refine ⟨k + 1, by omega, by go_num, ?_, B0, B⟩
              rw [← Nat.add_assoc, HUP.out]
              exact B1
            case measure => simp [intOf]; omega
        · go_wp2_with fail
          go_roundw
          case rel =>
            refine ⟨i + 1, by omega, by go_num, ?_, B0, B⟩
            have e1 : k = 64 := by omega
            have e2 : 64 * (i + 1) = 64 * i + k := by omega
            rw [e2]; exact B1
          case measure => simp [intOf]; omega
    · have e1 : 64 * i = 256 := by omega
      rw [e1] at B1
      clear e1
      have b0 := B1.cell 0 (by decide); have b1 := B1.cell 1 (by decide); have b2 := B1.cell 2 (by decide); have b3 := B1.cell 3 (by decide)
      rw [Bs.upto_all g _ (by decide)] at b0 b1 b2 b3
      have z0 := B0.cell 0 (by decide); have z1 := B0.cell 1 (by decide); have z2 := B0.cell 2 (by decide); have z3 := B0.cell 3 (by decide)
      have g0 := B0.frz 0 (by decide); have g1 := B0.frz 1 (by decide); have g2 := B0.frz 2 (by decide); have g3 := B0.frz 3 (by decide)
      go_wp2_with fail
      exact bodyPost_ret (v := .agg #[.int .u64 ↑(Bs.word g 0), .int .u64 ↑(Bs.word g 1), .int .u64 ↑(Bs.word g 2), .int .u64 ↑(Bs.word g 3)]) (by simp [results, Try.results114, go_sem, z0, z1, z2, z3]) rfl ⟨rfl, Bs.set4 B (Nat.le_refl _) _ _ _ _⟩
end Go.Proofs.Ythapedadnbkgnaa
namespace Go.Proofs.Ythapedadnbkgnaa
set_option linter.unusedVariables false
set_option linter.unusedSimpArgs false
def Bs.alike (fs : List (Nat → Bool)) (c d : Nat) : Bool := fs.all fun f => f c == f d
theorem Bs.alike_iff {fs : List (Nat → Bool)} {c d : Nat} : Bs.alike fs c d = true ↔ ∀ f ∈ fs, f c = f d := by simp [Bs.alike]
theorem Bs.alike_refl (fs : List (Nat → Bool)) (c : Nat) : Bs.alike fs c c = true := Bs.alike_iff.2 fun _ _ => rfl
theorem Bs.alike_symm {fs : List (Nat → Bool)} {c d : Nat} (h : Bs.alike fs c d = true) : Bs.alike fs d c = true := Bs.alike_iff.2 fun f hf => (Bs.alike_iff.1 h f hf).symm
theorem Bs.alike_trans {fs : List (Nat → Bool)} {c d e : Nat} (h : Bs.alike fs c d = true) (h' : Bs.alike fs d e = true) : Bs.alike fs c e = true := Bs.alike_iff.2 fun f hf => (Bs.alike_iff.1 h f hf).trans (Bs.alike_iff.1 h' f hf)
def Bs.first (fs : List (Nat → Bool)) (c : Nat) : Bool := (List.range c).all fun d => !Bs.alike fs c d
theorem Bs.first_iff {fs : List (Nat → Bool)} {c : Nat} : Bs.first fs c = true ↔ ∀ d, d < c → Bs.alike fs c d = false := by simp [Bs.first]
def Bs.ncl (fs : List (Nat → Bool)) (n : Nat) : Nat := Bs.cnt (Bs.first fs) n
def Bs.low (fs : List (Nat → Bool)) (c : Nat) : Nat := ((List.range c).find? fun d => Bs.alike fs c d).getD c
theorem Bs.find_range (p : Nat → Bool) : ∀ n, (∃ k, (List.range n).find? p = some k ∧ k < n ∧ p k = true ∧ ∀ j, j < k → p j = false) ∨ ((List.range n).find? p = none ∧ ∀ j, j < n → p j = false)
  | 0 => .inr ⟨rfl, fun j hj => by omega⟩
  | n + 1 => by
    rw [List.range_succ, List.find?_append]
    rcases Bs.find_range p n with ⟨k, e, h1, h2, h3⟩ | ⟨e, h⟩
    · exact .inl ⟨k, by simp [e], by omega, h2, h3⟩
    · rw [e]
      cases hp : p n
      · refine .inr ⟨by simp [hp], fun j hj => ?_⟩
        by_cases hj' : j = n
        · rw [hj']; exact hp
        · exact h j (by omega)
      · exact .inl ⟨n, by simp [hp], by omega, hp, h⟩
theorem Bs.low_spec (fs : List (Nat → Bool)) (c : Nat) : Bs.low fs c ≤ c ∧ Bs.alike fs c (Bs.low fs c) = true ∧ ∀ d, d < Bs.low fs c → Bs.alike fs c d = false := by
  unfold Bs.low
  rcases Bs.find_range (fun d => Bs.alike fs c d) c with ⟨k, e, h1, h2, h3⟩ | ⟨e, h⟩
  · rw [e]; exact ⟨by simp; omega, h2, h3⟩
  · rw [e]; exact ⟨Nat.le_refl _, Bs.alike_refl _ _, h⟩
theorem Bs.low_first (fs : List (Nat → Bool)) (c : Nat) : Bs.first fs (Bs.low fs c) = true := by
  obtain ⟨_, h1, h2⟩ := Bs.low_spec fs c
  refine Bs.first_iff.2 fun d hd => ?_
  cases ha : Bs.alike fs (Bs.low fs c) d
  · rfl
  · rw [← h2 d hd]; exact (Bs.alike_trans h1 ha).symm ▸ rfl
theorem Bs.low_eq {fs : List (Nat → Bool)} {c d : Nat} (h : Bs.alike fs c d = true) : Bs.low fs c = Bs.low fs d := by
  obtain ⟨_, a1, a2⟩ := Bs.low_spec fs c
  obtain ⟨_, b1, b2⟩ := Bs.low_spec fs d
  rcases Nat.lt_trichotomy (Bs.low fs c) (Bs.low fs d) with hl | hl | hl
  · have := b2 _ hl; rw [Bs.alike_trans (Bs.alike_symm h) a1] at this; cases this
  · exact hl
  · have := a2 _ hl; rw [Bs.alike_trans h b1] at this; cases this
theorem Bs.ncl_mono (fs : List (Nat → Bool)) {a b : Nat} (h : a ≤ b) : Bs.ncl fs a ≤ Bs.ncl fs b := by
  obtain ⟨n, rfl⟩ := Nat.exists_eq_add_of_le h
  unfold Bs.ncl
  rw [Bs.cnt_add]; omega
theorem Bs.ncl_step {fs : List (Nat → Bool)} {a b : Nat} (h : a < b) (ha : Bs.first fs a = true) : Bs.ncl fs a < Bs.ncl fs b := by
  have h1 := Bs.ncl_mono fs (show a + 1 ≤ b from h)
  have h2 : Bs.ncl fs (a + 1) = Bs.ncl fs a + 1 := by unfold Bs.ncl; rw [Bs.cnt_succ, if_pos ha]
  omega
theorem Bs.ncl_le (fs : List (Nat → Bool)) (n : Nat) : Bs.ncl fs n ≤ n := Bs.cnt_le _ _
def Bs.kls (fs : List (Nat → Bool)) (c : Nat) : Nat := Bs.ncl fs (Bs.low fs c)
theorem Bs.kls_lt (fs : List (Nat → Bool)) {c n : Nat} (h : c < n) : Bs.kls fs c < Bs.ncl fs n :=
  Bs.ncl_step (Nat.lt_of_le_of_lt (Bs.low_spec fs c).1 h) (Bs.low_first fs c)
theorem Bs.kls_le (fs : List (Nat → Bool)) (c : Nat) : Bs.kls fs c ≤ c := Nat.le_trans (Bs.ncl_le _ _) (Bs.low_spec fs c).1
theorem Bs.kls_iff (fs : List (Nat → Bool)) (c d : Nat) : Bs.kls fs c = Bs.kls fs d ↔ Bs.alike fs c d = true := by
  constructor
  · intro h
    have hl : Bs.low fs c = Bs.low fs d := by
      rcases Nat.lt_trichotomy (Bs.low fs c) (Bs.low fs d) with hl | hl | hl
      · have := Bs.ncl_step hl (Bs.low_first fs c); unfold Bs.kls at h; omega
      · exact hl
      · have := Bs.ncl_step hl (Bs.low_first fs d); unfold Bs.kls at h; omega
    have h1 := (Bs.low_spec fs c).2.1
    have h2 := (Bs.low_spec fs d).2.1
    rw [hl] at h1
    exact Bs.alike_trans h1 (Bs.alike_symm h2)
  · intro h; unfold Bs.kls; rw [Bs.low_eq h]
theorem Bs.kls_new {fs : List (Nat → Bool)} {c : Nat} (h : ∀ d, d < c → Bs.alike fs c d = false) : Bs.kls fs c = Bs.ncl fs c ∧ Bs.ncl fs (c + 1) = Bs.ncl fs c + 1 := by
  obtain ⟨h1, h2, _⟩ := Bs.low_spec fs c
  have e : Bs.low fs c = c := by
    rcases Nat.lt_or_ge (Bs.low fs c) c with hl | hl
    · rw [h _ hl] at h2; cases h2
    · omega
  refine ⟨by unfold Bs.kls; rw [e], ?_⟩
  unfold Bs.ncl; rw [Bs.cnt_succ, if_pos (Bs.first_iff.2 h)]
theorem Bs.kls_old {fs : List (Nat → Bool)} {c d : Nat} (hd : d < c) (h : Bs.alike fs c d = true) : Bs.kls fs c = Bs.kls fs d ∧ Bs.ncl fs (c + 1) = Bs.ncl fs c := by
  refine ⟨(Bs.kls_iff fs c d).2 h, ?_⟩
  unfold Bs.ncl
  rw [Bs.cnt_succ, if_neg ?_]; · rfl
  intro hf
  have := Bs.first_iff.1 hf d hd
  rw [h] at this; cases this
def Bs.cls (fs : List (Nat → Bool)) (k : Int) : Nat → Bool := fun c => (Bs.kls fs c : Int) == k
end Go.Proofs.Ythapedadnbkgnaa
namespace Go.Proofs.Ythapedadnbkgnaa
set_option linter.unusedVariables false
set_option linter.unusedSimpArgs false
open Go.RowKit
def Bs.rng (lo hi : Nat) : Nat → Bool := fun c => decide (lo ≤ c) && decide (c ≤ hi)
set_option maxHeartbeats 400000 in
theorem clRange_any (lo hi c a b : Nat) (w : World) (ha : w.cell? ⟨a, 0, none⟩ = some (.int .u8 lo)) (hb : w.cell? ⟨b, 0, none⟩ = some (.int .u8 hi)) :
    Calls Try.prog 115 #[.int .u8 c, .pointer (some ⟨a, 0, none⟩), .pointer (some ⟨b, 0, none⟩)] w (Bs.BPost w (Bs.rng lo hi c)) := by
  unfold Bs.rng
  by_cases h1 : lo ≤ c
  · have d1 : decide ((lo : Int) ≤ (c : Int)) = true := decide_eq_true (by omega)
    have d2 : decide (lo ≤ c) = true := decide_eq_true (by omega)
    go_enter Try.func115, Try.ntmps115
    go_wp2
    go_ret
    exact ⟨Bs.ret_bool (by simp [h1]), Below.refl _ _⟩
  · have d1 : decide ((lo : Int) ≤ (c : Int)) = false := decide_eq_false (by omega)
    have d2 : decide (lo ≤ c) = false := decide_eq_false (by omega)
    go_enter Try.func115, Try.ntmps115
    go_wp2
    go_ret
    exact ⟨Bs.ret_bool (by simp; omega), Below.refl _ _⟩
set_option maxRecDepth 100000 in
set_option maxHeartbeats 1000000 in
theorem rangeB_any (lo hi : Nat) (w : World) : Calls Try.prog 108 #[.int .u8 lo, .int .u8 hi] w fun e w' => e = .returned (Bs.val (Bs.rng lo hi)) ∧ Below w.heap.size w w' := by
  go_enter Try.func108, Try.ntmps108
  go_wp2_with fail
  refine (which_any 115 #[.pointer (some ⟨w.heap.size, 0, none⟩), .pointer (some ⟨w.heap.size + 1, 0, none⟩)] (Bs.rng lo hi) _ (fun _ _ => by kernel_rfl) ?_).mono ?_
  · intro c v hc hv
    refine clRange_any lo hi c _ _ v ?_ ?_
    · refine Bs.cell_up hv ?_; simp [go_sem]
    · refine Bs.cell_up hv ?_; simp [go_sem]
  · rintro e w1 ⟨rfl, hb⟩
    unfold Bs.val
    have hn := Bs.new4 hb
    have eN : ((w.alloc (.cells #[.int .u8 lo] 5)).alloc (.cells #[.int .u8 hi] 5)).heap.size = w.heap.size + 1 + 1 := by simp [go_sem]
    rw [eN] at hn
    obtain ⟨n0, n1, n2, n3, m0, m1, m2, m3⟩ := hn
    have B : Below w.heap.size w w1 := (Bs.below3 w _ _ _).trans (hb.mono (by simp; omega))
    clear eN hb
    go_wp2
    exact bodyPost_ret (v := .agg #[.int .u64 ↑(Bs.word (Bs.rng lo hi) 0), .int .u64 ↑(Bs.word (Bs.rng lo hi) 1), .int .u64 ↑(Bs.word (Bs.rng lo hi) 2), .int .u64 ↑(Bs.word (Bs.rng lo hi) 3)]) (by simp [results, Try.results108, go_sem, n0, n1, n2, n3]) rfl ⟨rfl, Bs.set4 B (by omega) _ _ _ _⟩
theorem Bs.like_snoc (fs : List (Nat → Bool)) (c k : Nat) (hk : k < fs.length) : (fun d => Bs.alike (fs.take (k + 1)) c d) = fun d => Bs.alike (fs.take k) c d && (fs[k] c == fs[k] d) := by
  funext d
  unfold Bs.alike
  rw [List.take_succ_eq_append_getElem hk, List.all_append]
  simp
set_option maxRecDepth 100000 in
set_option maxHeartbeats 1000000 in
theorem like_any (a : Option Addr) (fs : List (Nat → Bool)) (cap c : Nat) (w : World) (hc : c < 256) (hR : Bs.Row w a fs) (hn : fs.length ≤ 1000000) :
    Calls Try.prog 67 #[.slice a fs.length cap, .int .u8 c] w fun e w' => e = .returned (Bs.val fun d => Bs.alike fs c d) ∧ Below w.heap.size w w' := by
  have HR := Lib.hid hR; clear hR
  go_enter Try.func67, Try.ntmps67
  go_wp2_with fail
  refine (allB_any _).mono ?_
  rintro e v ⟨rfl, hb⟩
  unfold Bs.val
  have Z := (Bs.box_zero w 25).up hb
  have B : Below w.heap.size w v := Bs.below_up (Bs.below1 _ _) hb
  clear hb
  have B1 := Bs.box_new v (fun _ => true) 25
  have B0 := Z.up (Bs.below1 v (.cells #[.int .u64 (Bs.word (fun _ => true) 0), .int .u64 (Bs.word (fun _ => true) 1), .int .u64 (Bs.word (fun _ => true) 2), .int .u64 (Bs.word (fun _ => true) 3)] 25))
  replace B := Bs.below_up B (Bs.below1 v (.cells #[.int .u64 (Bs.word (fun _ => true) 0), .int .u64 (Bs.word (fun _ => true) 1), .int .u64 (Bs.word (fun _ => true) 2), .int .u64 (Bs.word (fun _ => true) 3)] 25))
  have nb : w.heap.size ≠ v.heap.size := Nat.ne_of_lt Z.lt
  have lb : w.heap.size ≤ v.heap.size := Nat.le_of_lt Z.lt
  clear Z
  go_wp2_with fail
  generalize v.alloc (.cells #[.int .u64 (Bs.word (fun _ => true) 0), .int .u64 (Bs.word (fun _ => true) 1), .int .u64 (Bs.word (fun _ => true) 2), .int .u64 (Bs.word (fun _ => true) 3)] 25) = W at *
  generalize v.heap.size = N at *
  have e0 : (fun _ => true) = fun d => Bs.alike (fs.take 0) c d := by funext d; simp [Bs.alike]
  rw [e0] at B1; clear e0
  go_loopw [11] (fun i wr => ∃ k : Nat, k ≤ fs.length ∧ i = .int .i64 k ∧ Bs.Box wr N (fun d => Bs.alike (fs.take k) c d) ∧ Bs.Box wr w.heap.size (fun _ => false) ∧ Below w.heap.size w wr) (fun i _ => fs.length - (intOf i).toNat)
  case atStart => exact ⟨0, Nat.zero_le _, rfl, B1, B0, B⟩
  case round =>
    clear B0 B1 B
    obtain ⟨k, hk, rfl, B1, B0, B⟩ := hrel
    by_cases hlt : k < fs.length
    · obtain ⟨x, rfl, hx⟩ := HR.out k hlt
      replace hx := hx.up B
      obtain ⟨x0, x1, x2, x3⟩ := hx
      have hsn := Bs.like_snoc fs c k hlt
      have HSN := Lib.hid hsn; clear hsn
      have A := Bs.below1 wr (.cells #[.int .u64 ↑(Bs.word fs[k] 0), .int .u64 ↑(Bs.word fs[k] 1), .int .u64 ↑(Bs.word fs[k] 2), .int .u64 ↑(Bs.word fs[k] 3)] 25)
      have Y := Bs.box_new wr fs[k] 25
      have lN := B1.lt
      replace B1 := B1.up A
      replace B0 := B0.up A
      replace B := Bs.below_up B A
      have nY : N ≠ wr.heap.size := Nat.ne_of_lt lN
      have y0 := Y.cell 0 (by decide); have y1 := Y.cell 1 (by decide); have y2 := Y.cell 2 (by decide); have y3 := Y.cell 3 (by decide)
      go_wp2_with fail
      refine (hasB_any fs[k] c hc _).mono ?_
      rintro e v1 ⟨rfl, hb1⟩
      clear y0 y1 y2 y3 x0 x1 x2 x3
      replace B1 := B1.up hb1
      replace B0 := B0.up hb1
      replace Y := Y.up hb1
      replace B := Bs.below_up B hb1
      have y0 := Y.cell 0 (by decide); have y1 := Y.cell 1 (by decide); have y2 := Y.cell 2 (by decide); have y3 := Y.cell 3 (by decide)
      have b0 := B1.cell 0 (by decide); have b1 := B1.cell 1 (by decide); have b2 := B1.cell 2 (by decide); have b3 := B1.cell 3 (by decide)
      rcases Bool.eq_false_or_eq_true (fs[k] c) with hf | hf
      · go_wp2_with fail
        refine (andB_any (fun d => Bs.alike (fs.take k) c d) fs[k] _).mono ?_
        rintro e v2 ⟨rfl, hb2⟩
        unfold Bs.val
        clear y0 y1 y2 y3 b0 b1 b2 b3
        replace B1 := B1.up hb2
        replace B0 := B0.up hb2
        replace B := Bs.below_up B hb2
        have b0 := B1.cell 0 (by decide); have b1 := B1.cell 1 (by decide); have b2 := B1.cell 2 (by decide); have b3 := B1.cell 3 (by decide)
        have g0 := B1.frz 0 (by decide); have g1 := B1.frz 1 (by decide); have g2 := B1.frz 2 (by decide); have g3 := B1.frz 3 (by decide)
        have HF := Lib.hid hf; clear hf
        go_wp2_with fail
        go_roundw
        case rel =>
          refine ⟨k + 1, by omega, by go_num, ?_, B0.far4 (Ne.symm nb) _ _ _ _, Bs.set4 B lb _ _ _ _⟩
          rw [HSN.out]
          have e2 : (fun d => Bs.alike (fs.take k) c d && (fs[k] c == fs[k] d)) = fun d => Bs.alike (fs.take k) c d && fs[k] d := by
            funext d; rw [HF.out]; simp
          rw [e2]
          exact B1.write _
        case measure => simp [intOf]; omega
      · go_wp2_with fail
        refine (lessB_any (fun d => Bs.alike (fs.take k) c d) fs[k] _).mono ?_
        rintro e v2 ⟨rfl, hb2⟩
        unfold Bs.val
        clear y0 y1 y2 y3 b0 b1 b2 b3
        replace B1 := B1.up hb2
        replace B0 := B0.up hb2
        replace B := Bs.below_up B hb2
        have b0 := B1.cell 0 (by decide); have b1 := B1.cell 1 (by decide); have b2 := B1.cell 2 (by decide); have b3 := B1.cell 3 (by decide)
        have g0 := B1.frz 0 (by decide); have g1 := B1.frz 1 (by decide); have g2 := B1.frz 2 (by decide); have g3 := B1.frz 3 (by decide)
        have HF := Lib.hid hf; clear hf
        go_wp2_with fail
        go_roundw
        case rel =>
          refine ⟨k + 1, by omega, by go_num, ?_, B0.far4 (Ne.symm nb) _ _ _ _, Bs.set4 B lb _ _ _ _⟩
          rw [HSN.out]
          have e2 : (fun d => Bs.alike (fs.take k) c d && (fs[k] c == fs[k] d)) = fun d => Bs.alike (fs.take k) c d && !fs[k] d := by
            funext d; rw [HF.out]; simp
          rw [e2]
          exact B1.write _
        case measure => simp [intOf]; omega
    · have e1 : fs.take k = fs := List.take_of_length_le (by omega)
      rw [e1] at B1
      clear e1
      have b0 := B1.cell 0 (by decide); have b1 := B1.cell 1 (by decide); have b2 := B1.cell 2 (by decide); have b3 := B1.cell 3 (by decide)
      have z0 := B0.cell 0 (by decide); have z1 := B0.cell 1 (by decide); have z2 := B0.cell 2 (by decide); have z3 := B0.cell 3 (by decide)
      have g0 := B0.frz 0 (by decide); have g1 := B0.frz 1 (by decide); have g2 := B0.frz 2 (by decide); have g3 := B0.frz 3 (by decide)
      go_wp2_with fail
      exact bodyPost_ret (v := .agg #[.int .u64 ↑(Bs.word (fun d => Bs.alike fs c d) 0), .int .u64 ↑(Bs.word (fun d => Bs.alike fs c d) 1), .int .u64 ↑(Bs.word (fun d => Bs.alike fs c d) 2), .int .u64 ↑(Bs.word (fun d => Bs.alike fs c d) 3)]) (by simp [results, Try.results67, go_sem, z0, z1, z2, z3]) rfl ⟨rfl, Bs.set4 B (Nat.le_refl _) _ _ _ _⟩
end Go.Proofs.Ythapedadnbkgnaa
