/- The document's 'Apply', walked. -/
import Derived.Test.YtigibeioapkgiaaEdD
namespace Go.Proofs.Ytigibeioapkgiaa
set_option linter.unusedVariables false
set_option linter.unusedSimpArgs false
open Go.RowKit
def Ed.YInv (w : World) (s : ByteArray) (es : List Ed.E) (g : Nat) (v0 v5 : Value) (wr : World) : Prop :=
  ∃ (S : ByteArray), g ≤ es.length ∧ v0 = .string S ∧ v5 = .int .i64 ((g : Int) - 1) ∧ S.data.toList = Ed.app s.data.toList (es.drop g) ∧ Below w.heap.size w wr
theorem Ed.grows_high {es : List Ed.E} (h : ∀ e ∈ es, e.ins.size ≤ 100000) (hd : ∀ e ∈ es, 0 ≤ e.del) : Ed.grows es ≤ es.length * 100000 := by
  induction es with
  | nil => show (0 : Int) ≤ 0; omega
  | cons e r ih =>
    have i1 := ih (fun x hx => h x (by simp [hx])) (fun x hx => hd x (by simp [hx]))
    have h1 := h e (by simp)
    have h2 := hd e (by simp)
    rw [Ed.grows_cons, List.length_cons]; omega
theorem Ed.May.dels {n : Nat} : ∀ {es : List Ed.E} {t : Int}, Ed.May n t es → ∀ e ∈ es, 0 ≤ e.del
  | e :: r, t, ⟨m1, m2, m3, m4⟩, y, hy => by
    rcases List.mem_cons.1 hy with rfl | hy
    · exact m2
    · exact Ed.May.dels m4 y hy
theorem Ed.app_cut (l : List UInt8) (S : ByteArray) (e : Ed.E) (F H : Nat) (h : S.data.toList = l) (hF : e.pos.toNat = F) (hH : (e.pos + e.del).toNat = H) : (S.extract 0 F ++ e.ins ++ S.extract H S.size).data.toList = l.take e.pos.toNat ++ e.ins.data.toList ++ l.drop (e.pos + e.del).toNat := by
  rw [Rp.append_data, Rp.append_data, Rp.ext_left, Rp.ext_right, h, hF, hH]
set_option maxRecDepth 100000 in
set_option maxHeartbeats 1000000 in
theorem refApply_any (s : ByteArray) (a : Option Addr) (es : List Ed.E) (cap : Nat) (w : World) (hs : s.size ≤ 1000000) (hR : Ed.Row w a es) (hW : Ed.Wf es) (hM : Ed.May s.size 0 es) :
    Calls Try.prog 15 #[.string s, .slice a es.length cap] w (Rp.TPost w (Rp.ofL (Ed.app s.data.toList es))) := by
  have HR := Lib.hid hR; clear hR
  have HW := Lib.hid hW; clear hW
  have HM := Lib.hid hM; clear hM
  have hl := HW.out.len
  go_enter Try.func15, Try.ntmps15
  go_wp2_with fail
  go_loopg [0, 5] es.length (fun g v0 v5 wr => Ed.YInv w s es g v0 v5 wr)
  case atStart => exact ⟨s, by omega, rfl, by go_num, by rw [List.drop_eq_nil_of_le (Nat.le_refl _)]; rfl, Below.refl _ _⟩
  case round =>
    obtain ⟨S, hg, rfl, rfl, hS, B⟩ := hrel
    cases gk with
    | zero =>
      have d1 : decide ((0 : Int) ≤ ((0 : Nat) : Int) - 1) = false := by decide
      rw [List.drop_zero] at hS
      have HS := Lib.hid hS; clear hS
      go_wp2_with fail
      go_ret
      refine ⟨?_, B⟩
      show Ending.returned (.string S) = .returned (.string (Rp.ofL (Ed.app s.data.toList es)))
      rw [← HS.out, Rp.ofL_self]
    | succ j =>
      have hj : j < es.length := by omega
      obtain ⟨x, rfl, hE⟩ := HR.out j hj
      replace hE := hE.up B
      obtain ⟨z1, z2, z3, z4, z5⟩ := HW.out.each es[j] (List.getElem_mem hj)
      obtain ⟨m1, m2, m3, m4⟩ := Ed.May.drop j hj HM.out
      have hlen := Ed.app_len s.data.toList (es := es.drop (j + 1)) (t := es[j].pos + es[j].del) (by rw [Rn.len_data0]; exact m4) (by omega) (by rw [Rn.len_data0]; exact m3)
      have hlow := Ed.grows_low m4 m3
      have hhigh := Ed.grows_high (es := es.drop (j + 1)) (fun e he => (HW.out.each e (List.mem_of_mem_drop he)).1) (m4.dels)
      rw [List.length_drop] at hhigh
      rw [← hS, Rn.len_data0, Rn.len_data0] at hlen
      have hdr := Ed.drop_at hj
      have HD := Lib.hid hdr
      have HS := Lib.hid hS
      clear hS hdr m4
      generalize es[j] = e at *
      obtain ⟨F, hF⟩ := Int.eq_ofNat_of_zero_le m1
      obtain ⟨D, hD⟩ := Int.eq_ofNat_of_zero_le m2
      obtain ⟨e0, e1, e2⟩ := hE
      rw [hF] at e0
      rw [hD] at e1
      have HA := Lib.hid (Ed.app_cut _ S e F (F + D) HS.out (by omega) (by omega))
      have d1 : decide ((0 : Int) ≤ ((j + 1 : Nat) : Int) - 1) = true := by simp
      have k0 : (((j + 1 : Nat) : Int) - 1) = (j : Int) := by omega
      have k1 : (0 : Int) ≤ (j : Int) := by omega
      have k2 : (j : Int) < (es.length : Int) := by omega
      rw [k0]
      have hHS : F + D ≤ S.size := by omega
      have hSb : S.size ≤ 200000000 := by omega
      have hw : IntKind.i64.wrap ((F : Int) + (D : Int)) = ((F + D : Nat) : Int) := by rw [IntWalk.i64_in _ (by omega)]; omega
      have i1 : (0 : Int) ≤ (F : Int) := by omega
      have i2 : (F : Int) ≤ (S.size : Int) := by omega
      have i3 : (0 : Int) ≤ ((F + D : Nat) : Int) := by omega
      have i4 : ((F + D : Nat) : Int) ≤ (S.size : Int) := by omega
      have x1 : F ≤ S.size := by omega
      have x2 : ¬ 9223372036854775807 < F + e.ins.size := by omega
      have x3 : ¬ 9223372036854775807 < F + e.ins.size + (S.size - (F + D)) := by omega
      clear hlen hlow hhigh k0 d1 hF hD m1 m2 m3 HS
      go_wp2_with fail
      go_quiet (fail)
      go_wp2_with fail
      go_roundg j
      case measure => omega
      refine ⟨_, by omega, rfl, rfl, ?_, Rp.below_drewN B _⟩
      rw [HA.out, HD.out]; rfl
end Go.Proofs.Ytigibeioapkgiaa
