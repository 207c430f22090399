/- The law RopePlays, walked. -/
import Derived.Test.YtnjcahcbeicblaaRpZ
import Derived.Deep.CutBlock
import Derived.Deep.AppendLies
namespace Go.Proofs.Ytnjcahcbeicblaa
set_option linter.unusedVariables false
set_option linter.unusedSimpArgs false
open Go.RowKit
open Rp (Tr)
/-- an op: what it is, two places, a text -/
structure Rp.POp where
  kind : Int
  a : Int
  b : Int
  s : ByteArray
/-- the slice's cells are the ops -/
def Rp.Ops (w : World) (a : Option Addr) (n : Nat) (os : Nat → Rp.POp) : Prop :=
  ∀ i, i < n → ∃ x, a = some x ∧ x.block < w.heap.size ∧ w.cell? (x.add (i * 4)) = some (.int .u8 (os i).kind) ∧ w.cell? ((x.add (i * 4)).add 1) = some (.int .i64 (os i).a) ∧ w.cell? ((x.add (i * 4)).add 2) = some (.int .i64 (os i).b) ∧ w.cell? ((x.add (i * 4)).add 3) = some (.string (os i).s) ∧ 0 ≤ (os i).kind ∧ (os i).kind < 256 ∧ (os i).s.size ≤ maxLen ∧ -9223372036854775808 ≤ (os i).a ∧ (os i).a ≤ 9223372036854775807 ∧ -9223372036854775808 ≤ (os i).b ∧ (os i).b ≤ 9223372036854775807
theorem Rp.infoRope : (Try.prog.info? 26).map (fun i => (i.zero, i.size, i.bytes)) = some (some (.agg #[.pointer none]), 1, 8) := by kernel_rfl
theorem Rp.infoStr : (Try.prog.info? 9).map (fun i => (i.zero, i.size, i.bytes)) = some (some (.string ⟨#[]⟩), 1, 16) := by kernel_rfl
/-- the round's relation -/
def Rp.PInv (w : World) (G n k : Nat) (e v7 v8 i : Value) (wr : World) : Prop :=
  ∃ (j : Nat) (en : Int) (ps : List (Option Addr)) (ts : List ByteArray), j + k = n ∧ j ≤ 30 ∧ i = .int .i64 (j : Nat) ∧ e = .int .i64 en ∧ ps.length ≤ j + 1 ∧ Rp.Keeps w G v7 v8 ps ts ps.length wr
/-- what an op leaves: the text u in x, or that there is none (3: no such place, 4: too long) -/
def Rp.Out (w : World) (G : Nat) (v7 v8 : Value) (ps : List (Option Addr)) (ts : List ByteArray) (m N : Nat) (oa ob : Int) (e want u : Value) (wx : World) : Prop :=
  Rp.Keeps w G v7 v8 ps ts m wx ∧ wx.cell? ⟨N, 1, none⟩ = some (.int .i64 oa) ∧ wx.cell? ⟨N, 2, none⟩ = some (.int .i64 ob) ∧ ∃ xp us, wx.cell? ⟨N + 1, 0, none⟩ = some (.pointer xp) ∧ u = .string us ∧
    ((e = .int .i64 0 ∧ want = .int .i64 0 ∧ us.size ≤ 4000 ∧ Rp.Rep wx xp us.data.toList) ∨ (e = .int .i64 3 ∧ want = .int .i64 3 ∧ us.size = 0 ∧ Rp.Rep wx xp []) ∨ (e = .int .i64 4 ∧ want = .int .i64 0 ∧ 4000 < us.size ∧ us.size ≤ 100000 ∧ Rp.Rep wx xp []))
/-- the second loop's relation -/
def Rp.QInv (w : World) (G : Nat) (v7 v8 : Value) (ps : List (Option Addr)) (ts : List ByteArray) (k : Nat) (i : Value) (wr : World) : Prop :=
  ∃ q : Nat, q + k = ps.length ∧ i = .int .i64 q ∧ Rp.Keeps w G v7 v8 ps ts ps.length wr
theorem Rp.pick_is (a : Int) (m : Nat) (hm : m ≤ 1000) : ∃ K : Nat, K < m + 1 ∧ wrap64 ((IntKind.u64.wrap a).tmod ((m : Int) + 1)) = K := by
  have e : IntKind.u64.wrap a = a % 18446744073709551616 := by unfold IntKind.wrap; rfl
  rw [e]
  have h0 := Int.emod_nonneg a (show (18446744073709551616 : Int) ≠ 0 by decide)
  rw [Int.tmod_eq_emod_of_nonneg h0]
  have h1 := Int.emod_nonneg (a % 18446744073709551616) (show (m : Int) + 1 ≠ 0 by omega)
  have h2 := Int.emod_lt_of_pos (a % 18446744073709551616) (show 0 < (m : Int) + 1 by omega)
  refine ⟨(a % 18446744073709551616 % ((m : Int) + 1)).toNat, by omega, ?_⟩
  unfold wrap64
  omega
/-- two ropes joined -/
theorem join_two (b : Nat) (p1 p2 : Option Addr) (l1 l2 : List UInt8) (w : World) (c1 : w.cell? ⟨b, 0, none⟩ = some (.pointer p1)) (c2 : w.cell? ⟨b, 1, none⟩ = some (.pointer p2)) (h1 : Rp.Rep w p1 l1) (h2 : Rp.Rep w p2 l2) (b1 : l1.length ≤ 1000000) (b2 : l2.length ≤ 1000000) :
    Calls Try.prog 15 #[.slice (some ⟨b, 0, none⟩) 2 2] w (Rp.JoinPost w (l1 ++ l2)) := by
  have h := joinM_any b 2 (fun i => if i = 0 then p1 else p2) [l1, l2] w (by
    intro i hi
    match i, hi with
    | 0, _ => exact ⟨c1, h1⟩
    | 1, _ => exact ⟨c2, h2⟩) (by simp) (by
    intro i
    match i with
    | 0 => simpa using b1
    | 1 => simpa using b2
    | n + 2 => simp)
  have e : [l1, l2].flatten = l1 ++ l2 := by simp
  rw [e] at h
  exact h
theorem join_yes (b : Nat) (p1 p2 : Option Addr) (l1 l2 : List UInt8) (w : World) (c1 : w.cell? ⟨b, 0, none⟩ = some (.pointer p1)) (c2 : w.cell? ⟨b, 1, none⟩ = some (.pointer p2)) (h1 : Rp.Rep w p1 l1) (h2 : Rp.Rep w p2 l2) (b1 : (l1 ++ l2).length ≤ 4000) :
    Calls Try.prog 15 #[.slice (some ⟨b, 0, none⟩) 2 2] w (Rp.RopePost w (l1 ++ l2) 0) := by
  have hb := b1
  rw [List.length_append] at hb
  have h := join_two b p1 p2 l1 l2 w c1 c2 h1 h2 (by omega) (by omega)
  refine h.mono fun e w' hj => ?_
  unfold Rp.JoinPost at hj
  rw [if_pos b1] at hj; exact hj
theorem join_far (b : Nat) (p1 p2 : Option Addr) (l1 l2 : List UInt8) (w : World) (c1 : w.cell? ⟨b, 0, none⟩ = some (.pointer p1)) (c2 : w.cell? ⟨b, 1, none⟩ = some (.pointer p2)) (h1 : Rp.Rep w p1 l1) (h2 : Rp.Rep w p2 l2) (k1 : l1.length ≤ 4000) (k2 : l2.length ≤ 4000) (b1 : 4000 < (l1 ++ l2).length) :
    Calls Try.prog 15 #[.slice (some ⟨b, 0, none⟩) 2 2] w (Rp.RopePost w [] 4) := by
  have h := join_two b p1 p2 l1 l2 w c1 c2 h1 h2 (by omega) (by omega)
  refine h.mono fun e w' hj => ?_
  unfold Rp.JoinPost at hj
  rw [if_neg (by omega)] at hj; exact hj
set_option maxRecDepth 100000 in
set_option maxHeartbeats 4000000 in
theorem playsLaw_any (s : ByteArray) (a : Option Addr) (n cap : Nat) (os : Nat → Rp.POp) (w : World) (hs : s.size ≤ maxLen) (hO : Rp.Ops w a n os) (hn : n ≤ maxLen) : Calls Try.prog 3 #[.string s, .slice a n cap] w (Rp.BPost w true) := by
  unfold maxLen at hn
  by_cases h1 : 2000 < s.size
  · have d1 : decide ((2000 : Int) < s.size) = true := by simp; omega
    go_enter Try.func3, Try.ntmps3
    go_wp2_with (go_at_call 9; refine (alive2_any _).mono ?_; rintro e w1 ⟨rfl, hb1⟩)
    go_ret
    exact ⟨rfl, hb1⟩
  have d1 : decide ((2000 : Int) < s.size) = false := by simp; omega
  have HO := Lib.hid hO; clear hO
  go_enter Try.func3, Try.ntmps3
  go_wp2_with (go_at_call 9; refine (alive2_any _).mono ?_; rintro e w1 ⟨rfl, hb1⟩)
  refine (of_yes s w1 (by omega)).mono ?_
  rintro e w2 ⟨r, rfl, hr, hb2⟩
  go_wp2_with fail
  have B2 := Rp.below_up hb1 hb2
  have B3 : Below w.heap.size w (((w2.alloc (.cells #[.pointer r] 26)).alloc (.cells #[.pointer r] 26)).alloc (.cells #[.string s] 9)) := ((B2.alloc B2.size _).alloc (B2.alloc B2.size _).size _).alloc ((B2.alloc B2.size _).alloc (B2.alloc B2.size _).size _).size _
  have hz2 := B2.size
  have KK : Rp.Keeps w w2.heap.size (.slice (some ⟨w2.heap.size + 1, 0, none⟩) 1 1) (.slice (some ⟨w2.heap.size + 1 + 1, 0, none⟩) 1 1) [r] [s] 1 (((w2.alloc (.cells #[.pointer r] 26)).alloc (.cells #[.pointer r] 26)).alloc (.cells #[.string s] 9)) := by
    refine ⟨rfl, by decide, by simp, ⟨by simp, .inr ⟨w2.heap.size + 1, 1, #[.pointer r], rfl, by omega, ?_, by simp, by decide, by simp, by simp⟩⟩, ⟨by simp, .inr ⟨w2.heap.size + 1 + 1, 1, #[.string s], rfl, by omega, ?_, by simp, by decide, by simp, by simp⟩⟩, ?_, ⟨r, ?_⟩, by simp [Value.ownBlock], by simp [go_sem], by omega, B3⟩
    · exact (Rp.blocks3 _ _ _ _).2.1
    · exact (Rp.blocks3 _ _ _ _).2.2
    · intro j hj
      obtain rfl : j = 0 := by simp at hj; omega
      exact ⟨((hr.al _).al _).al _, by simp; omega⟩
    · exact (Rp.blocks3 _ _ _ _).1
  go_loopg [6, 7, 8, 9] n (fun k e v7 v8 i wr => Rp.PInv w w2.heap.size n k e v7 v8 i wr)
  case atStart => exact ⟨0, 0, [r], [s], by omega, by omega, rfl, rfl, by simp, KK⟩
  case round =>
    obtain ⟨j, en, ps, ts, hjk, hj30, rfl, rfl, hpl, K⟩ := hrel
    clear KK B3 B2 hb1 hb2 hr
    by_cases hlt : j < n ∧ j < 30
    · obtain ⟨l1, l2⟩ := hlt
      obtain ⟨x, rfl, hxb, o0, o1, o2, o3, k0, k1, ks, ka, ka', kb, kb'⟩ := HO.out j l1
      replace o0 := Rp.cell_on K.be o0 (by rw [Rp.block_add]; exact hxb)
      replace o1 := Rp.cell_on K.be o1 (by rw [Rp.block_add, Rp.block_add]; exact hxb)
      replace o2 := Rp.cell_on K.be o2 (by rw [Rp.block_add, Rp.block_add]; exact hxb)
      replace o3 := Rp.cell_on K.be o3 (by rw [Rp.block_add, Rp.block_add]; exact hxb)
      have l3 : (j : Int) < (n : Int) := by omega
      have l4 : (0 : Int) ≤ (j : Int) := by omega
      have l5 : (j : Int) < 30 := by omega
      clear hxb
      generalize os j = o at *
      obtain ⟨ok, oa, ob, ost⟩ := o
      simp only at o0 o1 o2 o3 k0 k1 ks ka ka' kb kb'
      rw [Rp.add_form _ _ (by decide)] at o1 o2 o3
      by_cases hbig : 2000 < ost.size
      · have e1 : decide ((2000 : Int) < ost.size) = true := by simp; omega
        have lx : w2.heap.size < wr.heap.size := K.ltG
        go_wp2_with fail
        go_ret
        exact ⟨rfl, K.be.alloc K.be.size _⟩
      have e1 : decide ((2000 : Int) < ost.size) = false := by simp; omega
      obtain ⟨g7, cap7, rfl, b7, lt7, cp7, cells7⟩ := Rp.own_cell K.row7 K.pos
      obtain ⟨g8, cap8, rfl, b8, lt8, cp8, cells8⟩ := Rp.own_cell K.row8 K.pos
      have hl0 := K.pos
      have hlen := K.len
      obtain ⟨m, hm⟩ : ∃ m, ps.length = m + 1 := ⟨ps.length - 1, by omega⟩
      obtain ⟨hrm, htm⟩ := K.reps m (by omega)
      have c7 := cells7 m (.pointer (ps.getD m none)) (by rw [List.getElem?_map, List.getD_eq_getElem?_getD, List.getElem?_eq_getElem (by omega)]; simp)
      have c8 := cells8 m (.string (ts.getD m ByteArray.empty)) (by rw [List.take_of_length_le (by omega), List.getElem?_map, List.getD_eq_getElem?_getD, List.getElem?_eq_getElem (by omega)]; simp)
      obtain ⟨pm, hpm⟩ : ∃ pm, pm = ps.getD m none := ⟨_, rfl⟩
      obtain ⟨tm, htm0⟩ : ∃ tm, tm = ts.getD m ByteArray.empty := ⟨_, rfl⟩
      rw [← hpm] at c7 hrm
      rw [← htm0] at c8 hrm htm
      have HPM := Lib.hid hpm; clear hpm
      have HTM := Lib.hid htm0; clear htm0
      obtain ⟨pg, cG⟩ := K.cellG
      have fG := K.frzG
      have lG := K.ltG
      have HL := Lib.hid hlen; clear hlen
      have HC7 := Lib.hid cells7; clear cells7
      have HC8 := Lib.hid cells8; clear cells8
      have n7G : g7 ≠ w2.heap.size := by have := K.ne7; simpa [Value.ownBlock] using this
      have n8G : g8 ≠ w2.heap.size := by have := K.ne8; simpa [Value.ownBlock] using this
      have nG7 : w2.heap.size ≠ g7 := n7G.symm
      have nG8 : w2.heap.size ≠ g8 := n8G.symm
      rw [hm] at K hl0 cp7 cp8 hpl ⊢
      have HM := Lib.hid hm; clear hm
      go_upto_block 2 with fail
      have KV := ((K.setG pm).up (Rp.below_al _ (.cells #[.int .u8 ok, .int .i64 oa, .int .i64 ob, .string ost] 33))).up (Rp.below_al _ (.cells #[.pointer none] 26))
      have eN : (wr.setCell ⟨w2.heap.size, 0, none⟩ (.pointer pm)).heap.size = wr.heap.size := by simp [go_sem]
      have gv : (((wr.setCell ⟨w2.heap.size, 0, none⟩ (.pointer pm)).alloc (.cells #[.int .u8 ok, .int .i64 oa, .int .i64 ob, .string ost] 33)).alloc (.cells #[.pointer none] 26)).cell? ⟨w2.heap.size, 0, none⟩ = some (.pointer pm) := Rp.cell_al (Rp.cell_al (World.cell?_setCell_same _ _ _ cG))
      have RV : Rp.Rep (((wr.setCell ⟨w2.heap.size, 0, none⟩ (.pointer pm)).alloc (.cells #[.int .u8 ok, .int .i64 oa, .int .i64 ob, .string ost] 33)).alloc (.cells #[.pointer none] 26)) pm tm.data.toList := ((hrm.set cG _).al _).al _
      obtain ⟨q0, q1, q2, q3, qx, qf⟩ : (let V := (((wr.setCell ⟨w2.heap.size, 0, none⟩ (.pointer pm)).alloc (.cells #[.int .u8 ok, .int .i64 oa, .int .i64 ob, .string ost] 33)).alloc (.cells #[.pointer none] 26)); V.cell? ⟨wr.heap.size, 0, none⟩ = some (.int .u8 ok) ∧ V.cell? ⟨wr.heap.size, 1, none⟩ = some (.int .i64 oa) ∧ V.cell? ⟨wr.heap.size, 2, none⟩ = some (.int .i64 ob) ∧ V.cell? ⟨wr.heap.size, 3, none⟩ = some (.string ost) ∧ V.cell? ⟨wr.heap.size + 1, 0, none⟩ = some (.pointer none) ∧ V.frozen? ⟨wr.heap.size + 1, 0, none⟩ = false) := by
        rw [← eN]
        refine ⟨Rp.cell_al (by simp [go_sem]), Rp.cell_al (by simp [go_sem]), Rp.cell_al (by simp [go_sem]), Rp.cell_al (by simp [go_sem]), by simp [go_sem], by simp [go_sem]⟩
      have nX7 : (Value.slice (some ⟨g7, 0, none⟩) (m + 1) cap7).ownBlock ≠ some (wr.heap.size + 1) := by simp [Value.ownBlock]; omega
      have nX8 : (Value.slice (some ⟨g8, 0, none⟩) (m + 1) cap8).ownBlock ≠ some (wr.heap.size + 1) := by simp [Value.ownBlock]; omega
      have nXG : w2.heap.size ≠ wr.heap.size + 1 := by omega
      have hXw : w.heap.size ≤ wr.heap.size + 1 := by have := K.be.size; omega
      clear eN c7 c8 cG fG lG hrm o0 o1 o2 o3 K nG7 nG8 n7G n8G b7 b8
      generalize ((wr.setCell ⟨w2.heap.size, 0, none⟩ (.pointer pm)).alloc (.cells #[.int .u8 ok, .int .i64 oa, .int .i64 ob, .string ost] 33)).alloc (.cells #[.pointer none] 26) = V at *
      generalize wr.heap.size = N at *
      generalize w2.heap.size = G at *
      go_cut [6, 13, 14] (fun e want u wx => Rp.Out w G (.slice (some ⟨g7, 0, none⟩) (m + 1) cap7) (.slice (some ⟨g8, 0, none⟩) (m + 1) cap8) ps ts (m + 1) N oa ob e want u wx)
      case first =>
        by_cases t2 : ok % 5 = 2
        · have f2 : (ok % 5 == 2) = true := by simp [t2]
          clear t2
          rcases Bool.eq_false_or_eq_true (Rp.spanB tm.size oa ob) with hsp | hsp
          · as_aux_lemma =>
            obtain ⟨z1, z2, z3⟩ := Rp.spanB_true hsp
            obtain ⟨F, rfl⟩ := Int.eq_ofNat_of_zero_le z1
            obtain ⟨H, rfl⟩ := Int.eq_ofNat_of_zero_le (show 0 ≤ ob by omega)
            have y1 : F ≤ H := by omega
            have y2 : H ≤ tm.size := by omega
            have y3 : F ≤ tm.size := by omega
            go_wp2_with fail
            refine (takeM_yes pm tm.data.toList F H _ RV (by rw [Rn.len_data0]; omega) (by rw [Rn.len_data0]; exact hsp)).mono ?_
            rintro e wa ⟨xp, rfl, hxp, hba⟩
            rw [← Rp.tk_cut tm F H y1] at hxp
            have KA := (KV.up hba).setX (Rp.cell_up hba qx) nX7 nX8 nXG hXw xp
            have qf' := Rp.frz_up hba qx qf
            have qx' := Rp.cell_up hba qx
            have r1 := Rp.cell_set (p := ⟨N + 1, 0, none⟩) (u := .pointer xp) (Rp.cell_up hba q1) (by simp)
            have r2 := Rp.cell_set (p := ⟨N + 1, 0, none⟩) (u := .pointer xp) (Rp.cell_up hba q2) (by simp)
            have rx := World.cell?_setCell_same wa ⟨N + 1, 0, none⟩ (.pointer xp) qx'
            have hxp' := hxp.set qx' (.pointer xp)
            replace q1 := Rp.cell_up hba q1
            replace q2 := Rp.cell_up hba q2
            go_wp2_with fail
            clear q1 q2 qf' qx' hxp
            generalize wa.setCell ⟨N + 1, 0, none⟩ (.pointer xp) = Z at *
            refine (refSpan_any tm F H _).mono ?_
            rintro e w' ⟨rfl, rfl⟩
            have i1 : (0 : Int) ≤ (F : Int) := by omega
            have i2 : (F : Int) ≤ (tm.size : Int) := by omega
            have i3 : (0 : Int) ≤ (H : Int) := by omega
            have i4 : (H : Int) ≤ (tm.size : Int) := by omega
            have c1 : ¬ 9223372036854775807 < F + (tm.size - H) := by omega
            have c2 : (tm.extract 0 F ++ tm.extract H tm.size).size ≤ 4000 := by simp; omega
            go_wp2_with fail
            go_quiet (fail)
            go_wp2_with fail
            go_meet
            exact ⟨KA.up (Rp.below_drewN (Below.refl _ _) _), Rp.cell_up (Rp.below_drewN (Below.refl _ _) _) r1, Rp.cell_up (Rp.below_drewN (Below.refl _ _) _) r2, xp, _, Rp.cell_up (Rp.below_drewN (Below.refl _ _) _) rx, rfl, .inl ⟨rfl, rfl, c2, hxp'.up (Rp.below_drewN (Below.refl _ _) _)⟩⟩
          · as_aux_lemma =>
            go_wp2_with fail
            refine (takeM_no pm tm.data.toList oa ob _ RV (by rw [Rn.len_data0]; exact hsp)).mono ?_
            rintro e wa ⟨xp, rfl, hxp, hba⟩
            have KA := (KV.up hba).setX (Rp.cell_up hba qx) nX7 nX8 nXG hXw xp
            have qf' := Rp.frz_up hba qx qf
            have qx' := Rp.cell_up hba qx
            have r1 := Rp.cell_set (p := ⟨N + 1, 0, none⟩) (u := .pointer xp) (Rp.cell_up hba q1) (by simp)
            have r2 := Rp.cell_set (p := ⟨N + 1, 0, none⟩) (u := .pointer xp) (Rp.cell_up hba q2) (by simp)
            have rx := World.cell?_setCell_same wa ⟨N + 1, 0, none⟩ (.pointer xp) qx'
            have hxp' := hxp.set qx' (.pointer xp)
            replace q1 := Rp.cell_up hba q1
            replace q2 := Rp.cell_up hba q2
            go_wp2_with fail
            clear q1 q2 qf' qx' hxp
            generalize wa.setCell ⟨N + 1, 0, none⟩ (.pointer xp) = Z at *
            refine (refSpan_any tm oa ob _).mono ?_
            rintro e w' ⟨rfl, rfl⟩
            go_wp2_with fail
            go_meet
            exact ⟨KA, r1, r2, xp, ⟨#[]⟩, rx, rfl, .inr (.inl ⟨rfl, rfl, rfl, hxp'⟩)⟩
        · by_cases t3 : ok % 5 = 3
          · have f2 : (ok % 5 == 2) = false := beq_eq_false_iff_ne.2 t2
            have f3 : (ok % 5 == 3) = true := by simp [t3]
            clear t2 t3
            rcases Bool.eq_false_or_eq_true (Rp.spanB tm.size oa oa) with hsp | hsp
            · as_aux_lemma =>
              obtain ⟨F, rfl, y3⟩ := Rp.spanB_at hsp
              have hsp2 : Rp.spanB tm.size F tm.size = true := by simp [Rp.spanB]; omega
              go_wp2_with fail
              refine (split_yes pm tm.data.toList F _ RV (by rw [Rn.len_data0]; omega) (by rw [Rn.len_data0]; exact y3)).mono ?_
              rintro e wa ⟨xa, xb, rfl, hxa, hxb, hba⟩
              rw [← Rp.ext_left] at hxa
              rw [← Rp.ext_right] at hxb
              have hW2 := Rp.below_al2 wa (.cells #[.pointer xa] 26) (.cells #[.pointer xb] 26)
              have hY := Rp.below_up hba hW2
              have KA := KV.up hY
              have qx' := Rp.cell_up hY qx
              have qf' := Rp.frz_up hY qx qf
              replace q1 := Rp.cell_up hY q1
              replace q2 := Rp.cell_up hY q2
              have va : ((wa.alloc (.cells #[.pointer xa] 26)).alloc (.cells #[.pointer xb] 26)).cell? ⟨wa.heap.size, 0, none⟩ = some (.pointer xa) := Rp.cell_al (by simp [go_sem])
              have vb : ((wa.alloc (.cells #[.pointer xa] 26)).alloc (.cells #[.pointer xb] 26)).cell? ⟨wa.heap.size + 1, 0, none⟩ = some (.pointer xb) := by simp [go_sem]
              replace hxa := hxa.up hW2
              replace hxb := hxb.up hW2
              clear gv RV KV q0 q3 qx qf hba hW2 hY
              go_wp2_with fail
              generalize (wa.alloc (.cells #[.pointer xa] 26)).alloc (.cells #[.pointer xb] 26) = Y at *
              generalize wa.heap.size = A at *
              refine (refSpan_any tm F tm.size _).mono ?_
              rintro e w' ⟨rfl, rfl⟩
              have i1 : (0 : Int) ≤ (F : Int) := by omega
              have i2 : (F : Int) ≤ (tm.size : Int) := by omega
              have c1 : ¬ 9223372036854775807 < tm.size := by omega
              have c2 : (tm.extract F tm.size ++ tm.extract 0 F).size ≤ 4000 := by simp; omega
              have c3 : ((tm.extract F tm.size).data.toList ++ (tm.extract 0 F).data.toList).length ≤ 4000 := by rw [List.length_append, Rn.len_data0, Rn.len_data0, ← ByteArray.size_append]; exact c2
              have c4 : (tm.extract 0 F).size ≤ 1000000 := by simp; omega
              have c5 : (tm.extract F tm.size).size ≤ 1000000 := by simp; omega
              have e5 : (tm.extract F tm.size ++ tm.extract 0 F).data.toList = (tm.extract F tm.size).data.toList ++ (tm.extract 0 F).data.toList := Rp.append_data _ _
              have C2 := Lib.hid c2; have C3 := Lib.hid c3; have C4 := Lib.hid c4; have C5 := Lib.hid c5; have E5 := Lib.hid e5
              clear c2 c3 c4 c5 e5
              go_wp2_with fail
              go_region_held3 (fun v => v.cell? ⟨N, 1, none⟩ = some (.int .i64 F))
                (first | (with_reducible (refine Rp.cell_dr ?_; assumption)))
                (fail)
              replace KA := KA.up (Below.refl Y.heap.size Y).drew
              replace qx' := Rp.cell_dr qx'
              replace qf' := Rp.frz_dr qf'
              replace q1 := Rp.cell_dr q1
              replace q2 := Rp.cell_dr q2
              replace va := Rp.cell_dr va
              replace vb := Rp.cell_dr vb
              replace hxa := hxa.dr
              replace hxb := hxb.dr
              generalize Y.drew = Y2 at *
              go_wp2_with fail
              have bz := Below.refl Y2.heap.size Y2
              go_region_held3 (fun v => v.cell? ⟨N, 1, none⟩ = some (.int .i64 F) ∧ v.cell? ⟨A, 0, none⟩ = some (.pointer xa) ∧ v.cell? ⟨A + 1, 0, none⟩ = some (.pointer xb) ∧ Rp.Rep v xa (tm.extract 0 F).data.toList ∧ Rp.Rep v xb (tm.extract F tm.size).data.toList ∧ Below Y2.heap.size Y2 v)
                (first
                  | (refine ⟨?_, ?_, ?_, ?_, ?_, ?_⟩ <;> with_reducible (first | (refine Rp.cell_dr ?_; assumption) | (refine Rp.Rep.dr ?_; assumption) | (refine Rp.below_dr ?_; assumption)))
                  | (go_split_ands; refine ⟨?_, ?_, ?_, ?_, ?_, ?_⟩ <;> with_reducible (first | (refine Rp.cell_up hb2 ?_; assumption) | (refine Rp.Rep.up hb2 ?_; assumption) | (refine Rp.below_up ?_ hb2; assumption)))
                  | (go_split_ands; refine ⟨?_, ?_, ?_, ?_, ?_, ?_⟩ <;> with_reducible (first | (refine Rp.cell_up hb1 ?_; assumption) | (refine Rp.Rep.up hb1 ?_; assumption) | (refine Rp.below_up ?_ hb1; assumption))))
                (first
                  | (go_at_call_of 14 (Value.agg #[.pointer xa]); go_split_ands; refine (text_s xa (tm.extract 0 F) _ (by assumption) C4.out).mono ?_; rintro e wt1 ⟨rfl, hb1⟩)
                  | (go_at_call 14; go_split_ands; refine (text_s xb (tm.extract F tm.size) _ (by assumption) C5.out).mono ?_; rintro e wt2 ⟨rfl, hb2⟩))
              all_goals
                obtain ⟨_, va', vb', ra, rb, bz2⟩ := ‹wt2.cell? ⟨N, 1, none⟩ = some (.int .i64 F) ∧ wt2.cell? ⟨A, 0, none⟩ = some (.pointer xa) ∧ wt2.cell? ⟨A + 1, 0, none⟩ = some (.pointer xb) ∧ Rp.Rep wt2 xa (tm.extract 0 F).data.toList ∧ Rp.Rep wt2 xb (tm.extract F tm.size).data.toList ∧ Below Y2.heap.size Y2 wt2›
                replace KA := KA.up bz2
                have qf2 := Rp.frz_up bz2 qx' qf'
                have qx2 := Rp.cell_up bz2 qx'
                replace q1 := Rp.cell_up bz2 q1
                replace q2 := Rp.cell_up bz2 q2
                clear qx' qf' va vb hxa hxb bz bz2 hb1 hb2
                go_wp2_with fail
                refine (join_yes wt2.heap.size xb xa _ _ _ (by simp [go_sem]) (by simp [go_sem]) (rb.al _) (ra.al _) C3.out).mono ?_
                rintro e wj ⟨xp, rfl, hxp, hbj⟩
                rw [← E5.out] at hxp
                have hJ := Rp.below_up (Rp.below_al wt2 (.cells #[.pointer xb, .pointer xa] 26)) hbj
                have KJ := (KA.up hJ).setX (Rp.cell_up hJ qx2) nX7 nX8 nXG hXw xp
                have qf' := Rp.frz_up hJ qx2 qf2
                have qx' := Rp.cell_up hJ qx2
                have r1 := Rp.cell_set (p := ⟨N + 1, 0, none⟩) (u := .pointer xp) (Rp.cell_up hJ q1) (by simp)
                have r2 := Rp.cell_set (p := ⟨N + 1, 0, none⟩) (u := .pointer xp) (Rp.cell_up hJ q2) (by simp)
                have rx := World.cell?_setCell_same wj ⟨N + 1, 0, none⟩ (.pointer xp) qx'
                have hxp' := hxp.set qx' (.pointer xp)
                clear q1 q2 va' vb' ra rb qf2 qx2 hbj hJ KA hxp
                go_wp2_with fail
                go_meet
                exact ⟨KJ, r1, r2, xp, _, rx, rfl, .inl ⟨rfl, rfl, C2.out, hxp'⟩⟩
            · as_aux_lemma =>
              have hsp2 : Rp.spanB tm.size oa tm.size = false := by
                rw [← Bool.not_eq_true] at hsp ⊢
                simp [Rp.spanB] at hsp ⊢
                omega
              go_wp2_with fail
              refine (split_no pm tm.data.toList oa _ RV (by rw [Rn.len_data0]; exact hsp)).mono ?_
              rintro e wa ⟨xa, xb, rfl, hxa, hxb, hba⟩
              have hW2 := Rp.below_al2 wa (.cells #[.pointer xa] 26) (.cells #[.pointer xb] 26)
              have hY := Rp.below_up hba hW2
              have KA := KV.up hY
              have qx' := Rp.cell_up hY qx
              have qf' := Rp.frz_up hY qx qf
              replace q1 := Rp.cell_up hY q1
              replace q2 := Rp.cell_up hY q2
              have va : ((wa.alloc (.cells #[.pointer xa] 26)).alloc (.cells #[.pointer xb] 26)).cell? ⟨wa.heap.size, 0, none⟩ = some (.pointer xa) := Rp.cell_al (by simp [go_sem])
              have vb : ((wa.alloc (.cells #[.pointer xa] 26)).alloc (.cells #[.pointer xb] 26)).cell? ⟨wa.heap.size + 1, 0, none⟩ = some (.pointer xb) := by simp [go_sem]
              replace hxa := hxa.up hW2
              replace hxb := hxb.up hW2
              clear gv RV KV q0 q3 qx qf hba hW2 hY
              go_wp2_with fail
              generalize (wa.alloc (.cells #[.pointer xa] 26)).alloc (.cells #[.pointer xb] 26) = Y at *
              generalize wa.heap.size = A at *
              refine (refSpan_any tm oa tm.size _).mono ?_
              rintro e w' ⟨rfl, rfl⟩
              go_wp2_with fail
              refine (join_yes Y.heap.size xb xa [] [] _ (by simp [go_sem]) (by simp [go_sem]) (hxb.al _) (hxa.al _) (by simp)).mono ?_
              rintro e wj ⟨xp, rfl, hxp, hbj⟩
              have hJ := Rp.below_up (Rp.below_al Y (.cells #[.pointer xb, .pointer xa] 26)) hbj
              have KJ := (KA.up hJ).setX (Rp.cell_up hJ qx') nX7 nX8 nXG hXw xp
              have qf2 := Rp.frz_up hJ qx' qf'
              have qx2 := Rp.cell_up hJ qx'
              have r1 := Rp.cell_set (p := ⟨N + 1, 0, none⟩) (u := .pointer xp) (Rp.cell_up hJ q1) (by simp)
              have r2 := Rp.cell_set (p := ⟨N + 1, 0, none⟩) (u := .pointer xp) (Rp.cell_up hJ q2) (by simp)
              have rx := World.cell?_setCell_same wj ⟨N + 1, 0, none⟩ (.pointer xp) qx2
              have hxp' := hxp.set qx2 (.pointer xp)
              clear q1 q2 va vb hxa hxb qf' qx' hbj hJ KA hxp
              go_wp2_with fail
              clear qf2 qx2
              generalize wj.setCell ⟨N + 1, 0, none⟩ (.pointer xp) = Z at *
              refine (len_any xp [] _ hxp').mono ?_
              rintro e wl ⟨rfl, hbl⟩
              have ez : ((([] : List UInt8).length : Nat) : Int) = 0 := rfl
              rw [ez]; clear ez
              replace KJ := KJ.up hbl
              replace r1 := Rp.cell_up hbl r1
              replace r2 := Rp.cell_up hbl r2
              replace rx := Rp.cell_up hbl rx
              replace hxp' := hxp'.up hbl
              go_wp2_with fail
              go_meet
              exact ⟨KJ, r1, r2, xp, ⟨#[]⟩, rx, rfl, .inr (.inl ⟨rfl, rfl, rfl, hxp'⟩)⟩
          by_cases t4 : ok % 5 = 4
          · have f2 : (ok % 5 == 2) = false := beq_eq_false_iff_ne.2 t2
            have f3 : (ok % 5 == 3) = false := beq_eq_false_iff_ne.2 t3
            have f4 : (ok % 5 == 4) = true := by simp [t4]
            clear t2 t3 t4
            obtain ⟨K, hK1, hK2⟩ := Rp.pick_is oa m (by omega)
            have c7 : V.cell? ⟨g7, K, none⟩ = some (.pointer (ps.getD K none)) := by
              obtain ⟨h7, cap7', e7, _, _, _, cells7⟩ := Rp.own_cell KV.row7 (by rw [HM.out]; omega)
              obtain ⟨rfl, _⟩ : g7 = h7 ∧ True := by simp at e7; exact ⟨e7.1, trivial⟩
              exact cells7 K _ (by rw [List.getElem?_map, List.getD_eq_getElem?_getD, List.getElem?_eq_getElem (by rw [HM.out]; exact hK1)]; simp)
            have c8 : V.cell? ⟨g8, K, none⟩ = some (.string (ts.getD K ByteArray.empty)) := by
              obtain ⟨h8, cap8', e8, _, _, _, cells8⟩ := Rp.own_cell KV.row8 (by omega)
              obtain ⟨rfl, _⟩ : g8 = h8 ∧ True := by simp at e8; exact ⟨e8.1, trivial⟩
              have hlt : K < ts.length := by rw [← HL.out, HM.out]; exact hK1
              exact cells8 K _ (by rw [List.getElem?_map, List.getElem?_take_of_lt hK1, List.getD_eq_getElem?_getD, List.getElem?_eq_getElem hlt]; simp)
            obtain ⟨hrk, htk⟩ := KV.reps K (by rw [HM.out]; exact hK1)
            generalize ps.getD K none = pk at *
            generalize ts.getD K ByteArray.empty = tk at *
            have i1 : (0 : Int) ≤ (K : Int) := by omega
            have i2 : (K : Int) < (m : Int) + 1 := by omega
            have i3 : K ≤ m := by omega
            have i4 : (K : Int) ≤ (m : Int) := by omega
            have nX1 : N + 1 ≠ G := nXG.symm
            have nX2 : N + 1 ≠ g7 := by omega
            have nX8' : N + 1 ≠ g8 := by omega
            have c1 : ¬ 9223372036854775807 < tm.size + tk.size := by omega
            have e5 : (tm ++ tk).data.toList = tm.data.toList ++ tk.data.toList := Rp.append_data _ _
            have c4 : tm.data.toList.length ≤ 4000 := by rw [Rn.len_data0]; exact htm
            have c5 : tk.data.toList.length ≤ 4000 := by rw [Rn.len_data0]; exact htk
            have c6 : (tm ++ tk).size ≤ 100000 := by rw [ByteArray.size_append]; omega
            have E5 := Lib.hid e5; have C4 := Lib.hid c4; have C5 := Lib.hid c5; have C6 := Lib.hid c6
            clear e5 c4 c5 c6
            by_cases hfar : 4000 < tm.size + tk.size
            · as_aux_lemma =>
              have c2 : 4000 < (tm ++ tk).size := by rw [ByteArray.size_append]; exact hfar
              have c3 : 4000 < (tm.data.toList ++ tk.data.toList).length := by rw [List.length_append, Rn.len_data0, Rn.len_data0]; exact hfar
              have C2 := Lib.hid c2; have C3 := Lib.hid c3
              clear c2 c3
              go_upto_region 48 with fail
              rw [hK2]
              clear q0 q3 hK2 f2 f3 f4
              go_region_held3 (fun v => v.cell? ⟨G, 0, none⟩ = some (.pointer pm) ∧ v.cell? ⟨g7, K, none⟩ = some (.pointer pk))
                (first
                  | (refine ⟨?_, ?_⟩ <;> with_reducible (refine Rp.cell_dr ?_; assumption))
                  | (refine ⟨?_, ?_⟩ <;> with_reducible (refine Rp.cell_dr ?_; refine Rp.cell_al ?_; assumption))
                  | (refine ⟨?_, ?_⟩ <;> with_reducible (refine Rp.cell_al ?_; refine Rp.cell_dr ?_; assumption))
                  | (refine ⟨?_, ?_⟩ <;> with_reducible (refine Rp.cell_up hJ ?_; assumption))
                  | (refine ⟨?_, ?_⟩ <;> with_reducible (refine Rp.cell_set (Rp.cell_up hJ ?_) ?_ <;> assumption)))
                (first
                  | (go_at_call 15; refine (join_far V.heap.size pm pk tm.data.toList tk.data.toList _ (by simp [go_sem]) (by simp [go_sem]) (by first | exact RV.dr.al _ | exact (RV.al _).dr) (by first | exact hrk.dr.al _ | exact (hrk.al _).dr) C4.out C5.out C3.out).mono ?_; rintro e wj ⟨xp, rfl, hxp, hbj⟩; have hJ := Rp.below_up (w := V) (by first | exact ((Below.refl V.heap.size V).drew).alloc (Nat.le_refl _) _ | exact ((Below.refl V.heap.size V).alloc (Nat.le_refl _) _).drew) hbj; have qfj := Rp.frz_up hJ qx qf; have qxj := Rp.cell_up hJ qx))
              all_goals
                have KJ := (KV.up hJ).setX qxj nX7 nX8 nXG hXw xp
                have r1 := Rp.cell_set (p := ⟨N + 1, 0, none⟩) (u := .pointer xp) (Rp.cell_up hJ q1) (by simp)
                have r2 := Rp.cell_set (p := ⟨N + 1, 0, none⟩) (u := .pointer xp) (Rp.cell_up hJ q2) (by simp)
                have r8 := Rp.cell_set (p := ⟨N + 1, 0, none⟩) (u := .pointer xp) (Rp.cell_up hJ c8) nX8'
                have rx := World.cell?_setCell_same wj ⟨N + 1, 0, none⟩ (.pointer xp) qxj
                have hxp' := hxp.set qxj (.pointer xp)
                clear q1 q2 c7 c8 gv qx qf qfj qxj hbj hJ KV hxp RV hrk
                generalize wj.setCell ⟨N + 1, 0, none⟩ (.pointer xp) = Z at *
                go_wp2_with fail
                go_meet
                exact ⟨KJ, r1, r2, xp, _, rx, rfl, .inr (.inr ⟨rfl, rfl, C2.out, C6.out, hxp'⟩)⟩
            · as_aux_lemma =>
              have c2 : (tm ++ tk).size ≤ 4000 := by rw [ByteArray.size_append]; omega
              have c3 : (tm.data.toList ++ tk.data.toList).length ≤ 4000 := by rw [List.length_append, Rn.len_data0, Rn.len_data0]; omega
              have C2 := Lib.hid c2; have C3 := Lib.hid c3
              clear c2 c3
              go_upto_region 48 with fail
              rw [hK2]
              clear q0 q3 hK2 f2 f3 f4
              go_region_held3 (fun v => v.cell? ⟨G, 0, none⟩ = some (.pointer pm) ∧ v.cell? ⟨g7, K, none⟩ = some (.pointer pk))
                (first
                  | (refine ⟨?_, ?_⟩ <;> with_reducible (refine Rp.cell_dr ?_; assumption))
                  | (refine ⟨?_, ?_⟩ <;> with_reducible (refine Rp.cell_dr ?_; refine Rp.cell_al ?_; assumption))
                  | (refine ⟨?_, ?_⟩ <;> with_reducible (refine Rp.cell_al ?_; refine Rp.cell_dr ?_; assumption))
                  | (refine ⟨?_, ?_⟩ <;> with_reducible (refine Rp.cell_up hJ ?_; assumption))
                  | (refine ⟨?_, ?_⟩ <;> with_reducible (refine Rp.cell_set (Rp.cell_up hJ ?_) ?_ <;> assumption)))
                (first
                  | (go_at_call 15; refine (join_yes V.heap.size pm pk tm.data.toList tk.data.toList _ (by simp [go_sem]) (by simp [go_sem]) (by first | exact RV.dr.al _ | exact (RV.al _).dr) (by first | exact hrk.dr.al _ | exact (hrk.al _).dr) C3.out).mono ?_; rintro e wj ⟨xp, rfl, hxp, hbj⟩; have hJ := Rp.below_up (w := V) (by first | exact ((Below.refl V.heap.size V).drew).alloc (Nat.le_refl _) _ | exact ((Below.refl V.heap.size V).alloc (Nat.le_refl _) _).drew) hbj; have qfj := Rp.frz_up hJ qx qf; have qxj := Rp.cell_up hJ qx))
              all_goals
                rw [← E5.out] at hxp
                have KJ := (KV.up hJ).setX qxj nX7 nX8 nXG hXw xp
                have r1 := Rp.cell_set (p := ⟨N + 1, 0, none⟩) (u := .pointer xp) (Rp.cell_up hJ q1) (by simp)
                have r2 := Rp.cell_set (p := ⟨N + 1, 0, none⟩) (u := .pointer xp) (Rp.cell_up hJ q2) (by simp)
                have r8 := Rp.cell_set (p := ⟨N + 1, 0, none⟩) (u := .pointer xp) (Rp.cell_up hJ c8) nX8'
                have rx := World.cell?_setCell_same wj ⟨N + 1, 0, none⟩ (.pointer xp) qxj
                have hxp' := hxp.set qxj (.pointer xp)
                clear q1 q2 c7 c8 gv qx qf qfj qxj hbj hJ KV hxp RV hrk
                generalize wj.setCell ⟨N + 1, 0, none⟩ (.pointer xp) = Z at *
                go_wp2_with fail
                go_meet
                exact ⟨KJ, r1, r2, xp, _, rx, rfl, .inl ⟨rfl, rfl, C2.out, hxp'⟩⟩
          have f2 : (ok % 5 == 2) = false := beq_eq_false_iff_ne.2 t2
          have f3 : (ok % 5 == 3) = false := beq_eq_false_iff_ne.2 t3
          have f4 : (ok % 5 == 4) = false := beq_eq_false_iff_ne.2 t4
          clear t2 t3 t4
          rcases Bool.eq_false_or_eq_true (Rp.spanB tm.size oa oa) with hsp | hsp
          · obtain ⟨F, rfl, y3⟩ := Rp.spanB_at hsp
            have hsp2 : Rp.spanB tm.size F tm.size = true := by simp [Rp.spanB]; omega
            by_cases hfar : 4000 < tm.size + ost.size
            · as_aux_lemma =>
              go_wp2_with fail
              refine (put_far pm tm.data.toList F ost _ RV (by rw [Rn.len_data0]; omega) (by omega) (by rw [Rn.len_data0]; exact hsp) (by rw [Rn.len_data0]; exact hfar)).mono ?_
              rintro e wa ⟨xp, rfl, hxp, hba⟩
              have KA := (KV.up hba).setX (Rp.cell_up hba qx) nX7 nX8 nXG hXw xp
              have qf' := Rp.frz_up hba qx qf
              have qx' := Rp.cell_up hba qx
              have r1 := Rp.cell_set (p := ⟨N + 1, 0, none⟩) (u := .pointer xp) (Rp.cell_up hba q1) (by simp)
              have r2 := Rp.cell_set (p := ⟨N + 1, 0, none⟩) (u := .pointer xp) (Rp.cell_up hba q2) (by simp)
              have r3 := Rp.cell_set (p := ⟨N + 1, 0, none⟩) (u := .pointer xp) (Rp.cell_up hba q3) (by simp)
              have rx := World.cell?_setCell_same wa ⟨N + 1, 0, none⟩ (.pointer xp) qx'
              have hxp' := hxp.set qx' (.pointer xp)
              replace q1 := Rp.cell_up hba q1
              replace q2 := Rp.cell_up hba q2
              replace q3 := Rp.cell_up hba q3
              go_wp2_with fail
              clear q1 q2 q3 qf' qx' hxp
              generalize wa.setCell ⟨N + 1, 0, none⟩ (.pointer xp) = Z at *
              refine (refSpan_any tm F tm.size _).mono ?_
              rintro e w' ⟨rfl, rfl⟩
              have i1 : (0 : Int) ≤ (F : Int) := by omega
              have i2 : (F : Int) ≤ (tm.size : Int) := by omega
              have c1 : ¬ 9223372036854775807 < F + ost.size := by omega
              have c2 : ¬ 9223372036854775807 < F + ost.size + (tm.size - F) := by omega
              have c3 : (tm.extract 0 F ++ ost ++ tm.extract F tm.size).size = tm.size + ost.size := by simp; omega
              have C3 := Lib.hid c3; clear c3
              go_wp2_with fail
              go_quiet (fail)
              go_wp2_with fail
              go_meet
              exact ⟨KA.up (Rp.below_drewN (Below.refl _ _) _), Rp.cell_up (Rp.below_drewN (Below.refl _ _) _) r1, Rp.cell_up (Rp.below_drewN (Below.refl _ _) _) r2, xp, _, Rp.cell_up (Rp.below_drewN (Below.refl _ _) _) rx, rfl, .inr (.inr ⟨rfl, rfl, by rw [C3.out]; exact hfar, by rw [C3.out]; omega, hxp'.up (Rp.below_drewN (Below.refl _ _) _)⟩)⟩
            · as_aux_lemma =>
              go_wp2_with fail
              refine (put_yes pm tm.data.toList F ost _ RV (by rw [Rn.len_data0]; exact y3) (by rw [Rn.len_data0]; omega)).mono ?_
              rintro e wa ⟨xp, rfl, hxp, hba⟩
              have e5 : (tm.extract 0 F ++ ost ++ tm.extract F tm.size).data.toList = tm.data.toList.take F ++ ost.data.toList ++ tm.data.toList.drop F := by
                rw [Rp.append_data, Rp.append_data, Rp.ext_left, Rp.ext_right]
              rw [← e5] at hxp
              clear e5
              have KA := (KV.up hba).setX (Rp.cell_up hba qx) nX7 nX8 nXG hXw xp
              have qf' := Rp.frz_up hba qx qf
              have qx' := Rp.cell_up hba qx
              have r1 := Rp.cell_set (p := ⟨N + 1, 0, none⟩) (u := .pointer xp) (Rp.cell_up hba q1) (by simp)
              have r2 := Rp.cell_set (p := ⟨N + 1, 0, none⟩) (u := .pointer xp) (Rp.cell_up hba q2) (by simp)
              have r3 := Rp.cell_set (p := ⟨N + 1, 0, none⟩) (u := .pointer xp) (Rp.cell_up hba q3) (by simp)
              have rx := World.cell?_setCell_same wa ⟨N + 1, 0, none⟩ (.pointer xp) qx'
              have hxp' := hxp.set qx' (.pointer xp)
              replace q1 := Rp.cell_up hba q1
              replace q2 := Rp.cell_up hba q2
              replace q3 := Rp.cell_up hba q3
              go_wp2_with fail
              clear q1 q2 q3 qf' qx' hxp
              generalize wa.setCell ⟨N + 1, 0, none⟩ (.pointer xp) = Z at *
              refine (refSpan_any tm F tm.size _).mono ?_
              rintro e w' ⟨rfl, rfl⟩
              have i1 : (0 : Int) ≤ (F : Int) := by omega
              have i2 : (F : Int) ≤ (tm.size : Int) := by omega
              have c1 : ¬ 9223372036854775807 < F + ost.size := by omega
              have c2 : ¬ 9223372036854775807 < F + ost.size + (tm.size - F) := by omega
              have c3 : (tm.extract 0 F ++ ost ++ tm.extract F tm.size).size = tm.size + ost.size := by simp; omega
              have C3 := Lib.hid c3; clear c3
              go_wp2_with fail
              go_quiet (fail)
              go_wp2_with fail
              go_meet
              exact ⟨KA.up (Rp.below_drewN (Below.refl _ _) _), Rp.cell_up (Rp.below_drewN (Below.refl _ _) _) r1, Rp.cell_up (Rp.below_drewN (Below.refl _ _) _) r2, xp, _, Rp.cell_up (Rp.below_drewN (Below.refl _ _) _) rx, rfl, .inl ⟨rfl, rfl, by rw [C3.out]; omega, hxp'.up (Rp.below_drewN (Below.refl _ _) _)⟩⟩
          · as_aux_lemma =>
            have hsp2 : Rp.spanB tm.size oa tm.size = false := by
              rw [← Bool.not_eq_true] at hsp ⊢
              simp [Rp.spanB] at hsp ⊢
              omega
            go_wp2_with fail
            refine (put_no pm tm.data.toList oa ost _ RV (by rw [Rn.len_data0]; exact hsp)).mono ?_
            rintro e wa ⟨xp, rfl, hxp, hba⟩
            have KA := (KV.up hba).setX (Rp.cell_up hba qx) nX7 nX8 nXG hXw xp
            have qf' := Rp.frz_up hba qx qf
            have qx' := Rp.cell_up hba qx
            have r1 := Rp.cell_set (p := ⟨N + 1, 0, none⟩) (u := .pointer xp) (Rp.cell_up hba q1) (by simp)
            have r2 := Rp.cell_set (p := ⟨N + 1, 0, none⟩) (u := .pointer xp) (Rp.cell_up hba q2) (by simp)
            have r3 := Rp.cell_set (p := ⟨N + 1, 0, none⟩) (u := .pointer xp) (Rp.cell_up hba q3) (by simp)
            have rx := World.cell?_setCell_same wa ⟨N + 1, 0, none⟩ (.pointer xp) qx'
            have hxp' := hxp.set qx' (.pointer xp)
            replace q1 := Rp.cell_up hba q1
            replace q2 := Rp.cell_up hba q2
            replace q3 := Rp.cell_up hba q3
            go_wp2_with fail
            clear q1 q2 q3 qf' qx' hxp
            generalize wa.setCell ⟨N + 1, 0, none⟩ (.pointer xp) = Z at *
            refine (refSpan_any tm oa tm.size _).mono ?_
            rintro e w' ⟨rfl, rfl⟩
            go_wp2_with fail
            go_meet
            exact ⟨KA, r1, r2, xp, ⟨#[]⟩, rx, rfl, .inr (.inl ⟨rfl, rfl, rfl, hxp'⟩)⟩
      case rest =>
        obtain ⟨KX, x1, x2, xp, us, xc, rfl, hcase⟩ := hcut
        clear KV gv RV q0 q1 q2 q3 qx qf
        rcases hcase with ⟨rfl, rfl, hus, hrx⟩ | ⟨rfl, rfl, hus, hrx⟩ | ⟨rfl, rfl, hus, hus2, hrx⟩
        · as_aux_lemma =>
          have dz : decide ((4000 : Int) < us.size) = false := by simp; omega
          go_wp2_with fail
          obtain ⟨hn0, hnb, hnh⟩ := hrx.bound
          rw [Rn.len_data0] at hnb
          refine (same_any xp us hn0 _ hrx hnh (by omega) hnb oa).mono ?_
          rintro e wb ⟨rfl, hb1⟩
          replace KX := KX.up hb1
          replace x1 := Rp.cell_up hb1 x1
          replace x2 := Rp.cell_up hb1 x2
          replace xc := Rp.cell_up hb1 xc
          replace hrx := hrx.up hb1
          replace hnh := hnh.up hb1
          go_wp2_with fail
          refine (same_any xp us hn0 _ hrx hnh (by omega) hnb ob).mono ?_
          rintro e wd ⟨rfl, hb2⟩
          replace KX := KX.up hb2
          replace xc := Rp.cell_up hb2 xc
          replace hrx := hrx.up hb2
          clear x1 x2 hnh hnb
          obtain ⟨i7, hi7, hz70, hz71, hz72⟩ := info_parts Rp.infoRope
          obtain ⟨i8, hi8, hz80, hz81, hz82⟩ := info_parts Rp.infoStr
          have K1 := KX.up (Rp.below_al wd (.cells #[.pointer xp] 26))
          have hrx1 := hrx.al (.cells #[.pointer xp] 26)
          have K1' := K1.row7
          rw [HM.out] at K1'
          have hbs := K1.be.size
          have nw : ∀ j u, [Value.pointer xp][j]? = some u → (wd.alloc (.cells #[.pointer xp] 26)).cell? ((⟨wd.heap.size, 0, none⟩ : Addr).add j) = some u := World.news_of_block (cs := #[.pointer xp]) (t := 26) (fr := (0, 0)) (heap_alloc_new wd _)
          have K1p : Rp.Keeps w G (.slice (some ⟨g7, 0, none⟩) (m + 1) cap7) (.slice (some ⟨g8, 0, none⟩) (m + 1) cap8) ps ts ps.length (wd.alloc (.cells #[.pointer xp] 26)) := by rw [HM.out]; exact K1
          have hm30 : m ≤ 30 := by omega
          go_wp2_with (first
            | (at_builtin; refine wpList_append_own _ rfl _ _ 30 rfl w.heap.size 26 i7 _ 1 8 Try.underlying30 hi7 hz70 hz71 hz72 rfl (by decide) _ _ _ rfl K1' ⟨wd.heap.size, 0, none⟩ 1 1 [.pointer xp] rfl rfl nw (by simp [Value.oneCell']) (by unfold maxLen; omega) (by omega) hbs ?_; intro v7' we o7 g7' _; have K2 := Rp.Keeps.push7 K1p hrx1 hus (by rw [HM.out]; exact o7) g7'; have K3 := K2.up (Rp.below_al we (.cells #[.string us] 9)); have K3' := K3.row8; have hbs3 := K3.be.size; have nw8 : ∀ j u, [Value.string us][j]? = some u → (we.alloc (.cells #[.string us] 9)).cell? ((⟨we.heap.size, 0, none⟩ : Addr).add j) = some u := World.news_of_block (cs := #[.string us]) (t := 9) (fr := (0, 0)) (heap_alloc_new we _))
            | (at_builtin; refine wpList_append_own _ rfl _ _ 31 rfl w.heap.size 9 i8 _ 1 16 Try.underlying31 hi8 hz80 hz81 hz82 rfl (by decide) _ _ _ rfl K3' ⟨we.heap.size, 0, none⟩ 1 1 [.string us] rfl rfl nw8 (by simp [Value.oneCell']) (by rw [HM.out]; unfold maxLen; omega) (by rw [HM.out]; omega) hbs3 ?_; intro v8' wf o8 g8' _))
          have K4 := K3.push8 rfl HL.out o8 g8'
          have hm1 := HM.out
          go_roundg (gk - 1)
          case measure => omega
          case rel => exact ⟨j + 1, 0, ps ++ [xp], ts ++ [us], by omega, by omega, by simp, rfl, by simp; omega, K4⟩
        · as_aux_lemma =>
          have dz : decide ((4000 : Int) < us.size) = false := by simp; omega
          clear hus
          go_wp2_with fail
          refine (len_any xp [] _ hrx).mono ?_
          rintro e wb ⟨rfl, hb1⟩
          have ez : ((([] : List UInt8).length : Nat) : Int) = 0 := rfl
          rw [ez]; clear ez
          replace KX := KX.up hb1
          go_wp2_with fail
          have hm1 := HM.out
          go_roundg (gk - 1)
          case measure => omega
          case rel => exact ⟨j + 1, 3, ps, ts, by omega, by omega, by simp, rfl, by omega, by rw [hm1]; exact KX⟩
        · as_aux_lemma =>
          have dz : decide ((4000 : Int) < us.size) = true := by simp; omega
          clear hus
          go_wp2_with fail
          refine (len_any xp [] _ hrx).mono ?_
          rintro e wb ⟨rfl, hb1⟩
          have ez : ((([] : List UInt8).length : Nat) : Int) = 0 := rfl
          rw [ez]; clear ez
          replace KX := KX.up hb1
          go_wp2_with fail
          have hm1 := HM.out
          go_roundg (gk - 1)
          case measure => omega
          case rel => exact ⟨j + 1, 4, ps, ts, by omega, by omega, by simp, rfl, by omega, by rw [hm1]; exact KX⟩
    · as_aux_lemma =>
      obtain ⟨g7, cap7, rfl, b7, lt7, cp7, cells7⟩ := Rp.own_cell K.row7 K.pos
      obtain ⟨g8, cap8, rfl, b8, lt8, cp8, cells8⟩ := Rp.own_cell K.row8 K.pos
      clear cells7 cells8 b7 b8 lt7 lt8
      have hpl2 : ps.length ≤ 9223372036854775806 := by omega
      have hx : (decide (j < n) = false) ∨ (decide (j < n) = true ∧ decide ((j : Int) < 30) = false) := by
        by_cases l1 : j < n
        · exact .inr ⟨by simp [l1], by simp; omega⟩
        · exact .inl (by simp; omega)
      clear hlt
      rcases hx with hx | ⟨hx, hx2⟩
      all_goals
        go_wp2_with fail
        go_loopg [19] ps.length (fun k i wx => Rp.QInv w w2.heap.size (.slice (some ⟨g7, 0, none⟩) ps.length cap7) (.slice (some ⟨g8, 0, none⟩) ps.length cap8) ps ts k i wx)
        case atStart => exact ⟨0, by omega, rfl, K⟩
        case round =>
          obtain ⟨q, hqk, rfl, KQ⟩ := hrel
          by_cases hq : q < ps.length
          · obtain ⟨h7, cap7', e7, _, lt7, _, cells7⟩ := Rp.own_cell KQ.row7 KQ.pos
            obtain ⟨h8, cap8', e8, _, lt8, _, cells8⟩ := Rp.own_cell KQ.row8 KQ.pos
            obtain ⟨rfl, rfl⟩ : g7 = h7 ∧ cap7 = cap7' := by simpa using e7
            obtain ⟨rfl, rfl⟩ : g8 = h8 ∧ cap8 = cap8' := by simpa using e8
            clear e7 e8
            have hlen := KQ.len
            obtain ⟨hrq, htq⟩ := KQ.reps q hq
            have c7 := cells7 q (.pointer (ps.getD q none)) (by rw [List.getElem?_map, List.getD_eq_getElem?_getD, List.getElem?_eq_getElem hq]; simp)
            have c8 := cells8 q (.string (ts.getD q ByteArray.empty)) (by rw [List.take_of_length_le (by omega), List.getElem?_map, List.getD_eq_getElem?_getD, List.getElem?_eq_getElem (by omega)]; simp)
            clear cells7 cells8 hlen
            generalize ps.getD q none = pq at *
            generalize ts.getD q ByteArray.empty = tq at *
            have i1 : (q : Int) < (ps.length : Int) := by omega
            have i2 : (0 : Int) ≤ (q : Int) := by omega
            go_wp2_with fail
            go_region_held3 (fun v => v.cell? ⟨g7, q, none⟩ = some (.pointer pq) ∧ v.cell? ⟨g8, q, none⟩ = some (.string tq) ∧ Rp.Rep v pq tq.data.toList)
              (first
                | (refine ⟨?_, ?_, ?_⟩ <;> with_reducible (first | (refine Rp.cell_dr ?_; assumption) | (refine Rp.Rep.dr ?_; assumption)))
                | (go_split_ands; refine ⟨?_, ?_, ?_⟩ <;> with_reducible (first | (refine Rp.cell_up hb3 ?_; assumption) | (refine Rp.Rep.up hb3 ?_; assumption))))
              (first
                | (go_at_call 14; go_split_ands; refine (text_s pq tq _ (by assumption) (by omega)).mono ?_; rintro e wt ⟨rfl, hb3⟩))
            all_goals
              go_wp2_with fail
              go_roundg (ps.length - (q + 1))
              case measure => omega
              case rel => exact ⟨q + 1, by omega, by simp, (KQ.up (Below.refl _ _).drew).up hb3⟩
          · have dq : decide (q < ps.length) = false := by simp; omega
            go_wp2_with fail
            go_ret
            exact ⟨rfl, KQ.be⟩
end Go.Proofs.Ytnjcahcbeicblaa
