/- What the program's Matches and Empty answer, walked. -/
import Derived.Test.YtlobfmkaamgfeaaRzE
namespace Go.Proofs.Ytlobfmkaamgfeaa
set_option linter.unusedVariables false
set_option linter.unusedSimpArgs false
open Go.RowKit
/-- a text's bytes -/
def Px.by (s : ByteArray) (i : Nat) : Nat := (s.data.toList.getD i 0).toNat
/-- what Matches answers -/
def Px.mt (x : Rx) (s : ByteArray) : Bool := x.may 1 && (if s.size = 0 then x.emp else (Ps.run (Px.by s) x (fun j => j == 0) s.size).done)
theorem Px.mt_iff {x : Rx} (s : ByteArray) (h : x.may 1 = true) : Px.mt x s = true ↔ Rx.Go (Px.by s) s.size x 0 s.size := by
  have hw := (Rx.may_iff.1 h).1
  rw [Px.mt, h, Bool.true_and]
  split
  · rename_i h0
    rw [h0]; exact Rx.emp_iff (Px.by s) 0 x hw 0
  · rename_i h0
    rw [Ps.ok (Px.by s) s.size x hw (fun j => j == 0) s.size (Nat.le_refl _)]
    constructor
    · rintro ⟨j, _, hj, hg⟩
      have : j = 0 := by simpa using hj
      subst this; exact hg
    · intro hg; exact ⟨0, by omega, by simp, hg⟩
mutual
theorem Ps.wf_of : ∀ x : Rx, x.wf = true → (Ps.of x).wf
  | .node k f l, h => by
    rw [Ps.of]
    simp only [Ps.wf]
    simp only [Rx.wf, Bool.and_eq_true, Bool.not_eq_true', Bool.and_eq_false_imp, beq_iff_eq] at h
    refine ⟨fun e => ?_, Ps.wf_ofL l h.2⟩
    have := h.1.2 e
    cases l with
    | nil => simp at this
    | cons y r => simp [Ps.ofL]
theorem Ps.wf_ofL : ∀ l : List Rx, Rx.wfL l = true → Ps.wfL (Ps.ofL l)
  | [], _ => by simp [Ps.ofL, Ps.wfL]
  | x :: r, h => by
    simp only [Rx.wfL, Bool.and_eq_true] at h
    simp only [Ps.ofL, Ps.wfL]
    exact ⟨Ps.wf_of x h.1, Ps.wf_ofL r h.2⟩
end
mutual
theorem Ps.size_of : ∀ x : Rx, (Ps.of x).size = x.size
  | .node k f l => by rw [Ps.of]; simp only [Ps.size, Rx.size, Ps.size_ofL l]
theorem Ps.size_ofL : ∀ l : List Rx, Ps.sizeL (Ps.ofL l) = Rx.sizeL l
  | [] => rfl
  | x :: r => by simp only [Ps.ofL, Ps.sizeL, Rx.sizeL, Ps.size_of x, Ps.size_ofL r]
end
theorem Ps.run_wf (s : Nat → Nat) {x : Rx} (h : x.wf = true) (b : Nat → Bool) : ∀ q, (Ps.run s x b q).wf ∧ (Ps.run s x b q).size = x.size
  | 0 => ⟨Ps.wf_of x h, Ps.size_of x⟩
  | q + 1 => by
    have := Ps.run_wf s h b q
    rw [Ps.run]
    exact ⟨Ps.wf_read _ _ _ this.1, by rw [Ps.size_read]; exact this.2⟩
theorem Pm.Chg.to {w v v' : World} {b o : Nat} {F : List Nat} (A : Below w.heap.size w v) (h : Pm.Chg v v' b o F) (hb : w.heap.size ≤ b) (hF : ∀ g ∈ F, w.heap.size ≤ g) : Below w.heap.size w v' :=
  ⟨h.os.trans A.os, h.tape.trans A.tape, h.output.trans A.output, Nat.le_trans A.size h.size, fun k hk => (h.block k (Nat.lt_of_lt_of_le hk A.size) (by omega) (fun hm => by have := hF k hm; omega)).trans (A.block k hk)⟩
theorem Pm.In.lts {w : World} {y : Ps} {b o : Nat} {F : List Nat} (h : Pm.In w y b o F) : ∀ g ∈ b :: F, g < w.heap.size := fun g hg => by
  rcases List.mem_cons.1 hg with e | hg
  · rw [e]
    cases y
    obtain ⟨sl, C, _⟩ := Pm.in_iff.1 h
    exact World.block_lt_of_cell? w _ C.c0
  · exact h.lt g hg
set_option maxRecDepth 100000 in
set_option maxHeartbeats 2000000 in
theorem Matches_any (x : Rx) (v : Value) (s : ByteArray) (w : World) (hx : Rx.Is w x v) (hs : s.size ≤ maxLen) : Calls Try.prog 13 #[v, .string s] w (Bs.BPost w (Px.mt x s)) := by
  unfold maxLen at hs
  have hv : ∃ k f b n c, v = Rx.hdr k f b n c := by
    cases x
    obtain ⟨_, b, c, e, _⟩ := hx
    exact ⟨_, _, b, _, c, e⟩
  obtain ⟨k, f, b, n, c, rfl⟩ := hv
  have A := Bs.below1 w (.cells #[.int .u8 k, .int .u64 (Bs.word f 0), .int .u64 (Bs.word f 1), .int .u64 (Bs.word f 2), .int .u64 (Bs.word f 3), .slice b n c] 28)
  have N := Rx.nod_new w k f b n c
  have X := hx.up A
  clear hx
  have c0 := N.cell.c0; have c1 := N.cell.c1; have c2 := N.cell.c2; have c3 := N.cell.c3; have c4 := N.cell.c4; have c5 := N.cell.c5
  simp only [Nat.zero_add] at c0 c1 c2 c3 c4 c5
  have RT := Lib.hid (Right_any x _ _ X)
  unfold Rx.hdr at X RT ⊢
  have HM := Lib.hid (show Px.mt x s = _ from rfl)
  go_enter Try.func13, Try.ntmps13
  go_wp2_with fail
  generalize w.alloc (.cells #[.int .u8 k, .int .u64 (Bs.word f 0), .int .u64 (Bs.word f 1), .int .u64 (Bs.word f 2), .int .u64 (Bs.word f 3), .slice b n c] 28) = W at *
  refine RT.out.mono ?_
  rintro e w1 ⟨rfl, hb⟩
  replace N := N.up hb
  replace A := Bs.below_up A hb
  replace X := X.up hb
  clear hb RT c0 c1 c2 c3 c4 c5
  cases hm : x.may 1
  · have HM2 := Lib.hid (show Px.mt x s = false by rw [Px.mt, hm]; rfl)
    clear HM hm
    go_wp2_with fail
    go_ret
    exact ⟨by rw [HM2.out]; rfl, A⟩
  have hsz4 := (Rx.may_iff.1 hm).2.2
  have hwf := (Rx.may_iff.1 hm).1
  have c0 := N.cell.c0; have c1 := N.cell.c1; have c2 := N.cell.c2; have c3 := N.cell.c3; have c4 := N.cell.c4; have c5 := N.cell.c5
  simp only [Nat.zero_add] at c0 c1 c2 c3 c4 c5
  have HX := Lib.hid X
  clear X
  by_cases h0 : s.size = 0
  · have HM2 := Lib.hid (show Px.mt x s = x.emp by rw [Px.mt, hm, if_pos h0]; rfl)
    have e0 := Px.empty h0
    have EM := Lib.hid (empty_any 400 x hsz4 (by omega) _ w1 HX.out)
    clear HM hm HX
    go_wp2_with fail
    refine EM.out.mono ?_
    rintro e w2 ⟨rfl, hb⟩
    replace A := Bs.below_up A hb
    clear hb EM c0 c1 c2 c3 c4 c5 N
    go_wp2_with fail
    go_ret
    exact ⟨by rw [HM2.out]; rfl, A⟩
  have HM2 := Lib.hid (show Px.mt x s = (Ps.run (Px.by s) x (fun j => j == 0) s.size).done by rw [Px.mt, hm, if_neg h0]; rfl)
  have e0 := Px.not_empty (s := s) (by omega)
  have PO := Lib.hid (partOf_any 400 x hsz4 (by omega) _ w1 HX.out)
  have hsz : w.heap.size ≤ w1.heap.size := A.size
  clear HM hm HX
  go_wp2_with fail
  refine PO.out.mono ?_
  rintro e w2 ⟨v2, F, rfl, iP, nd, hF, fz, hb⟩
  replace A := Bs.below_up A hb
  have hsz2 : w1.heap.size ≤ w2.heap.size := hb.size
  clear hb PO c0 c1 c2 c3 c4 c5 N
  have q0 := iP.form
  obtain ⟨k2, f2, sl2, e2, d2, e3, n3, hsl⟩ := q0
  have hsl2 : ∃ a9 n9 c9, sl2 = .slice a9 n9 c9 := by
    rcases hsl with ⟨h, _⟩ | ⟨g, cap, h⟩
    · exact ⟨_, _, _, h⟩
    · exact ⟨_, _, _, h⟩
  obtain ⟨a9, n9, c9, rfl⟩ := hsl2
  subst e3
  have B1 := Bs.below1 w2 (.cells #[.int .u8 k2, .int .u64 (Bs.word f2 0), .int .u64 (Bs.word f2 1), .int .u64 (Bs.word f2 2), .int .u64 (Bs.word f2 3), .slice a9 n9 c9, .bool e2, .bool d2] 54)
  have NP := Pm.nod_new w2 k2 f2 (.slice a9 n9 c9) e2 d2
  have I0 : Pm.In (w2.alloc (.cells #[.int .u8 k2, .int .u64 (Bs.word f2 0), .int .u64 (Bs.word f2 1), .int .u64 (Bs.word f2 2), .int .u64 (Bs.word f2 3), .slice a9 n9 c9, .bool e2, .bool d2] 54)) (Ps.of x) w2.heap.size 0 F := by
    have iP2 := iP.up B1
    have NC := NP.cell
    generalize w2.alloc (.cells #[.int .u8 k2, .int .u64 (Bs.word f2 0), .int .u64 (Bs.word f2 1), .int .u64 (Bs.word f2 2), .int .u64 (Bs.word f2 3), .slice a9 n9 c9, .bool e2, .bool d2] 54) = V0 at iP2 NC ⊢
    generalize Ps.of x = y at iP2
    obtain ⟨ky, fy, ly, ey, dy⟩ := y
    obtain ⟨sl', he, hk⟩ := iP2
    simp only [Pm.hdr, Value.agg.injEq, Array.mk.injEq, List.cons.injEq, Value.int.injEq, Value.bool.injEq, true_and, and_true] at he
    obtain ⟨a1, a2, a3, a4, a5, a6, a7, a8⟩ := he
    obtain ⟨q0, q1, q2, q3, q4, q5, q6, q7⟩ := NC
    rw [a1] at q0; rw [a2] at q1; rw [a3] at q2; rw [a4] at q3; rw [a5] at q4; rw [a6] at q5; rw [a7] at q6; rw [a8] at q7
    exact Pm.in_iff.2 ⟨sl', ⟨q0, q1, q2, q3, q4, q5, q6, q7⟩, hk⟩
  have hPF : w2.heap.size ∉ F := fun hm => by have := iP.lt _ hm; omega
  have Z0 : Pm.Fz (w2.alloc (.cells #[.int .u8 k2, .int .u64 (Bs.word f2 0), .int .u64 (Bs.word f2 1), .int .u64 (Bs.word f2 2), .int .u64 (Bs.word f2 3), .slice a9 n9 c9, .bool e2, .bool d2] 54)) (w2.heap.size :: F) := fun g hg j => by
    rcases List.mem_cons.1 hg with e | hg
    · rw [e]; simp [go_sem]
    · exact fz.up B1 iP.lt g hg j
  replace A := Bs.below_up A B1
  unfold Pm.hdr
  clear iP fz B1 NP
  go_wp2_with fail
  generalize w2.alloc (.cells #[.int .u8 k2, .int .u64 (Bs.word f2 0), .int .u64 (Bs.word f2 1), .int .u64 (Bs.word f2 2), .int .u64 (Bs.word f2 3), .slice a9 n9 c9, .bool e2, .bool d2] 54) = V at *
  have hP : w.heap.size ≤ w2.heap.size := by omega
  generalize w2.heap.size = P at *
  have hFw : ∀ g ∈ F, w.heap.size ≤ g := fun g hg => by have := hF g hg; omega
  go_loopw [18] (fun i wr => ∃ q : Nat, q ≤ s.size ∧ i = .int .i64 q ∧ Pm.In wr (Ps.run (Px.by s) x (fun j => j == 0) q) P 0 F ∧ Pm.Fz wr (P :: F) ∧ Below w.heap.size w wr) (fun i _ => s.size - (intOf i).toNat)
  case atStart => exact ⟨0, by omega, rfl, I0, Z0, A⟩
  case round =>
    clear I0 Z0 A
    obtain ⟨q, hq, rfl, I, Z, A⟩ := hrel
    by_cases hlt : q < s.size
    · have hby : Px.by s q = s[q].toNat := by
        unfold Px.by
        rw [List.getD_eq_getElem?_getD, List.getElem?_eq_getElem (by simpa using hlt)]
        simp; rfl
      have hw := Ps.run_wf (Px.by s) hwf (fun j => j == 0) q
      have RD := pread_any (Px.by s q) (by rw [hby]; exact s[q].toNat_lt) 400 (by omega) _ (by rw [hw.2]; exact hsz4) hw.1 P 0 F wr (q == 0) I nd hPF Z
      rw [show Ps.read (Px.by s q) (Ps.run (Px.by s) x (fun j => j == 0) q) (q == 0) = Ps.run (Px.by s) x (fun j => j == 0) (q + 1) from rfl, hby] at RD
      have RD := Lib.hid RD
      have hlts := I.lts
      have e9 : ((q : Int) == 0) = (q == 0) := by rw [Bool.eq_iff_iff]; simp
      clear hby hw I
      go_wp2_with fail
      refine RD.out.mono ?_
      rintro e w3 ⟨rfl, I2, ch⟩
      have A2 := ch.to A hP hFw
      have Z2 := Z.chg ch hlts
      clear RD ch A Z e9
      go_wp2_with fail
      go_roundw
      case rel => exact ⟨q + 1, by omega, by go_num, I2, Z2, A2⟩
      case measure => simp [intOf]; omega
    · have e : q = s.size := by omega
      subst e
      generalize hy : Ps.run (Px.by s) x (fun j => j == 0) s.size = y at *
      have HM3 := Lib.hid (show Px.mt x s = y.done by rw [HM2.out])
      clear HM2 hy
      obtain ⟨ky, fy, ly, ey, dy⟩ := y
      obtain ⟨sl', C, _⟩ := Pm.in_iff.1 I
      have c7 := C.c7
      simp only [Nat.zero_add] at c7
      simp only [Ps.done] at HM3
      clear C I
      go_wp2_with fail
      go_ret
      exact ⟨by rw [HM3.out]; rfl, A⟩
set_option maxRecDepth 100000 in
set_option maxHeartbeats 1000000 in
theorem Empty_any (x : Rx) (v : Value) (w : World) (hx : Rx.Is w x v) : Calls Try.prog 14 #[v] w (Bs.BPost w (x.may 1 && x.emp)) := by
  have hv : ∃ k f b n c, v = Rx.hdr k f b n c := by
    cases x
    obtain ⟨_, b, c, e, _⟩ := hx
    exact ⟨_, _, b, _, c, e⟩
  obtain ⟨k, f, b, n, c, rfl⟩ := hv
  have A := Bs.below1 w (.cells #[.int .u8 k, .int .u64 (Bs.word f 0), .int .u64 (Bs.word f 1), .int .u64 (Bs.word f 2), .int .u64 (Bs.word f 3), .slice b n c] 28)
  have N := Rx.nod_new w k f b n c
  have X := hx.up A
  clear hx
  have c0 := N.cell.c0; have c1 := N.cell.c1; have c2 := N.cell.c2; have c3 := N.cell.c3; have c4 := N.cell.c4; have c5 := N.cell.c5
  simp only [Nat.zero_add] at c0 c1 c2 c3 c4 c5
  have RT := Lib.hid (Right_any x _ _ X)
  unfold Rx.hdr at X RT ⊢
  go_enter Try.func14, Try.ntmps14
  go_wp2_with fail
  generalize w.alloc (.cells #[.int .u8 k, .int .u64 (Bs.word f 0), .int .u64 (Bs.word f 1), .int .u64 (Bs.word f 2), .int .u64 (Bs.word f 3), .slice b n c] 28) = W at *
  refine RT.out.mono ?_
  rintro e w1 ⟨rfl, hb⟩
  replace N := N.up hb
  replace A := Bs.below_up A hb
  replace X := X.up hb
  clear hb RT c0 c1 c2 c3 c4 c5
  cases hm : x.may 1
  · have HM := Lib.hid hm
    clear hm
    go_wp2_with fail
    go_ret
    exact ⟨by rw [HM.out]; rfl, A⟩
  have hsz4 := (Rx.may_iff.1 hm).2.2
  have c0 := N.cell.c0; have c1 := N.cell.c1; have c2 := N.cell.c2; have c3 := N.cell.c3; have c4 := N.cell.c4; have c5 := N.cell.c5
  simp only [Nat.zero_add] at c0 c1 c2 c3 c4 c5
  have EM := Lib.hid (empty_any 400 x hsz4 (by omega) _ w1 X)
  have HM := Lib.hid hm
  clear X hm
  go_wp2_with fail
  refine EM.out.mono ?_
  rintro e w2 ⟨rfl, hb⟩
  replace A := Bs.below_up A hb
  clear hb EM c0 c1 c2 c3 c4 c5 N
  go_wp2_with fail
  go_ret
  exact ⟨by rw [HM.out]; rfl, A⟩
end Go.Proofs.Ytlobfmkaamgfeaa
