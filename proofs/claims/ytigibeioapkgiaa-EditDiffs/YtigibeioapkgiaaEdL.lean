/- The document's 'Same' and 'Back', walked. -/
import Derived.Test.YtigibeioapkgiaaEdG
import Derived.Test.YtigibeioapkgiaaEdJ
namespace Go.Proofs.Ytigibeioapkgiaa
set_option linter.unusedVariables false
set_option linter.unusedSimpArgs false
open Go.RowKit
set_option maxRecDepth 100000 in
set_option maxHeartbeats 1000000 in
theorem refSame_yes (a b : Option Addr) (es : List Ed.E) (cap cap' : Nat) (w : World) (hA : Ed.Row w a es) (hB : Ed.Row w b es) (hl : es.length ≤ 1000) :
    Calls Try.prog 19 #[.slice a es.length cap, .slice b es.length cap'] w (Rp.BPost w true) := by
  have HA := Lib.hid hA; clear hA
  have HB := Lib.hid hB; clear hB
  have d0 : ((es.length : Int) == (es.length : Int)) = true := by simp
  go_enter Try.func19, Try.ntmps19
  go_wp2_with fail
  go_loopg [5] es.length (fun g v5 wr => ∃ k : Nat, g + k = es.length ∧ v5 = .int .i64 k ∧ Below w.heap.size w wr)
  case atStart => exact ⟨0, by omega, rfl, Below.refl _ _⟩
  case round =>
    obtain ⟨k, hgk, rfl, B⟩ := hrel
    by_cases hk : k < es.length
    · obtain ⟨x, rfl, hE⟩ := HA.out k hk
      obtain ⟨y, rfl, hF⟩ := HB.out k hk
      obtain ⟨e0, e1, e2⟩ := hE.up B
      obtain ⟨f0, f1, f2⟩ := hF.up B
      have k1 : (0 : Int) ≤ (k : Int) := by omega
      have k2 : (k : Int) < (es.length : Int) := by omega
      generalize es[k] = e at *
      obtain ⟨p, d, u⟩ := e
      simp only at e0 e1 e2 f0 f1 f2
      go_wp2_with fail
      go_quiet (fail)
      go_wp2_with fail
      go_roundg (gk - 1)
      case measure => omega
      exact ⟨k + 1, by omega, by go_num, Rp.below_drewN B _⟩
    · have k2 : ¬ (k : Int) < (es.length : Int) := by omega
      go_wp2_with fail
      go_ret
      exact ⟨rfl, B⟩
/-- edits are answered -/
def Ed.ListPost (w : World) (es : List Ed.E) (e : Ending) (w' : World) : Prop := ∃ a cap, e = .returned (.slice a es.length cap) ∧ Ed.Row w' a es ∧ Below w.heap.size w w'
def Ed.ZInv (w : World) (s : ByteArray) (es : List Ed.E) (g : Nat) (v5 v6 : Value) (wr : World) : Prop :=
  ∃ (k : Nat), g + k = es.length ∧ v6 = .int .i64 k ∧ Ed.Own w.heap.size v5 ((Ed.bk s 0 es).take k) wr ∧ Below w.heap.size w wr
set_option maxRecDepth 100000 in
set_option maxHeartbeats 1000000 in
theorem refBack_any (s : ByteArray) (a : Option Addr) (es : List Ed.E) (cap : Nat) (w : World) (hs : s.size ≤ 1000000) (hR : Ed.Row w a es) (hW : Ed.Wf es) (hM : Ed.May s.size 0 es) (hcap : es.length ≤ cap) (hcap2 : cap ≤ maxLen) :
    Calls Try.prog 20 #[.string s, .slice a es.length cap] w (Ed.ListPost w (Ed.bk s 0 es)) := by
  have HR := Lib.hid hR; clear hR
  have HW := Lib.hid hW; clear hW
  have HM := Lib.hid hM; clear hM
  have hl := HW.out.len
  obtain ⟨iE, hiE⟩ : ∃ i, Try.prog.info? 46 = some i := by
    have := Ed.infoEdit
    cases h : Try.prog.info? 46 with
    | none => rw [h] at this; simp at this
    | some i => exact ⟨i, rfl⟩
  have hz := Ed.infoEdit
  rw [hiE] at hz
  simp at hz
  obtain ⟨hz0, hz1, hz2⟩ := hz
  go_enter Try.func20, Try.ntmps20
  go_wp2_with fail
  go_loopg [5, 6] es.length (fun g v5 v6 wr => Ed.ZInv w s es g v5 v6 wr)
  case atStart => exact ⟨0, by omega, rfl, Ed.own_nil _ _, Below.refl _ _⟩
  case round =>
    obtain ⟨k, hgk, rfl, O, B⟩ := hrel
    by_cases hk : k < es.length
    · obtain ⟨x, rfl, hE⟩ := HR.out k hk
      have HE0 := Lib.hid hE
      obtain ⟨e0, e1, e2⟩ := hE.up B
      clear hE
      obtain ⟨z1, z2, z3, z4, z5⟩ := HW.out.each es[k] (List.getElem_mem hk)
      obtain ⟨y1, y2, y3, _⟩ := Ed.May.drop k hk HM.out
      have mt := Ed.May.take k hk HM.out (by omega)
      have HMT := Lib.hid mt; clear mt
      have HT := Lib.hid (Ed.bk_take s es k hk)
      have hbl : ((Ed.bk s 0 es).take k).length = k := by rw [List.length_take, Ed.bk_len]; omega
      have HBL := Lib.hid hbl; clear hbl
      generalize es[k] = e at *
      obtain ⟨F, hF⟩ := Int.eq_ofNat_of_zero_le y1
      obtain ⟨D, hD⟩ := Int.eq_ofNat_of_zero_le y2
      have HF := Lib.hid hF
      have HD := Lib.hid hD
      rw [hF] at e0
      rw [hD] at e1
      have i1 : (0 : Int) ≤ (F : Int) := by omega
      have i2 : (F : Int) ≤ (s.size : Int) := by omega
      have i5 : F + D ≤ s.size := by omega
      have k1 : (0 : Int) ≤ (k : Int) := by omega
      have k2 : (k : Int) < (es.length : Int) := by omega
      have k3 : (k : Int) ≤ (cap : Int) := by omega
      have k4 : k ≤ cap := by omega
      have hF2 : F = e.pos.toNat := by omega
      have eT : (es.take k).length = k := by rw [List.length_take]; omega
      have W1 : Ed.Wf (es.take k) := ⟨by rw [eT]; omega, fun e he => HW.out.each e (List.mem_of_mem_take he)⟩
      have AP := fun (v : World) (h : Below w.heap.size w v) => refApply_any (s.extract 0 F) (some x) (es.take k) cap v (by simp; omega) ((HR.out.up h).take k) W1 (by rw [show (s.extract 0 F).size = F by simp; omega, hF2]; exact HMT.out)
      rw [eT] at AP
      have HAP := Lib.hid AP
      have hTs : ((Rp.ofL (Ed.app ((s.data.toList).take F) (es.take k))).size : Int) = F + Ed.grows (es.take k) := by
        rw [Rp.ofL_size, Ed.app_len _ (t := 0) (by rw [List.length_take, Rn.len_data0, Nat.min_eq_left (by omega), hF2]; exact HMT.out) (by omega) (by omega), List.length_take, Rn.len_data0, Nat.min_eq_left (by omega)]
      have xF : F ≤ s.size := by omega
      clear AP eT W1 hF hD hF2 y1 y2 y3
      go_wp2_with fail
      go_region_held3 (fun v => v.cell? (x.add (k * 3)) = some (.int .i64 F) ∧ Below w.heap.size w v)
        (first
          | (refine ⟨?_, ?_⟩ <;> with_reducible (first | (refine Rp.cell_dr ?_; assumption) | (refine Rp.below_dr ?_; assumption)))
          | (go_split_ands; refine ⟨?_, ?_⟩ <;> with_reducible (first | (refine Rp.cell_up hb2 ?_; assumption) | (refine Rp.below_up ?_ hb2; assumption))))
        (first
          | (go_at_call 15; go_split_ands; refine (HAP.out _ (by assumption)).mono ?_; rintro r w2 ⟨rfl, hb2⟩))
      all_goals
        rename_i hH
        obtain ⟨_, B2⟩ := hH
        have hb3 := Rp.below_up (Below.refl _ _).drew hb2
        replace e0 := Rp.cell_up hb3 e0
        replace e1 := Rp.cell_up hb3 e1
        replace e2 := Rp.cell_up hb3 e2
        replace O := O.up hb3
        clear hb2 hb3 B
        generalize Rp.ofL (Ed.app ((s.data.toList).take F) (es.take k)) = T at *
        have HTS := Lib.hid hTs
        clear hTs
        have hw : IntKind.i64.wrap ((F : Int) + (D : Int)) = ((F + D : Nat) : Int) := by rw [IntWalk.i64_in _ (by omega)]; omega
        have i3 : (0 : Int) ≤ ((F + D : Nat) : Int) := by omega
        have i4 : ((F + D : Nat) : Int) ≤ (s.size : Int) := by omega
        have i6 : (F : Int) ≤ ((F + D : Nat) : Int) := by omega
        have i7 : F ≤ F + D := by omega
        have i8 : (0 : Int) ≤ (F : Int) + (D : Int) := by omega
        have i9 : (F : Int) + (D : Int) ≤ (s.size : Int) := by omega
        have i10 : (F : Int) ≤ (F : Int) + (D : Int) := by omega
        have i11 : ((F : Int) + (D : Int)).toNat = F + D := by omega
        go_wp2_with fail
        obtain ⟨b, hb⟩ : ∃ b : Ed.E, b = ⟨(T.size : Int), (e.ins.size : Int), s.extract F (F + D)⟩ := ⟨_, rfl⟩
        have q0 : (T.size : Int) = b.pos := by rw [hb]
        have q1 : (e.ins.size : Int) = b.del := by rw [hb]
        have q2 : s.extract F (F + D) = b.ins := by rw [hb]
        have HB := Lib.hid hb; clear hb
        have hb4 := Rp.below_dr (Rp.below_al w2 (.cells #[.int .i64 T.size, .int .i64 e.ins.size, .string (s.extract F (F + D))] 46))
        have B4 := Rp.below_up B2 hb4
        have O4 := O.up hb4
        have O1 := O4.1
        rw [HBL.out] at O1
        have hbs := B4.size
        have nw : ∀ j u, [Value.int .i64 T.size, Value.int .i64 e.ins.size, Value.string (s.extract F (F + D))][j]? = some u → (w2.alloc (.cells #[.int .i64 T.size, .int .i64 e.ins.size, .string (s.extract F (F + D))] 46)).drew.cell? ((⟨w2.heap.size, 0, none⟩ : Addr).add j) = some u := World.news_of_block (cs := #[.int .i64 T.size, .int .i64 e.ins.size, .string (s.extract F (F + D))]) (t := 46) (fr := (0, 0)) (heap_alloc_new w2 _)
        clear q0 q1 q2
        obtain ⟨s0, s1, s2⟩ := HE0.out
        rw [HF.out] at s0
        rw [HD.out] at s1
        go_region_held3 (fun v => v.cell? (x.add (k * 3)) = some (.int .i64 F) ∧ v.cell? ⟨(x.add (k * 3)).block, (x.add (k * 3)).off + 1, none⟩ = some (.int .i64 D) ∧ v.cell? ⟨(x.add (k * 3)).block, (x.add (k * 3)).off + 2, none⟩ = some (.string e.ins))
          (first
            | (refine ⟨?_, ?_, ?_⟩ <;> with_reducible (first | (refine Rp.cell_dr ?_; assumption)))
            | (go_split_ands; refine ⟨?_, ?_, ?_⟩ <;> with_reducible (first | (refine Rp.cell_dr (Rp.cell_al ?_); assumption)))
            | (go_split_ands; refine ⟨?_, ?_, ?_⟩ <;> with_reducible (first | (refine Rp.cell_up B5 ?_; assumption))))
          (first
            | (refine step_append_lies _ rfl (.tmp 25) (.tmp 53) 22 rfl w.heap.size 46 iE _ 3 32 Try.underlying22 hiE hz0 hz1 hz2 rfl (by decide) u5 k _ rfl O1 ⟨w2.heap.size, 0, none⟩ 1 1 [.int .i64 T.size, .int .i64 e.ins.size, .string (s.extract F (F + D))] rfl rfl nw (by simp [Value.oneCell']) (by decide) (by unfold maxLen; omega) (by omega) hbs _ rfl ?_; intro g7 cap7 w4 o7 gr7 n7 lt7; have B5 := B4.grown gr7 B4.size (fun k hk => O4.ge k hk)))
        all_goals
          have O6 : Ed.Own w.heap.size (.slice (some ⟨g7, 0, none⟩) (k + 1) cap7) ((Ed.bk s 0 es).take (k + 1)) w4 := by
            have h1 : e.pos + Ed.grows (es.take k) = T.size := by rw [HTS.out, HF.out]
            have h2 : e.pos.toNat = F := by rw [HF.out]; rfl
            have h3 : (e.pos + e.del).toNat = F + D := by rw [HF.out, HD.out]; omega
            have h4 := HT.out
            rw [h1, h2, h3] at h4
            rw [h4]
            refine ⟨?_, fun h => by simp at h⟩
            rw [Ed.cells_append, List.length_append, HBL.out]
            exact o7
          clear O1 O4 O nw o7 gr7 n7 hb4 B4 hbs s0 s1 s2 e0 e1 e2
          go_wp2_with fail
          go_roundg (gk - 1)
          case measure => omega
          exact ⟨k + 1, by omega, by go_num, O6, B5⟩
    · have hbl : (Ed.bk s 0 es).take k = Ed.bk s 0 es := List.take_of_length_le (by rw [Ed.bk_len]; omega)
      rw [hbl] at O
      obtain ⟨a', cap', e1, R⟩ := O.slice
      have k2 : ¬ (k : Int) < (es.length : Int) := by omega
      clear O hbl
      subst e1
      go_wp2_with fail
      go_ret
      exact ⟨a', cap', rfl, R, B⟩
end Go.Proofs.Ytigibeioapkgiaa
