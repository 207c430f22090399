/- What the document's Build answers, walked. -/
import Derived.Test.YtnbbepgjpfhjdaaG26
namespace Go.Proofs.Ytnbbepgjpfhjdaa
set_option linter.unusedVariables false
set_option linter.unusedSimpArgs false
open Go.RowKit
theorem Nr.stepZ_append_none {P : Program} {ρ : Operand → Value} {o : Oper} {w : World} {Z : List PanicEntry → World → Prop} {R : Value → World → Prop} (s x : Operand) (t : TypeId)
    (ho : o.op = .call { callee := .builtin .append, args := #[s, x], argTypes := #[t, t] })
    (base : Nat) (e : TypeId) (i : TypeInfo) (size : Nat) (ht : P.underlying t = some (.slice e)) (hi : P.info? e = some i)
    (v : Value) (n : Nat) (xs : List Value) (hs : ρ s = v) (hown : w.ownsRow base e size v n xs) (hx : ρ x = .slice none 0 0) (h : R v w) : Rg.stepZ P ρ o w Z R := by
  have hrun := run_append_owned_none (P := P) (w := w) base t o.type e i size ht hi v n xs hown
  unfold Rg.stepZ execOp
  simp only [ho, resolve, invoke, builtin, Sem.run_bind, Sem.run_pure, Result.andThen_ok, List.map_toArray, List.map_cons, List.map_nil, hs, hx, hrun]
  exact h
theorem Nr.set_cells (gs : List (Nat → Bool)) : ∀ u ∈ Sr.cells gs, u.oneCell' = true := by
  intro u hu
  simp only [Sr.cells, List.mem_flatMap] at hu
  obtain ⟨f, _, hu⟩ := hu
  simp at hu
  rcases hu with rfl | rfl | rfl | rfl <;> rfl
theorem Nr.post_no {w : World} {l : List Rx} {e : Ending} {w' : World} {c : Nat} (h : Ng.code l = c) (hc : c ≠ 0) (he : e = .returned (.tuple #[.pointer none, .int .i64 c])) (hb : Below w.heap.size w w') : Nr.BPost w l e w' := by
  unfold Nr.BPost
  rw [h, if_neg hc]
  exact ⟨he, hb⟩
theorem Nr.post_yes {w : World} {l : List Rx} {e : Ending} {w' : World} (h : Ng.code l = 0) (hx : ∃ r vS vA v2 v3 As Ls so sr, e = .returned (.tuple #[.pointer (some ⟨r, 0, none⟩), .int .i64 0]) ∧ Nr.Mc w' r l vS vA v2 v3 As Ls so sr ∧ Below w.heap.size w w') : Nr.BPost w l e w' := by
  unfold Nr.BPost
  rw [if_pos h]
  exact hx
theorem Nr.ones_len {l : List Int} {P : Nat → Prop} (h : Nf.Rise l P) {m : Nat} (hP : ∀ p, P p → p < m) : l.length ≤ m := (Nh.rise_len h m hP).1
theorem Nr.sizeL_snoc (y : Rx) : ∀ xs : List Rx, Rx.sizeL (xs ++ [y]) = Rx.sizeL xs + y.size
  | [] => by simp [Rx.sizeL]
  | x :: r => by simp only [List.cons_append, Rx.sizeL, Nr.sizeL_snoc y r]; omega
set_option maxRecDepth 100000 in
set_option maxHeartbeats 6000000 in
theorem refBuild_any (l : List Rx) (hlen : l.length ≤ 1000) (al : Option Addr) (cap : Nat) (w : World) (hl : Rx.InL w l al 0) : Calls Try.prog 12 #[.slice al l.length cap] w (Nr.BPost w l) := by
  have HL := Lib.hid hl
  have HCD := Lib.hid (Ng.code.eq_def l)
  clear hl
  obtain ⟨n, hn⟩ : ∃ n, l.length = n := ⟨_, rfl⟩
  have HN := Lib.hid hn
  rw [hn] at hlen HCD ⊢
  clear hn
  go_enter Try.func12, Try.ntmps12
  go_wp2_with fail
  go_loopw [4, 5] (fun m i wr => ∃ q : Nat, q ≤ n ∧ i = .int .i64 q ∧ m = .int .i64 (Rx.sizeL (l.take q) : Nat) ∧ Hid (∀ x ∈ l.take q, x.may 1 = true) ∧ Below w.heap.size w wr) (fun _ i _ => n - (intOf i).toNat)
  case atStart => exact ⟨0, by omega, rfl, by simp [Rx.sizeL], Lib.hid (by simp), Below.refl _ _⟩
  case round =>
    obtain ⟨q, hq, rfl, rfl, HM, A⟩ := hrel
    have hsz : Rx.sizeL (l.take q) ≤ 400 * 1000 := by
      have := Ng.size_all (l.take q) (fun x hx => (Rx.may_iff.1 (HM.out x hx)).2.2)
      rw [List.length_take] at this
      omega
    by_cases hlt : q < n
    · have hlt' : q < l.length := by rw [HN.out]; exact hlt
      obtain ⟨p, rfl, hp⟩ := HL.out.get q hlt'
      rw [Nat.zero_add] at hp
      have HTK := Lib.hid (List.take_succ_eq_append_getElem hlt')
      have HMEM := Lib.hid (List.getElem_mem hlt')
      have HSZ := Lib.hid (show Rx.sizeL (l.take (q + 1)) = Rx.sizeL (l.take q) + l[q].size by rw [HTK.out, Nr.sizeL_snoc])
      generalize l[q] = y at *
      obtain ⟨k1, f1, a1, n1, cap1, ⟨x0, x1, x2, x3, x4, x5⟩, hi⟩ := hp.open
      replace x0 := Bs.cell_up A x0; replace x1 := Bs.cell_up A x1; replace x2 := Bs.cell_up A x2; replace x3 := Bs.cell_up A x3; replace x4 := Bs.cell_up A x4; replace x5 := Bs.cell_up A x5
      have C := Lib.hid (refCount_any y.size y (Nat.le_refl _) _ 1 wr (hi.up A) (by decide) (by decide))
      unfold Rx.hdr at C
      have i1 : (0 : Int) ≤ (q : Int) := by omega
      have i2 : (q : Int) < (n : Int) := by omega
      clear hp hi
      generalize Rx.sizeL (l.take q) = sm at *
      go_wp2_with fail
      refine C.out.mono ?_
      rintro e w1 ⟨rfl, b1⟩
      replace A := Bs.below_up A b1
      clear C b1 x0 x1 x2 x3 x4 x5
      rw [Rx.cnt_eq y 1 (by decide)]
      cases hy : y.may 1
      case false =>
        simp only [Bool.false_eq_true, if_false, Rx.cntI]
        have HCE := Lib.hid (show Ng.code l = 1 by
          rw [HCD.out, if_pos]
          rw [Bool.or_eq_true]
          exact .inr (List.any_eq_true.2 ⟨y, HMEM.out, by simp [hy]⟩))
        clear hy
        go_wp2_with fail
        go_ret2
        exact Nr.post_no HCE.out (by decide) rfl A
      case true =>
        have HYM := Lib.hid hy
        have hys := (Rx.may_iff.1 hy).2.2
        simp only [if_true, Rx.cntI]
        have HM2 := Lib.hid (show ∀ x ∈ l.take (q + 1), x.may 1 = true by
          intro x hx
          rw [HTK.out, List.mem_append, List.mem_singleton] at hx
          rcases hx with hx | rfl
          · exact HM.out x hx
          · exact HYM.out)
        clear hy
        obtain ⟨sy, hsy⟩ : ∃ sy, y.size = sy := ⟨_, rfl⟩
        rw [hsy] at HSZ hys ⊢
        clear hsy
        have e3 : decide ((sy : Int) < 0) = false := decide_eq_false (by omega)
        have i3 : IntKind.i64.wrap ((sm : Int) + (sy : Int)) = ((sm + sy : Nat) : Int) := by rw [IntWalk.i64_in _ (by omega)]; omega
        go_wp2_with fail
        go_roundw
        case rel => exact ⟨q + 1, by omega, by go_num, by rw [HSZ.out]; go_num, HM2, A⟩
        case measure => simp [intOf]; omega
    · have ht : l.take q = l := List.take_of_length_le (by rw [HN.out]; omega)
      have hqn : q = n := by omega
      subst hqn
      rw [ht] at HM hsz ⊢
      clear ht hlt
      by_cases h0 : q = 0
      · subst h0
        have hl0 : l = [] := List.length_eq_zero_iff.1 HN.out
        have HCE := Lib.hid (show Ng.code l = 1 by rw [hl0]; decide)
        clear hl0
        go_wp2_with fail
        go_ret2
        exact Nr.post_no HCE.out (by decide) rfl A
      have hne : l.isEmpty = false := by
        have := HN.out
        cases l with
        | nil => simp at this; omega
        | cons => rfl
      have hany : (l.any fun x => !x.may 1) = false := List.any_eq_false.2 (fun x hx => by simp [HM.out x hx])
      rw [hne, hany, Bool.false_or] at HCD
      simp only [Bool.false_eq_true, if_false] at HCD
      clear hne hany
      have e0 : ((q : Int) == 0) = false := by simp; omega
      obtain ⟨sm, hsm⟩ : ∃ sm, Rx.sizeL l = sm := ⟨_, rfl⟩
      have HSM := Lib.hid hsm
      rw [hsm] at HCD hsz ⊢
      clear hsm
      by_cases h32 : 32 < q
      · have e1 : decide ((32 : Int) < (q : Int)) = true := decide_eq_true (by omega)
        have e2 : decide (32 < q) = true := decide_eq_true h32
        rw [e2, Bool.true_or, if_pos rfl] at HCD
        clear e2
        go_wp2_with fail
        go_ret2
        exact Nr.post_no HCD.out (by decide) rfl A
      have e1 : decide ((32 : Int) < (q : Int)) = false := decide_eq_false (by omega)
      have e2 : decide (32 < q) = false := decide_eq_false h32
      by_cases h2k : 2000 < sm
      · have e4 : decide ((2000 : Int) < (sm : Int)) = true := decide_eq_true (by omega)
        have e5 : decide (2000 < sm) = true := decide_eq_true h2k
        rw [e2, e5, Bool.false_or, if_pos rfl] at HCD
        clear e2 e5
        go_wp2_with fail
        go_ret2
        exact Nr.post_no HCD.out (by decide) rfl A
      have e4 : decide ((2000 : Int) < (sm : Int)) = false := decide_eq_false (by omega)
      have e5 : decide (2000 < sm) = false := decide_eq_false h2k
      rw [e2, e5, Bool.false_or] at HCD
      simp only [Bool.false_eq_true, if_false] at HCD
      clear e2 e5
      have M0 := Lib.hid (Nr.mw_new w wr A)
      have hrw := A.size
      clear A
      go_wp2_with fail
      clear e0 e1 e4
      generalize hU0 : wr.alloc (.cells #[.slice none 0 0, .slice none 0 0, .slice none 0 0, .slice none 0 0] 39) = U0 at *
      generalize hr0 : wr.heap.size = r at *
      clear hU0 hr0
      obtain ⟨n, hn9⟩ : ∃ n, n = q := ⟨_, rfl⟩
      subst hn9
      go_loopw [8] (fun i wx => ∃ (q : Nat) (vS vA v2 v3 : Value) (fs : List (Nat → Bool)) (As : List (Value × Value)) (Ls : List (List Int × List Int)) (so sr : List Int), q ≤ n ∧ i = .int .i64 q ∧ Hid (Nr.MW w r vS vA v2 v3 fs As Ls so sr wx) ∧ Hid (Nr.Sp (l.take q) fs Ls so sr)) (fun i _ => n - (intOf i).toNat)
      case atStart => exact ⟨0, _, _, _, _, [], [], [], [], [], by omega, rfl, M0, Lib.hid (by simpa using Nr.sp_nil)⟩
      case round =>
        clear M0
        obtain ⟨q, vS, vA, v2, v3, fs, As, Ls, so, sr, hq, rfl, HMW, HSP⟩ := hrel
        by_cases hlt : q < n
        · have hlt' : q < l.length := by rw [HN.out]; exact hlt
          obtain ⟨p, rfl, hp⟩ := HL.out.get q hlt'
          rw [Nat.zero_add] at hp
          have HTK := Lib.hid (List.take_succ_eq_append_getElem hlt')
          have HQL := Lib.hid (show (l.take q).length = q by rw [List.length_take, HN.out]; omega)
          have HYM := Lib.hid (HM.out l[q] (List.getElem_mem hlt'))
          have hob : Nf.onesL (l.take q) ≤ 2000 := by have := Nh.onesL_take l q; have := HSM.out; omega
          have hfl : fs.length ≤ 2000 := by rw [HSP.out.fs, Nf.setsL_len]; exact hob
          have hal : As.length ≤ 2000 := by rw [HMW.out.la, HSP.out.len]; exact hob
          have hys : l[q].size ≤ 2000 := by have := (Rx.part_le (List.getElem_mem hlt')).1; have := HSM.out; omega
          have hys4 : l[q].size ≤ 1000 := by have := (Rx.may_iff.1 HYM.out).2.2; omega
          have hyo : Nf.ones l[q] ≤ 2000 := Nat.le_trans (Nh.ones_le _) hys
          have HWF := Lib.hid (Rx.may_iff.1 HYM.out).1
          generalize l[q] = y at *
          have hgl : (Rx.sets y).length ≤ 2000 := by rw [Nf.sets_len]; exact hyo
          obtain ⟨k1, f1, a1, m1, cap1, HCELL, hi⟩ := hp.open
          have HCL := Lib.hid HCELL
          have hi' : Rx.Is w y (Rx.hdr k1 f1 a1 m1 cap1) := hi
          have HI := Lib.hid hi'
          have hc := HCELL.up HMW.out.bel
          have x0 := hc.c0; have x1 := hc.c1; have x2 := hc.c2; have x3 := hc.c3; have x4 := hc.c4; have x5 := hc.c5
          have C := Lib.hid (of_any 2000 y hys (by decide) HWF.out _ wr (HI.out.up HMW.out.bel))
          have i1 : (0 : Int) ≤ (q : Int) := by omega
          have i2 : (q : Int) < (n : Int) := by omega
          clear hp hi hi' HCELL hc
          unfold Rx.hdr at C
          go_wp2_with fail
          refine C.out.mono ?_
          rintro e w1 ⟨n1, vF, vL, em, vN, F, L, N, rfl, PV, PT, bb⟩
          clear x0 x1 x2 x3 x4 x5 C
          obtain ⟨aF, mF, cF, rfl⟩ := PV.rf.form
          obtain ⟨aL, mL, cL, rfl⟩ := PV.rl.form
          obtain ⟨rowsN, ow, rr⟩ := PV.nx
          obtain ⟨aN, cN, rfl, _⟩ := ow.cells
          have B1 := Bs.below1 w1 (.cells #[.int .i64 n1, .slice aF mF cF, .slice aL mL cL, .bool em, .slice aN rowsN.length cN] 87)
          have PW0 : Nr.PW r w1.heap.size n1 (.slice aF mF cF) (.slice aL mL cL) em (.slice aN rowsN.length cN) F L N rowsN vS vA (w1.alloc (.cells #[.int .i64 n1, .slice aF mF cF, .slice aL mL cL, .bool em, .slice aN rowsN.length cN] 87)) :=
            ⟨Nh.pb_new w1 n1 _ _ em _, (PV.rf.mono (fun k hk => HMW.out.k k hk.1)).up B1, (PV.rl.mono (fun k hk => HMW.out.k k hk.1)).up B1, World.ownsRow.mono (ow.up B1) (by have := HMW.out.lt; omega), (rr.mono (fun k hk => HMW.out.k k hk.1)).up B1, fun k hk => HMW.out.k k (World.ownsRow.lt ow k hk).1, HMW.out.k _ bb.size⟩
          replace HMW := Lib.hid ((HMW.out.up bb).up B1)
          have HPW := Lib.hid PW0
          have HPT := Lib.hid PT
          clear PV ow rr PT bb B1 PW0
          go_upto_region 18 with fail
          generalize hU : w1.alloc (.cells #[.int .i64 n1, .slice aF mF cF, .slice aL mL cL, .bool em, .slice aN rowsN.length cN] 87) = U at *
          generalize hbp : w1.heap.size = bp at *
          clear hU hbp
          obtain ⟨aS, cS, hvS, _⟩ := HMW.out.os.slice
          obtain ⟨nS, hnS⟩ : ∃ nS, fs.length = nS := ⟨_, rfl⟩
          have HNS := Lib.hid hnS
          have hnS2 : nS ≤ 2000 := by omega
          rw [hnS] at hvS
          clear hnS
          subst hvS
          have c0 := HMW.out.c0
          have HUW := Lib.hid HMW.out.bel
          go_upto_region 19 with fail
          clear c0
          have W0 : Nr.WZ U r (.slice aS nS cS) (fun _ => false) U.drew := ⟨HMW.out.c0, HMW.out.z 0 (by decide), fun _ => (Below.refl _ _).drew, fun e => by simp at e, fun e => by simp at e⟩
          refine Rg.regionZ (by kernel_rfl) (by kernel_rfl) (by kernel_rfl) (by decide) (Rg.rel (Nr.relS r q (.slice aS nS cS) (.slice (some p) n cap) (Rx.hdr k1 f1 a1 m1 cap1) (p.add (q * 6)) (fun v u => Sr.Own U.heap.size v (Rx.sets y) u) (Nr.SP U r (.slice aS nS cS) fs (Rx.sets y)))) (Nr.WZ U r (.slice aS nS cS)) (Nr.MZ (.slice aS nS cS) 10) (fun _ _ => False) (fun c b x _ h => h.elim) (fun i j v w w' hij h hb => Nr.relS_up (fun v u u' h hb => h.up hb) (fun v u u' h hg => ⟨World.ownsRow.kept h.1 hg (by
            cases e : v.ownBlock with
            | none => exact .inl rfl
            | some k => exact .inr (fun e2 => by have h1 := (World.ownsRow.lt h.1 k e).1; have h2 := (HMW.out.sb k e2.symm).2; omega)), h.2⟩) (fun v u u' h hb => h.up hb) hij h hb) W0 ⟨?_, ?_, ?_, ?_, ?_, ?_, ?_, ?_, ?_, ?_, ?_, ?_, ?_, trivial⟩ ?_
          · intro L f' x hL hw hd
            have HW := Lib.hid hw
            clear hw hd
            simp only [Rg.stepZ, Rg.all, Act.put, List.setIfInBounds_toArray, List.set_cons_zero, List.set_cons_succ]
            go_simp
            exact ⟨rfl, HW.out.on 0 (by decide) (fun e => by omega), .inr (Below.refl _ _)⟩
          · intro L f' x hL hw hd
            have HW := Lib.hid hw
            clear hw hd
            simp only [Rg.stepZ, Rg.all, Act.put, List.setIfInBounds_toArray, List.set_cons_zero, List.set_cons_succ]
            go_simp
            exact ⟨rfl, HW.out.on 1 (by decide) (fun e => by omega), .inr (Below.refl _ _)⟩
          · intro L f' x hL hw hd
            have r1 : f' 1 = .pointer (some ⟨r, 0, none⟩) := (hd _ (List.mem_cons_self ..)).2
            have HW := Lib.hid hw
            clear hw hd
            simp only [Rg.stepZ, Rg.all, Act.put, List.setIfInBounds_toArray, List.set_cons_zero, List.set_cons_succ]
            go_simp
            exact ⟨rfl, HW.out.on 2 (by decide) (fun e => by omega), .inr (Below.refl _ _)⟩
          · intro L f' x hL hw hd
            have r2 : f' 2 = .pointer (some ⟨r, 0, none⟩) := (hd _ (List.mem_cons_self ..)).2
            have HW := Lib.hid hw
            clear hw hd
            simp only [Rg.stepZ, Rg.all, Act.put, List.setIfInBounds_toArray, List.set_cons_zero, List.set_cons_succ]
            go_simp
            exact ⟨rfl, HW.out.on 3 (by decide) (fun e => by omega), .inr (Below.refl _ _)⟩
          · intro L f' x hL hw hd
            have r3 : f' 3 = .pointer (some ⟨r, 0, none⟩) := (hd _ (List.mem_cons_self ..)).2
            have c0 := hw.c0
            have HW := Lib.hid hw
            clear hw hd
            simp only [Rg.stepZ, Rg.all, Act.put, List.setIfInBounds_toArray, List.set_cons_zero, List.set_cons_succ]
            go_simp
            exact ⟨rfl, HW.out.on 4 (by decide) (fun e => by omega), .inr (Below.refl _ _)⟩
          · intro L f' x hL hw hd
            have HW := Lib.hid hw
            clear hw hd
            simp only [Rg.stepZ, Rg.all, Act.put, List.setIfInBounds_toArray, List.set_cons_zero, List.set_cons_succ]
            go_simp
            exact ⟨rfl, HW.out.on 5 (by decide) (fun e => by omega), .inr (Below.refl _ _)⟩
          · intro L f' x hL hw hd
            have HW := Lib.hid hw
            clear hw hd
            simp only [Rg.stepZ, Rg.all, Act.put, List.setIfInBounds_toArray, List.set_cons_zero, List.set_cons_succ]
            go_simp
            exact ⟨rfl, HW.out.on 6 (by decide) (fun e => by omega), .inr (Below.refl _ _)⟩
          · intro L f' x hL hw hd
            have r5 : f' 5 = .slice (some p) n cap := (hd _ (List.mem_cons_self ..)).2
            have r6 : f' 6 = .int .i64 q := (hd _ (List.mem_cons_of_mem _ (List.mem_cons_self ..))).2
            have HW := Lib.hid hw
            clear hw hd
            simp only [Rg.stepZ, Rg.all, Act.put, List.setIfInBounds_toArray, List.set_cons_zero, List.set_cons_succ]
            go_simp
            exact ⟨rfl, HW.out.on 7 (by decide) (fun e => by omega), .inr (Below.refl _ _)⟩
          · intro L f' x hL hw hd
            have r7 : f' 7 = .pointer (some (p.add (q * 6))) := (hd _ (List.mem_cons_self ..)).2
            have h10 : L 10 = false := Nh.ff (fun e => by rw [hw.d8 (hw.d9 e)] at hL; simp at hL)
            have hc := (HCL.out.up HUW.out).up (hw.is h10)
            have x0 := hc.c0; have x1 := hc.c1; have x2 := hc.c2; have x3 := hc.c3; have x4 := hc.c4; have x5 := hc.c5
            clear hc
            have HW := Lib.hid hw
            clear hw hd
            simp only [Rg.stepZ, Rg.all, Act.put, List.setIfInBounds_toArray, List.set_cons_zero, List.set_cons_succ]
            go_simp
            exact ⟨rfl, HW.out.on 8 (by decide) (fun e => by omega), .inr (Below.refl _ _)⟩
          · intro L f' x hL hw hd
            have r8 : f' 8 = Rx.hdr k1 f1 a1 m1 cap1 := (hd _ (List.mem_cons_self ..)).2
            have h8 : L 8 = true := (hd _ (List.mem_cons_self ..)).1
            have h10 : L 10 = false := Nh.ff (fun e => by rw [hw.d9 e] at hL; simp at hL)
            have hbx := hw.is h10
            have C := Lib.hid (refSets_any y.size y (Nat.le_refl _) (by omega) HWF.out _ x ((HI.out.up HUW.out).up hbx))
            have HW := Lib.hid hw
            clear hw hd
            simp only [Rg.stepZ, Rg.all, Act.put, List.setIfInBounds_toArray, List.set_cons_zero, List.set_cons_succ]
            go_simp
            refine C.out.mono ?_
            rintro e x1 ⟨rv, rfl, O1, b1⟩
            exact ⟨_, rfl, O1.mono hbx.size, (HW.out.up b1).on 9 (by decide) (fun _ => h8), .inr b1⟩
          · intro L f' x hL hw hd
            have r4 : f' 4 = .slice aS nS cS := (hd _ (List.mem_cons_self ..)).2
            have r9 : Sr.Own U.heap.size (f' 9) (Rx.sets y) x := (hd _ (List.mem_cons_of_mem _ (List.mem_cons_self ..))).2
            have h9 : L 9 = true := (hd _ (List.mem_cons_of_mem _ (List.mem_cons_self ..))).1
            have hbx := hw.is hL
            have HX := HMW.out.up hbx
            by_cases hy0 : Rx.sets y = []
            · have r9' := r9.2 hy0
              have hd8 := hw.d8
              have hcc := hw.c0
              have hzz := hw.z0
              clear hw hd r9
              obtain ⟨iE, hiE⟩ : ∃ i, Try.prog.info? 44 = some i := by
                have := Sr.infoS
                cases h : Try.prog.info? 44 with
                | none => rw [h] at this; simp at this
                | some i => exact ⟨i, rfl⟩
              simp only [Rg.all, Act.put, List.setIfInBounds_toArray, List.set_cons_zero, List.set_cons_succ]
              refine Nr.stepZ_append_none _ _ 33 rfl (r + 1) 44 iE 4 Try.underlying33 hiE (.slice aS nS cS) _ _ r4 HX.os.1 r9' ?_
              exact ⟨.inl ⟨hy0, rfl, hbx⟩, ⟨hcc, hzz, fun e => by simp at e, fun _ => by simp [h9], fun e => by simp [hd8 h9]⟩, .inr (Below.refl _ _)⟩
            · obtain ⟨g9, cap9, e9, hnews⟩ := r9.full hy0
              have hd8 := hw.d8
              have hcc := hw.c0
              have hzz := hw.z0
              have hbase : r + 1 ≤ x.heap.size := by have := HX.lt; omega
              have hR : ¬ (Value.slice aS nS cS).ownBlock = some r := fun e => by have := (HMW.out.sb r e).1; omega
              clear hw hd r9
              obtain ⟨iI, hiI, hz0, hz1, hz2⟩ := info_parts Sr.infoS
              simp only [Rg.all, Act.put, List.setIfInBounds_toArray, List.set_cons_zero, List.set_cons_succ]
              refine Rg.stepZ_append _ _ 33 rfl (r + 1) 44 iI _ 4 32 Try.underlying33 hiI hz0 hz1 hz2 rfl (by decide) (.slice aS nS cS) fs.length (Sr.cells fs) r4 HX.os.1 ⟨g9, 0, none⟩ (Rx.sets y).length cap9 (Sr.cells (Rx.sets y)) e9 (Sr.cells_len _) hnews (Nr.set_cells _) (List.length_pos_iff.2 hy0) (by unfold maxLen; omega) (by omega) hbase ?_
              intro g cp x1 o1 o2 o3 o4
              refine ⟨.inr ⟨x, g, cp, rfl, hbx, o2, ⟨by rw [List.length_append, Sr.cells_append]; exact o1, fun e => by simp at e; exact absurd e.2 hy0⟩, o3⟩, ⟨o2.cell hcc (fun e => hR e.symm), ?_, fun e => by simp at e, fun _ => by simp [h9], fun e => by simp [hd8 h9]⟩, .inl ⟨rfl, o2⟩⟩
              rw [(Ng.Only.of_grown o2).frozen HX.lt hR]; exact hzz
          · intro L f' x hL hw hd
            have r0 : f' 0 = .pointer (some ⟨r, 0, none⟩) := (hd _ (List.mem_cons_self ..)).2
            have HW := Lib.hid hw
            clear hw hd
            simp only [Rg.stepZ, Rg.all, Act.put, List.setIfInBounds_toArray, List.set_cons_zero, List.set_cons_succ]
            go_simp
            exact ⟨rfl, HW.out.on 11 (by decide) (fun e => by omega), .inr (Below.refl _ _)⟩
          · intro L f' x hL hw hd
            have r11 : f' 11 = .pointer (some ⟨r, 0, none⟩) := (hd _ (List.mem_cons_self ..)).2
            have HW := Lib.hid hw
            clear hw hd
            simp only [Rg.stepZ, Rg.all, Act.put, List.setIfInBounds_toArray, List.set_cons_zero, List.set_cons_succ]
            go_simp
            exact ⟨rfl, HW.out.on 12 (by decide) (fun e => by omega), .inr (Below.refl _ _)⟩
          · intro Lz f' x hall hw hR o ho
            have r10 : Nr.SP U r (.slice aS nS cS) fs (Rx.sets y) (f' 10) x := hR 10 (by decide)
            have r12 : f' 12 = .pointer (some ⟨r, 0, none⟩) := hR 12 (by decide)
            simp at ho
            subst ho
            simp only [Rg.stepZ, Rg.all, Act.put, List.setIfInBounds_toArray, List.set_cons_zero, List.set_cons_succ]
            have hdn := r10.done HMW.out
            obtain ⟨aT, nT, cT, e10⟩ : ∃ a n c, f' 10 = .slice a n c := by
              rcases r10 with ⟨_, e, _⟩ | ⟨_, _, _, e, _⟩
              · exact ⟨_, _, _, e⟩
              · exact ⟨_, _, _, e⟩
            rw [e10] at hdn
            have HDN := Lib.hid hdn
            have c0 := hw.c0
            have z0 := hw.z0
            clear hw hR r10 hdn hall
            generalize f' 0 = t0 at *
            generalize f' 1 = t1 at *
            generalize f' 2 = t2 at *
            generalize f' 3 = t3 at *
            generalize f' 4 = t4 at *
            generalize f' 5 = t5 at *
            generalize f' 6 = t6 at *
            generalize f' 7 = t7 at *
            generalize f' 8 = t8 at *
            generalize f' 9 = t9 at *
            generalize f' 11 = t11 at *
            go_simp
            go_wp2_with fail
            obtain ⟨hd1, hd2, hd3⟩ := HDN.out
            replace HPW := Lib.hid (HPW.out.turn hd2 hd3 (Nr.nx_refl _ _))
            replace HMW := Lib.hid hd1
            clear HDN hd1 hd2 hd3 HUW W0 c0 z0
            generalize x.setCell ⟨r, 0, none⟩ (.slice aT nT cT) = V at *
            go_loopw [11] (fun i wx => ∃ (k : Nat) (vA : Value) (As : List (Value × Value)), k ≤ n1 ∧ i = .int .i64 k ∧ Hid (Nr.MW w r (.slice aT nT cT) vA v2 v3 (fs ++ Rx.sets y) As (Ls ++ Nr.afs N L nS q k) so sr wx) ∧ Hid (Nr.PW r bp n1 (.slice aF mF cF) (.slice aL mL cL) em (.slice aN rowsN.length cN) F L N rowsN (.slice aT nT cT) vA wx)) (fun i _ => n1 - (intOf i).toNat)
            case atStart => exact ⟨0, vA, As, by omega, rfl, by simpa [Nr.afs] using HMW, HPW⟩
            case round =>
              clear HMW HPW hal
              obtain ⟨k, vA, As, hk, rfl, HMW, HPW⟩ := hrel
              have g0 := HPW.out.pb.c0
              by_cases hkl : k < n1
              · have hn12 : n1 ≤ 2000 := by have := HPT.out.num; omega
                have hkN : k < N.length := by rw [HPT.out.len, ← HPT.out.num]; exact hkl
                have hkr : k < rowsN.length := by rw [HPW.out.rr.1]; exact hkN
                have g4 := HPW.out.pb.c4
                obtain ⟨aN', cN', eN, hsv⟩ := HPW.out.ow.cells
                injection eN with eN1 eN2 eN3
                subst eN1
                subst eN3
                obtain ⟨xN, eXN, hxN⟩ := hsv k hkr
                subst eXN
                have hrow := HPW.out.rr.2 k hkr hkN
                have hrs := HPT.out.nxt k hkN
                have hrl := Nr.ones_len hrs (m := Nf.ones y) (fun p h => (Nf.fol_lt _ _ _ h).2)
                have hrb : ∀ z ∈ N[k], 0 ≤ z ∧ z ≤ 1000000 := fun z hz => by
                  have := (Nh.rise_len hrs (Nf.ones y) (fun p h => (Nf.fol_lt _ _ _ h).2)).2 z hz
                  omega
                have HGD := Lib.hid (show N.getD k [] = N[k] by rw [List.getD_eq_getElem?_getD, List.getElem?_eq_getElem hkN]; rfl)
                have C := Lib.hid (refShift_any N[k] nS rowsN[k] wr (fun j => wr.heap.size ≤ j) (fun j h => h) (hrow.mono (fun _ _ => trivial)) (by omega) hrb ⟨by omega, by omega⟩)
                have hsl : (Nf.shift N[k] nS).length ≤ 2000 := by unfold Nf.shift; rw [List.length_map]; omega
                obtain ⟨SH, hSH⟩ : ∃ SH, Nf.shift N[k] nS = SH := ⟨_, rfl⟩
                have HSH := Lib.hid hSH
                rw [hSH] at C hsl
                obtain ⟨aR, nR, cR, eR⟩ := hrow.form
                rw [eR] at C hxN
                clear eN2 hsv hrow hrs hrb hSH eR hrl
                have i3 : (0 : Int) ≤ (k : Int) := by omega
                have i4 : (k : Int) < (rowsN.length : Int) := by omega
                go_wp2_with fail
                refine C.out.mono ?_
                rintro e w1 ⟨v1, rfl, R1, bb⟩
                clear g0 g4 hxN C
                obtain ⟨b1, b2, b3, rfl⟩ := R1.form
                have FB0 := Nf.fb_new w1 (.slice b1 b2 b3) (.slice none 0 0) 37
                have BW := Bs.below1 w1 (.cells #[.slice b1 b2 b3, .slice none 0 0] 37)
                have hszb := bb.size
                have R2 : Nf.Row (w1.alloc (.cells #[.slice b1 b2 b3, .slice none 0 0] 37)) (fun j => wr.heap.size ≤ j ∧ j ≠ w1.heap.size) (.slice b1 b2 b3) SH := (R1.lt.mono (fun j hj => ⟨hj.1, by omega⟩)).up BW
                have HBW := Lib.hid (Bs.below_up bb BW)
                have HFB := Lib.hid FB0
                have HR2 := Lib.hid R2
                have HLE := Lib.hid bb.size
                have HK5 := Lib.hid (HMW.out.k)
                clear R1 bb FB0 BW R2 hszb
                go_upto_region 24 with fail
                generalize hU5 : w1.alloc (.cells #[.slice b1 b2 b3, .slice none 0 0] 37) = U5 at *
                generalize hb5 : w1.heap.size = bf at *
                clear hU5 hb5
                obtain ⟨W5, hW5⟩ : ∃ W5, W5 = wr := ⟨_, rfl⟩
                subst hW5
                have HML : Hid (mL = L.length) := Lib.hid (by
                  obtain ⟨a9, c9, e9, _⟩ := HPW.out.rl
                  injection e9)
                have hmL : mL ≤ 2000 := by rw [HML.out]; have := Nr.ones_len HPT.out.lst (m := Nf.ones y) (fun p h => Nf.lst_lt _ _ h); omega
                go_wp2_with fail
                go_loopw [13] (fun i wx => ∃ (j : Nat) (v2' : Value) (l2 : List Int), j ≤ mL ∧ i = .int .i64 j ∧ Hid (Nf.FB wx bf (.slice b1 b2 b3) v2') ∧ Hid (Nf.Row wx (fun x => W5.heap.size ≤ x ∧ x ≠ bf) (.slice b1 b2 b3) SH) ∧ Hid (Nf.Row wx (fun x => W5.heap.size ≤ x ∧ x ≠ bf) v2' l2) ∧ Hid (l2 = if (k : Int) ∈ L.take j then [(q : Int)] else []) ∧ Hid (Below W5.heap.size W5 wx)) (fun i _ => mL - (intOf i).toNat)
                case atStart => exact ⟨0, _, [], by omega, rfl, HFB, HR2, Lib.hid (Nh.row_nil _ _), Lib.hid (by simp), HBW⟩
                case round =>
                  clear HFB HR2 HBW
                  obtain ⟨j, v2', l2, hj, rfl, HFB, HR1, HR2, HL2, HBW⟩ := hrel
                  have g2 := Bs.cell_up HBW.out HPW.out.pb.c2
                  by_cases hjl : j < mL
                  · have hjL : j < L.length := by rw [← HML.out]; exact hjl
                    have h0 := HPT.out.lst.nn _ (List.getElem_mem hjL)
                    obtain ⟨pL, hpL, hpc⟩ := HPW.out.rl.at.2 j hjL
                    subst hpL
                    replace hpc := Bs.cell_up HBW.out hpc
                    have HTJ := Lib.hid (List.take_succ_eq_append_getElem hjL)
                    generalize L[j] = z at *
                    have i5 : (0 : Int) ≤ (j : Int) := by omega
                    have i6 : (j : Int) < (mL : Int) := by omega
                    by_cases hzk : z = (k : Int)
                    · subst hzk
                      have e9 : ((k : Int) == (k : Int)) = true := by simp
                      obtain ⟨e1', e2', e3', rfl⟩ := HR2.out.form
                      have f0 := HFB.out.c0; have f1' := HFB.out.c1; have z1 := HFB.out.z1
                      have BX := Bs.below1 wr (.cells #[.int .i64 q] 3)
                      have HFB2 := Lib.hid ((HFB.out.up BX).set1 (.slice (some ⟨wr.heap.size, 0, none⟩) 1 1))
                      have hlt5 := World.block_lt_of_cell? wr _ f0
                      have hbs5 := HBW.out.size
                      have HLE5 := HLE.out
                      have HR3 := Lib.hid ((HR1.out.up BX).set (b := bf) (i := 1) (fun e => e.2 rfl) (.slice (some ⟨wr.heap.size, 0, none⟩) 1 1))
                      have HR4 := Lib.hid ((Nh.row_one wr (fun x => W5.heap.size ≤ x ∧ x ≠ bf) ⟨by omega, by simp at hlt5; omega⟩ q).set (b := bf) (i := 1) (fun e => e.2 rfl) (.slice (some ⟨wr.heap.size, 0, none⟩) 1 1))
                      have HB4 := Lib.hid ((Bs.below_up HBW.out BX).setCell (p := ⟨bf, 1, none⟩) HLE5 (.slice (some ⟨wr.heap.size, 0, none⟩) 1 1))
                      have hal5 : ∀ (i : Nat) (v : Value), (wr.alloc (.cells #[.int .i64 q] 3)).setCell ⟨bf, i, none⟩ v = (wr.setCell ⟨bf, i, none⟩ v).alloc (.cells #[.int .i64 q] 3) := fun i v => World.setCell_alloc_past _ _ _ _ hlt5
                      rw [hal5] at HFB2 HR3 HR4 HB4
                      clear BX HBW hal5
                      go_wp2_with fail
                      go_roundw
                      case rel => exact ⟨j + 1, _, _, by omega, by go_num, HFB2, HR3, HR4, Lib.hid (by rw [HTJ.out]; simp), HB4⟩
                      case measure => simp [intOf]; omega
                    · have e9 : (z == (k : Int)) = false := by simpa using hzk
                      have HNE := Lib.hid hzk
                      clear hzk
                      go_wp2_with fail
                      go_roundw
                      case rel => exact ⟨j + 1, _, _, by omega, by go_num, HFB, HR1, HR2, Lib.hid (by
                        rw [HL2.out, HTJ.out]
                        have : ¬ (k : Int) = z := fun e => HNE.out e.symm
                        simp [this]), HBW⟩
                      case measure => simp [intOf]; omega
                  · have htj : L.take j = L := List.take_of_length_le (by rw [← HML.out]; omega)
                    rw [htj] at HL2
                    clear htj
                    replace HMW := Lib.hid (HMW.out.up HBW.out)
                    replace HPW := Lib.hid (HPW.out.up HBW.out)
                    have hKK : ∀ x, (W5.heap.size ≤ x ∧ x ≠ bf) ∧ x < wr.heap.size → Nr.K r (.slice aT nT cT) vA x := fun x hx => HK5.out x hx.1.1
                    replace HR1 := Lib.hid (HR1.out.lt.mono hKK)
                    replace HR2 := Lib.hid (HR2.out.lt.mono hKK)
                    obtain ⟨d1, d2, d3, rfl⟩ := HR2.out.form
                    obtain ⟨aA, nA, cA, rfl⟩ : ∃ a n c, vA = .slice a n c := by
                      rcases HMW.out.oa.2 with ⟨e, _⟩ | ⟨g, c, cur, e, _⟩
                      · exact ⟨_, _, _, e⟩
                      · exact ⟨_, _, _, e⟩
                    have HLA := Lib.hid (show As.length ≤ 5000 by
                      rw [HMW.out.la, List.length_append, Nr.afs_len, HSP.out.len]
                      have := HPT.out.num
                      omega)
                    have hla5 := HLA.out
                    clear hKK
                    go_upto_region 29 with fail
                    clear g2
                    have W0 : Nr.WF wr r (.slice aA nA cA) (fun _ => false) wr.drew := ⟨HMW.out.c1, HMW.out.z 1 (by decide), fun _ => (Below.refl _ _).drew, fun e => by simp at e, fun e => by simp at e⟩
                    refine Rg.regionZ (by kernel_rfl) (by kernel_rfl) (by kernel_rfl) (by decide) (Rg.rel (Nr.relF r (.slice aA nA cA) (.slice b1 b2 b3) (.slice d1 d2 d3) (Nr.FP wr r (.slice aA nA cA) As (.slice b1 b2 b3) (.slice d1 d2 d3)))) (Nr.WF wr r (.slice aA nA cA)) (Nr.MZ (.slice aA nA cA) 7) (fun _ _ => False) (fun c b x _ h => h.elim) (fun i j v w w' hij h hb => Nr.relF_up (fun v u u' h hb => h.up hb) hij h hb) W0 ⟨?_, ?_, ?_, ?_, ?_, ?_, ?_, ?_, ?_, ?_, trivial⟩ ?_
                    · intro L f' x hL hw hd
                      have HW := Lib.hid hw
                      clear hw hd
                      simp only [Rg.stepZ, Rg.all, Act.put, List.setIfInBounds_toArray, List.set_cons_zero, List.set_cons_succ]
                      go_simp
                      exact ⟨rfl, HW.out.on 0 (by decide) (fun e => by omega), .inr (Below.refl _ _)⟩
                    · intro L f' x hL hw hd
                      have HW := Lib.hid hw
                      clear hw hd
                      simp only [Rg.stepZ, Rg.all, Act.put, List.setIfInBounds_toArray, List.set_cons_zero, List.set_cons_succ]
                      go_simp
                      exact ⟨rfl, HW.out.on 1 (by decide) (fun e => by omega), .inr (Below.refl _ _)⟩
                    · intro L f' x hL hw hd
                      have r1 : f' 1 = .pointer (some ⟨r, 0, none⟩) := (hd _ (List.mem_cons_self ..)).2
                      have HW := Lib.hid hw
                      clear hw hd
                      simp only [Rg.stepZ, Rg.all, Act.put, List.setIfInBounds_toArray, List.set_cons_zero, List.set_cons_succ]
                      go_simp
                      exact ⟨rfl, HW.out.on 2 (by decide) (fun e => by omega), .inr (Below.refl _ _)⟩
                    · intro L f' x hL hw hd
                      have r2 : f' 2 = .pointer (some ⟨r, 0, none⟩) := (hd _ (List.mem_cons_self ..)).2
                      have HW := Lib.hid hw
                      clear hw hd
                      simp only [Rg.stepZ, Rg.all, Act.put, List.setIfInBounds_toArray, List.set_cons_zero, List.set_cons_succ]
                      go_simp
                      exact ⟨rfl, HW.out.on 3 (by decide) (fun e => by omega), .inr (Below.refl _ _)⟩
                    · intro L f' x hL hw hd
                      have r3 : f' 3 = .pointer (some ⟨r, 1, none⟩) := (hd _ (List.mem_cons_self ..)).2
                      have c1 := hw.c1
                      have HW := Lib.hid hw
                      clear hw hd
                      simp only [Rg.stepZ, Rg.all, Act.put, List.setIfInBounds_toArray, List.set_cons_zero, List.set_cons_succ]
                      go_simp
                      exact ⟨rfl, HW.out.on 4 (by decide) (fun e => by omega), .inr (Below.refl _ _)⟩
                    · intro L f' x hL hw hd
                      have h7 : L 7 = false := Nh.ff (fun e => by rw [hw.d5 (hw.d6 e)] at hL; simp at hL)
                      have hfb := HFB.out.up (hw.is h7)
                      have p0 := hfb.c0
                      have p1 := hfb.c1
                      clear hfb
                      have HW := Lib.hid hw
                      clear hw hd
                      simp only [Rg.stepZ, Rg.all, Act.put, List.setIfInBounds_toArray, List.set_cons_zero, List.set_cons_succ]
                      go_simp
                      exact ⟨rfl, HW.out.on 5 (by decide) (fun e => by omega), .inr (Below.refl _ _)⟩
                    · intro L f' x hL hw hd
                      have r5 : f' 5 = .agg #[.slice b1 b2 b3, .slice d1 d2 d3] := (hd _ (List.mem_cons_self ..)).2
                      have h5 : L 5 = true := (hd _ (List.mem_cons_self ..)).1
                      have h7 : L 7 = false := Nh.ff (fun e => by rw [hw.d6 e] at hL; simp at hL)
                      have hbx := hw.is h7
                      have hxs : (Value.slice aA nA cA).ownBlock ≠ some x.heap.size := fun e => by have := (HMW.out.ab _ e).2; have := hbx.size; omega
                      have HW := Lib.hid hw
                      clear hw hd
                      simp only [Rg.stepZ, Rg.all, Act.put, List.setIfInBounds_toArray, List.set_cons_zero, List.set_cons_succ]
                      go_simp
                      exact ⟨⟨x.heap.size, rfl, heap_alloc_new x _, hxs⟩, (HW.out.up (Bs.below1 x _)).on 6 (by decide) (fun _ => h5), .inr (Bs.below1 x _)⟩
                    · intro L f' x hL hw hd
                      have r4 : f' 4 = .slice aA nA cA := (hd _ (List.mem_cons_self ..)).2
                      obtain ⟨B, r6, hB, hBo⟩ := (hd _ (List.mem_cons_of_mem _ (List.mem_cons_self ..))).2
                      have h6 : L 6 = true := (hd _ (List.mem_cons_of_mem _ (List.mem_cons_self ..))).1
                      have hbx := hw.is hL
                      have HX := HMW.out.up hbx
                      have hd5 := hw.d5
                      have hcc := hw.c1
                      have hzz := hw.z1
                      have hbase : r + 1 ≤ x.heap.size := by have := HX.lt; omega
                      have hR : ¬ (Value.slice aA nA cA).ownBlock = some r := fun e => by have := (HMW.out.ab r e).1; omega
                      clear hw hd
                      obtain ⟨iI, hiI, hz0, hz1, hz2⟩ := info_parts Nr.infoF
                      simp only [Rg.all, Act.put, List.setIfInBounds_toArray, List.set_cons_zero, List.set_cons_succ]
                      refine Rg.stepZ_append _ _ 34 rfl (r + 1) 37 iI _ 2 48 Try.underlying34 hiI hz0 hz1 hz2 rfl (by decide) (.slice aA nA cA) As.length (Nr.cells As) r4 HX.oa ⟨B, 0, none⟩ 1 1 [.slice b1 b2 b3, .slice d1 d2 d3] r6 rfl (World.news_of_block hB) (by simp [Value.oneCell']) (by decide) (by unfold maxLen; omega) (by omega) hbase ?_
                      intro g cp x1 o1 o2 o3 o4
                      refine ⟨⟨x, g, cp, rfl, hbx, o2, o1, o3⟩, ⟨o2.cell hcc (fun e => hR e.symm), ?_, fun e => by simp at e, fun _ => by simp [h6], fun e => by simp [hd5 h6]⟩, .inl ⟨rfl, o2⟩⟩
                      rw [(Ng.Only.of_grown o2).frozen HX.lt hR]; exact hzz
                    · intro L f' x hL hw hd
                      have r0 : f' 0 = .pointer (some ⟨r, 0, none⟩) := (hd _ (List.mem_cons_self ..)).2
                      have HW := Lib.hid hw
                      clear hw hd
                      simp only [Rg.stepZ, Rg.all, Act.put, List.setIfInBounds_toArray, List.set_cons_zero, List.set_cons_succ]
                      go_simp
                      exact ⟨rfl, HW.out.on 8 (by decide) (fun e => by omega), .inr (Below.refl _ _)⟩
                    · intro L f' x hL hw hd
                      have r8 : f' 8 = .pointer (some ⟨r, 0, none⟩) := (hd _ (List.mem_cons_self ..)).2
                      have HW := Lib.hid hw
                      clear hw hd
                      simp only [Rg.stepZ, Rg.all, Act.put, List.setIfInBounds_toArray, List.set_cons_zero, List.set_cons_succ]
                      go_simp
                      exact ⟨rfl, HW.out.on 9 (by decide) (fun e => by omega), .inr (Below.refl _ _)⟩
                    · intro Lz f' x hall hw hR o ho
                      have r7 : Nr.FP wr r (.slice aA nA cA) As (.slice b1 b2 b3) (.slice d1 d2 d3) (f' 7) x := hR 7 (by decide)
                      have r9 : f' 9 = .pointer (some ⟨r, 1, none⟩) := hR 9 (by decide)
                      simp at ho
                      subst ho
                      simp only [Rg.stepZ, Rg.all, Act.put, List.setIfInBounds_toArray, List.set_cons_zero, List.set_cons_succ]
                      have hdn := r7.done HMW.out HR1.out HR2.out
                      obtain ⟨aT, nT, cT, e7⟩ : ∃ a n c, f' 7 = .slice a n c := by
                        obtain ⟨_, _, _, e, _⟩ := r7
                        exact ⟨_, _, _, e⟩
                      rw [e7] at hdn
                      have HDN := Lib.hid hdn
                      have c1 := hw.c1
                      have z1 := hw.z1
                      clear hw hR r7 hdn hall
                      generalize f' 0 = t0 at *
                      generalize f' 1 = t1 at *
                      generalize f' 2 = t2 at *
                      generalize f' 3 = t3 at *
                      generalize f' 4 = t4 at *
                      generalize f' 5 = t5 at *
                      generalize f' 6 = t6 at *
                      generalize f' 8 = t8 at *
                      go_simp
                      go_wp2_with fail
                      obtain ⟨hd1, hd2, hd3⟩ := HDN.out
                      replace HPW := Lib.hid (HPW.out.turn hd2 (Nr.nx_refl _ _) hd3)
                      have HMW2 := Lib.hid hd1
                      clear HDN hd1 hd2 hd3 W0
                      go_roundw
                      case rel => exact ⟨k + 1, _, _, by omega, by go_num, Lib.hid (by
                        rw [Nr.afs_succ, HGD.out, HSH.out, ← HL2.out, ← List.append_assoc]
                        exact HMW2.out), HPW⟩
                      case measure => simp [intOf]; omega
              · have hkn : k = n1 := by omega
                rw [hkn] at HMW
                clear hkn
                have g1 := HPW.out.pb.c1
                have hrs := HPT.out.fst
                have hrl := Nr.ones_len hrs (m := Nf.ones y) (fun p h => Nf.fst_lt _ _ h)
                have hrb : ∀ z ∈ F, 0 ≤ z ∧ z ≤ 1000000 := fun z hz => by
                  have := (Nh.rise_len hrs (Nf.ones y) (fun p h => Nf.fst_lt _ _ h)).2 z hz
                  omega
                have C := Lib.hid (refShift_any F nS (.slice aF mF cF) wr (fun j => wr.heap.size ≤ j) (fun j h => h) (HPW.out.rf.mono (fun _ _ => trivial)) (by omega) hrb ⟨by omega, by omega⟩)
                have hSF : (Nf.shift F nS).length ≤ 10000 := by unfold Nf.shift; rw [List.length_map]; omega
                have hso : so.length ≤ 10000 := by
                  have := Nr.ones_len HSP.out.so (m := Nf.onesL (l.take q)) (fun p h => by obtain ⟨r, h⟩ := h; exact (Ng.rfst_lt _ _ _ h).2)
                  omega
                have hsr : sr.length ≤ 10000 := by
                  have := Nr.ones_len HSP.out.sr (m := (l.take q).length) (fun p h => Ng.remp_lt _ _ h)
                  rw [HQL.out] at this
                  omega
                obtain ⟨SF, hSF0⟩ : ∃ SF, Nf.shift F nS = SF := ⟨_, rfl⟩
                have HSF := Lib.hid hSF0
                rw [hSF0] at C hSF
                obtain ⟨SR, hSR0⟩ : ∃ SR, (if em = true then [(q : Int)] else []) = SR := ⟨_, rfl⟩
                have HSR := Lib.hid hSR0
                have hSR : SR.length ≤ 10000 := by rw [← hSR0]; split <;> simp
                clear hrs hrb hSF0 hSR0 hrl
                go_wp2_with fail
                refine C.out.mono ?_
                rintro e w1 ⟨v1, rfl, R1, bb⟩
                clear g0 g1 C
                obtain ⟨b1, b2, b3, rfl⟩ := R1.form
                have FB0 := Nf.fb_new w1 (.slice b1 b2 b3) (.slice none 0 0) 37
                have BW := Bs.below1 w1 (.cells #[.slice b1 b2 b3, .slice none 0 0] 37)
                have R2 : Nf.Row (w1.alloc (.cells #[.slice b1 b2 b3, .slice none 0 0] 37)) (fun j => wr.heap.size ≤ j ∧ j ≠ w1.heap.size) (.slice b1 b2 b3) SF := (R1.lt.mono (fun j hj => ⟨hj.1, by omega⟩)).up BW
                have HBW := Lib.hid (Bs.below_up bb BW)
                have HFB := Lib.hid FB0
                have HR1 := Lib.hid R2
                have HLE := Lib.hid bb.size
                have HK5 := Lib.hid (HMW.out.k)
                clear R1 bb FB0 BW R2
                go_upto_region 31 with fail
                generalize hU5 : w1.alloc (.cells #[.slice b1 b2 b3, .slice none 0 0] 37) = U5 at *
                generalize hb5 : w1.heap.size = bf at *
                clear hU5 hb5
                have g3 := Bs.cell_up HBW.out HPW.out.pb.c3
                go_upto_if 119 with fail
                clear g3
                go_cut [] (fun wx => ∃ U v2', U = wx ∧ Hid (Nf.FB U bf (.slice b1 b2 b3) v2') ∧ Hid (Nf.Row U (fun x => wr.heap.size ≤ x ∧ x ≠ bf) (.slice b1 b2 b3) SF) ∧ Hid (Nf.Row U (fun x => wr.heap.size ≤ x ∧ x ≠ bf) v2' SR) ∧ Hid (Below wr.heap.size wr U))
                case first =>
                  cases em
                  · have HSR0 := Lib.hid (show ([] : List Int) = SR from HSR.out)
                    go_wp2_with fail
                    go_meet
                    exact ⟨_, _, rfl, HFB, HR1, Lib.hid (by rw [← HSR0.out]; exact Nh.row_nil _ _), HBW⟩
                  · have HSR0 := Lib.hid (show [(q : Int)] = SR from HSR.out)
                    have f0 := HFB.out.c0; have f1' := HFB.out.c1; have z1 := HFB.out.z1
                    have BX := Bs.below1 U5 (.cells #[.int .i64 q] 3)
                    have HFB2 := (HFB.out.up BX).set1 (.slice (some ⟨U5.heap.size, 0, none⟩) 1 1)
                    have hlt5 := World.block_lt_of_cell? U5 _ f0
                    simp only at hlt5
                    have hbs5 := HBW.out.size
                    have HLE5 := HLE.out
                    have HR3 := (HR1.out.up BX).set (b := bf) (i := 1) (fun e => e.2 rfl) (.slice (some ⟨U5.heap.size, 0, none⟩) 1 1)
                    have HR4 := (Nh.row_one U5 (fun x => wr.heap.size ≤ x ∧ x ≠ bf) ⟨by omega, by omega⟩ q).set (b := bf) (i := 1) (fun e => e.2 rfl) (.slice (some ⟨U5.heap.size, 0, none⟩) 1 1)
                    have HB4 := (Bs.below_up HBW.out BX).setCell (p := ⟨bf, 1, none⟩) HLE5 (.slice (some ⟨U5.heap.size, 0, none⟩) 1 1)
                    have hal5 : ∀ (i : Nat) (v : Value), (U5.alloc (.cells #[.int .i64 q] 3)).setCell ⟨bf, i, none⟩ v = (U5.setCell ⟨bf, i, none⟩ v).alloc (.cells #[.int .i64 q] 3) := fun i v => World.setCell_alloc_past _ _ _ _ hlt5
                    rw [hal5] at HFB2 HR3 HR4 HB4
                    rw [HSR0.out] at HR4
                    have H1 := Lib.hid HFB2
                    have H2 := Lib.hid HR3
                    have H3 := Lib.hid HR4
                    have H4 := Lib.hid HB4
                    clear BX HBW hal5 HFB2 HR3 HR4 HB4
                    go_wp2_with fail
                    go_meet
                    exact ⟨_, _, rfl, H1, H2, H3, H4⟩
                case rest =>
                  clear HFB HR1 HBW
                  obtain ⟨U, v2', hUe, HFB, HR1, HR2, HBW⟩ := hcut
                  subst hUe
                  replace HMW := Lib.hid (HMW.out.up HBW.out)
                  obtain ⟨d1, d2, d3, rfl⟩ := HR2.out.form
                  obtain ⟨g1, g2, g3, rfl⟩ := HMW.out.r2.form
                  obtain ⟨j1, j2, j3, rfl⟩ := HMW.out.r3.form
                  go_upto_region 33 with fail
                  refine Rg.regionT (by kernel_rfl) (by kernel_rfl) (by kernel_rfl) (by decide) (Rg.rel (Nr.relT r 0 (.slice g1 g2 g3) (.slice j1 j2 j3) (.slice b1 b2 b3) (.slice d1 d2 d3) U.heap.size (Nf.union so SF) (Nf.union sr SR))) (fun u => Below U.heap.size U u) (fun w w' => Below w.heap.size w w') (fun i v w w' h _ hb => Rg.rel_up (Nr.relT_up _ _ _ _ _ _ _ _ _) h hb) (Below.refl _ _).drew ⟨?_, ?_, ?_, ?_, ?_, ?_, ?_, ?_, ?_, trivial⟩ ?_
                  · intro fv u hw hd
                    have HW := Lib.hid hw
                    clear hw hd
                    simp only [Rg.step, Rg.all, Act.put, List.setIfInBounds_toArray, List.set_cons_zero, List.set_cons_succ]
                    go_simp
                    exact ⟨rfl, HW.out, Below.refl _ _⟩
                  · intro fv u hw hd
                    have HW := Lib.hid hw
                    clear hw hd
                    simp only [Rg.step, Rg.all, Act.put, List.setIfInBounds_toArray, List.set_cons_zero, List.set_cons_succ]
                    go_simp
                    exact ⟨rfl, HW.out, Below.refl _ _⟩
                  · intro fv u hw hd
                    have r1 : fv 1 = .pointer (some ⟨r, 0, none⟩) := hd _ (List.mem_cons_self ..)
                    have HW := Lib.hid hw
                    clear hw hd
                    simp only [Rg.step, Rg.all, Act.put, List.setIfInBounds_toArray, List.set_cons_zero, List.set_cons_succ]
                    go_simp
                    exact ⟨rfl, HW.out, Below.refl _ _⟩
                  · intro fv u hw hd
                    have r2 : fv 2 = .pointer (some ⟨r, 0, none⟩) := hd _ (List.mem_cons_self ..)
                    have HW := Lib.hid hw
                    clear hw hd
                    simp only [Rg.step, Rg.all, Act.put, List.setIfInBounds_toArray, List.set_cons_zero, List.set_cons_succ]
                    go_simp
                    exact ⟨rfl, HW.out, Below.refl _ _⟩
                  · intro fv u hw hd
                    have r3 : fv 3 = .pointer (some ⟨r, 2, none⟩) := hd _ (List.mem_cons_self ..)
                    have hm := HMW.out.up hw
                    have c2 := hm.c2
                    have c3 := hm.c3
                    clear hm
                    have HW := Lib.hid hw
                    clear hw hd
                    simp only [Rg.step, Rg.all, Act.put, List.setIfInBounds_toArray, List.set_cons_zero, List.set_cons_succ]
                    go_simp
                    exact ⟨rfl, HW.out, Below.refl _ _⟩
                  · intro fv u hw hd
                    have hm := HFB.out.up hw
                    have p0 := hm.c0
                    have p1 := hm.c1
                    clear hm
                    have HW := Lib.hid hw
                    clear hw hd
                    simp only [Rg.step, Rg.all, Act.put, List.setIfInBounds_toArray, List.set_cons_zero, List.set_cons_succ]
                    go_simp
                    exact ⟨rfl, HW.out, Below.refl _ _⟩
                  · intro fv u hw hd
                    have r4 : fv 4 = .agg #[.slice g1 g2 g3, .slice j1 j2 j3] := hd _ (List.mem_cons_self ..)
                    have r5 : fv 5 = .agg #[.slice b1 b2 b3, .slice d1 d2 d3] := hd _ (List.mem_cons_of_mem _ (List.mem_cons_self ..))
                    have C := Lib.hid (refJoin_any so sr SF SR _ _ _ _ u ((HMW.out.r2.up hw).mono (fun _ _ => trivial)) ((HMW.out.r3.up hw).mono (fun _ _ => trivial)) ((HR1.out.up hw).mono (fun _ _ => trivial)) ((HR2.out.up hw).mono (fun _ _ => trivial)) hso hsr hSF hSR)
                    have HW := Lib.hid hw
                    clear hw hd
                    simp only [Rg.step, Rg.all, Act.put, List.setIfInBounds_toArray, List.set_cons_zero, List.set_cons_succ]
                    go_simp
                    refine C.out.mono ?_
                    rintro e u1 ⟨x1, y1, rfl, R1, R2, b1⟩
                    exact ⟨_, rfl, ⟨_, _, rfl, R1.mono (fun k hk => Nat.le_trans HW.out.size hk), R2.mono (fun k hk => Nat.le_trans HW.out.size hk)⟩, Bs.below_up HW.out b1, b1⟩
                  · intro fv u hw hd
                    have r0 : fv 0 = .pointer (some ⟨r, 0, none⟩) := hd _ (List.mem_cons_self ..)
                    have HW := Lib.hid hw
                    clear hw hd
                    simp only [Rg.step, Rg.all, Act.put, List.setIfInBounds_toArray, List.set_cons_zero, List.set_cons_succ]
                    go_simp
                    exact ⟨rfl, HW.out, Below.refl _ _⟩
                  · intro fv u hw hd
                    have r7 : fv 7 = .pointer (some ⟨r, 0, none⟩) := hd _ (List.mem_cons_self ..)
                    have HW := Lib.hid hw
                    clear hw hd
                    simp only [Rg.step, Rg.all, Act.put, List.setIfInBounds_toArray, List.set_cons_zero, List.set_cons_succ]
                    go_simp
                    exact ⟨rfl, HW.out, Below.refl _ _⟩
                  · intro fv u hw hR o ho
                    obtain ⟨x1, y1, r6, R1, R2⟩ : ∃ x y, fv 6 = .agg #[x, y] ∧ Nf.Row u (fun k => U.heap.size ≤ k) x (Nf.union so SF) ∧ Nf.Row u (fun k => U.heap.size ≤ k) y (Nf.union sr SR) := hR 6 (by decide)
                    have r8 : fv 8 = .pointer (some ⟨r, 2, none⟩) := hR 8 (by decide)
                    simp at ho
                    subst ho
                    simp only [Rg.step, Rg.all, Act.put, List.setIfInBounds_toArray, List.set_cons_zero, List.set_cons_succ]
                    obtain ⟨h1, h2, h3, rfl⟩ := R1.form
                    obtain ⟨i1', i2', i3', rfl⟩ := R2.form
                    have hm := HMW.out.up hw
                    have hst := hm.start (R1.mono (fun k hk => HMW.out.k k hk)) (R2.mono (fun k hk => HMW.out.k k hk))
                    have HST := Lib.hid hst
                    have c2 := hm.c2
                    have c3 := hm.c3
                    have z2 := hm.z 2 (by decide)
                    have z3 := hm.z 3 (by decide)
                    clear hw hR R1 R2 hm hst
                    generalize fv 0 = t0 at *
                    generalize fv 1 = t1 at *
                    generalize fv 2 = t2 at *
                    generalize fv 3 = t3 at *
                    generalize fv 4 = t4 at *
                    generalize fv 5 = t5 at *
                    generalize fv 7 = t7 at *
                    go_simp
                    go_wp2_with fail
                    go_roundw
                    case rel => exact ⟨q + 1, _, _, _, _, _, _, _, _, _, by omega, by go_num, HST, Lib.hid (by
                      have hnS' : nS = Nf.onesL (l.take q) := by rw [← HNS.out, HSP.out.fs, Nf.setsL_len]
                      have h9 := HSP.out.snoc HPT.out
                      rw [HQL.out, ← hnS', HSF.out, HSR.out] at h9
                      rw [HTK.out]
                      exact h9)⟩
                    case measure => simp [intOf]; omega
        · have hqn : q = n := by omega
          subst hqn
          have ht : l.take q = l := List.take_of_length_le (by rw [HN.out]; omega)
          rw [ht] at HSP
          clear ht
          go_wp2_with fail
          go_ret2
          exact Nr.post_yes HCD.out ⟨r, vS, vA, v2, v3, As, Ls, so, sr, rfl, HMW.out.mc HSP.out, HMW.out.bel⟩
end Go.Proofs.Ytnbbepgjpfhjdaa
