/- What the document's of answers of an ALT, walked. -/
import Derived.Test.YtnbbepgjpfhjdaaG19
namespace Go.Proofs.Ytnbbepgjpfhjdaa
set_option linter.unusedVariables false
set_option linter.unusedSimpArgs false
open Go.RowKit
set_option maxRecDepth 100000 in
set_option maxHeartbeats 3000000 in
theorem alt_of (l : List Rx) (ok : ∀ y ∈ l, Nh.OfOk y) (hs : Rx.sizeL l ≤ 2000) (k : Nat) (hk0 : k = 3) (f : Nat → Bool) (al : Option Addr) (cap : Nat) (w : World) (hl : Rx.InL w l al 0) : Calls Try.prog 41 #[Rx.hdr k f al l.length cap] w (Nh.OPost w (.node k f l)) := by
  have e0 : ((k : Int) == 0) = false := by simp; omega
  have e1 : ((k : Int) == 1) = false := by simp; omega
  have e2 : ((k : Int) == 2) = false := by simp; omega
  have e3 : ((k : Int) == 3) = true := by simp; omega
  have HK2 := Lib.hid hk0
  clear hk0
  have hle := Rx.length_le l
  have OK := Lib.hid ok
  have HL := Lib.hid hl
  clear ok hl
  obtain ⟨n, hn⟩ : ∃ n, l.length = n := ⟨_, rfl⟩
  have HN := Lib.hid hn
  unfold Rx.hdr
  rw [hn] at hle ⊢
  clear hn
  have B1 := Bs.below1 w (.cells #[.int .u8 k, .int .u64 (Bs.word f 0), .int .u64 (Bs.word f 1), .int .u64 (Bs.word f 2), .int .u64 (Bs.word f 3), .slice al n cap] 54)
  have N := Rx.nod_new w k f al n cap
  obtain ⟨W1, hW1⟩ : ∃ W, w.alloc (.cells #[.int .u8 k, .int .u64 (Bs.word f 0), .int .u64 (Bs.word f 1), .int .u64 (Bs.word f 2), .int .u64 (Bs.word f 3), .slice al n cap] 54) = W := ⟨_, rfl⟩
  have s1 : W1.heap.size = w.heap.size + 1 := by rw [← hW1]; simp
  rw [hW1] at B1 N
  have B2 := Bs.below1 W1 (.cells #[.int .i64 0, .slice none 0 0, .slice none 0 0, .bool false, .slice none 0 0] 87)
  have p2 := Nh.pb_new W1 0 (.slice none 0 0) (.slice none 0 0) false (.slice none 0 0)
  obtain ⟨W2, hW2⟩ : ∃ W, W1.alloc (.cells #[.int .i64 0, .slice none 0 0, .slice none 0 0, .bool false, .slice none 0 0] 87) = W := ⟨_, rfl⟩
  have s2 : W2.heap.size = w.heap.size + 2 := by rw [← hW2]; simp [s1]
  rw [hW2] at B2 p2
  rw [s1] at p2
  have HW2 := Lib.hid (show (w.alloc (.cells #[.int .u8 k, .int .u64 (Bs.word f 0), .int .u64 (Bs.word f 1), .int .u64 (Bs.word f 2), .int .u64 (Bs.word f 3), .slice al n cap] 54)).alloc (.cells #[.int .i64 0, .slice none 0 0, .slice none 0 0, .bool false, .slice none 0 0] 87) = W2 by rw [hW1, hW2])
  have HA := Lib.hid (Bs.below_up B1 B2)
  have HND := Lib.hid (N.up B2)
  have HP2 := Lib.hid p2
  have HS2 := Lib.hid s2
  clear B1 B2 N p2 s1 s2 hW1 hW2
  go_enter Try.func41, Try.ntmps41
  go_upto_region 1 with fail
  rw [HW2.out]
  have c0 := HND.out.cell.c0; have c5 := HND.out.cell.c5
  simp only [Nat.zero_add] at c0 c5
  have B3 := Bs.below1 W2 (.cells #[.int .i64 0, .slice none 0 0, .slice none 0 0, .bool false, .slice none 0 0] 87)
  have p3 := Nh.pb_new W2 0 (.slice none 0 0) (.slice none 0 0) false (.slice none 0 0)
  rw [HS2.out] at p3
  have C0 : Hid (Nh.CW w k f al n cap (w.heap.size + 2) 0 (.slice none 0 0) (.slice none 0 0) false (.slice none 0 0) [] [] [] [] (W2.alloc (.cells #[.int .i64 0, .slice none 0 0, .slice none 0 0, .bool false, .slice none 0 0] 87))) := Lib.hid
    ⟨Bs.below_up HA.out B3, HND.out.up B3, HP2.out.up B3, p3, ⟨none, 0, rfl, Nat.le_refl _, fun _ => rfl, fun i hi => by simp at hi, fun x e => by simp at e⟩, ⟨none, 0, rfl, Nat.le_refl _, fun _ => rfl, fun i hi => by simp at hi, fun x e => by simp at e⟩, Ng.own_nil _ _, Nh.rows_nil _ _, by omega⟩
  have P0 : Hid (Nf.PartIs 0 [] [] false [] (Nf.onesL []) (Rx.empA []) (Nf.fstA []) (Nf.lstA []) (Nf.folA [])) := Lib.hid ⟨rfl, rfl, Nf.rise_nil (fun p h => by simp [Nf.fstA] at h), Nf.rise_nil (fun p h => by simp [Nf.lstA] at h), rfl, fun i h => by simp at h⟩
  have HS3 := Lib.hid (show W2.heap.size = w.heap.size + 2 from HS2.out)
  clear B3 p3 HND HP2
  go_wp2_with fail
  rw [HS3.out]
  generalize W2.alloc (.cells #[.int .i64 0, .slice none 0 0, .slice none 0 0, .bool false, .slice none 0 0] 87) = U at *
  clear c0 c5
  go_loopw [10] (fun i wr => ∃ (q n1 : Nat) (vF1 vL1 : Value) (e1 : Bool) (vN1 : Value) (F1 L1 : List Int) (N1 : List (List Int)) (rows1 : List Value), q ≤ n ∧ i = .int .i64 q ∧ Hid (Nh.CW w k f al n cap (w.heap.size + 2) n1 vF1 vL1 e1 vN1 F1 L1 N1 rows1 wr) ∧ Hid (Nf.PartIs n1 F1 L1 e1 N1 (Nf.onesL (l.take q)) (Rx.empA (l.take q)) (Nf.fstA (l.take q)) (Nf.lstA (l.take q)) (Nf.folA (l.take q)))) (fun i _ => n - (intOf i).toNat)
  case atStart => exact ⟨0, 0, _, _, false, _, [], [], [], [], by omega, rfl, C0, by simpa using P0⟩
  case round =>
    clear C0 P0
    obtain ⟨q, n1, vF1, vL1, e1', vN1, F1, L1, N1, rows1, hq, rfl, HC, HP⟩ := hrel
    obtain ⟨aF, mF, cF, rfl⟩ := HC.out.rf.form
    obtain ⟨aL, mL, cL, rfl⟩ := HC.out.rl.form
    obtain ⟨aN, cN, rfl, _⟩ := HC.out.ow.cells
    by_cases hlt : q < n
    · have hlt' : q < l.length := by rw [HN.out]; exact hlt
      obtain ⟨p, rfl, hp⟩ := HL.out.get q hlt'
      rw [Nat.zero_add] at hp
      have OKy := Lib.hid (OK.out l[q] (List.getElem_mem hlt'))
      have HTK := Lib.hid (List.take_succ_eq_append_getElem hlt')
      have hob : (Nf.onesL (l.take q)) ≤ 2000 := Nat.le_trans (Nh.onesL_take l q) hs
      have hys : Nf.ones l[q] ≤ 2000 := Nat.le_trans (Nh.ones_le l[q]) (Nat.le_trans (Rx.part_le (List.getElem_mem hlt')).1 hs)
      generalize l[q] = y at *
      obtain ⟨k1, f1, a1, m1, cap1, HCELL, hi⟩ := hp.open
      have HCL := Lib.hid HCELL
      have HI := Lib.hid hi
      clear hp hi HCELL
      have S1 := Lib.hid (Nh.small_of HP.out (by omega) (fun p h => Nf.fstA_lt _ _ h) (fun p h => Nf.lstA_lt _ _ h) (fun p q h => (Nf.folA_lt _ _ _ h).2))
      have c5 := HC.out.nd.cell.c5
      simp only [Nat.zero_add] at c5
      have i1 : (0 : Int) ≤ (q : Int) := by omega
      have i2 : (q : Int) < (n : Int) := by omega
      have W0 : Nh.W2 w k f (some p) n cap (w.heap.size + 2) n1 (.slice aF mF cF) (.slice aL mL cL) e1' (.slice aN rows1.length cN) F1 L1 N1 rows1 y wr ⟨none, none, none, none⟩ (fun _ => false) wr.drew := ⟨⟨HC.out.up (Below.refl _ _).drew, Nat.le_refl _, fun _ => rfl, fun _ => rfl, fun _ => rfl, fun _ => rfl, fun o e => by simp at e, fun a b e => by simp at e, fun x e => by simp at e, fun x e => by simp at e, fun x e => by simp at e, fun _ x e => by simp at e, fun _ x e => by simp at e, fun e => by simp at e, fun e => by simp at e⟩, (Below.refl _ _).drew, ⟨fun e => by simp at e, fun e => by simp at e, fun e => by simp at e⟩⟩
      go_upto_region 28 with fail
      clear c5
      refine Rg.regionY (by kernel_rfl) (by kernel_rfl) (Nh.relG w.heap.size q (.agg #[.int .i64 n1, .slice aF mF cF, .slice aL mL cL, .bool e1', .slice aN rows1.length cN]) (.slice (some p) n cap) (Rx.hdr k1 f1 a1 m1 cap1) (p.add (q * 6))) (Nh.W2 w k f (some p) n cap (w.heap.size + 2) n1 (.slice aF mF cF) (.slice aL mL cL) e1' (.slice aN rows1.length cN) F1 L1 N1 rows1 y wr) Nh.MG ⟨none, none, none, none⟩ (fun i j v g w g' w' hij h m => Nh.relG_up hij h m) W0 ⟨?_, ?_, ?_, ?_, ?_, ?_, ?_, ?_, ?_, ?_, ?_, ?_, ?_, ?_, ?_, trivial⟩ ?_
      · intro g L f' x hL hw hd
        have c0 := hw.wg.cw.pb.c0
        have c1 := hw.wg.cw.pb.c1
        have c2 := hw.wg.cw.pb.c2
        have c3 := hw.wg.cw.pb.c3
        have c4 := hw.wg.cw.pb.c4
        have HW := Lib.hid hw
        clear hw hd
        simp only [Rg.step, Rg.all, Act.put, List.setIfInBounds_toArray, List.set_cons_zero, List.set_cons_succ]
        go_simp
        exact ⟨g, rfl, HW.out.on 0 (by decide) (by decide) (by decide) (by decide) (by decide) (by decide), Nh.mg_refl (by decide) (by decide) (by decide) (by decide)⟩
      · intro g L f' x hL hw hd
        have HW := Lib.hid hw
        clear hw hd
        simp only [Rg.step, Rg.all, Act.put, List.setIfInBounds_toArray, List.set_cons_zero, List.set_cons_succ]
        go_simp
        exact ⟨g, rfl, HW.out.on 1 (by decide) (by decide) (by decide) (by decide) (by decide) (by decide), Nh.mg_refl (by decide) (by decide) (by decide) (by decide)⟩
      · intro g L f' x hL hw hd
        have r1 : f' 1 = .pointer (some ⟨w.heap.size, 5, none⟩) := (hd _ (List.mem_cons_self ..) rfl).2
        have c5 := hw.wg.cw.nd.cell.c5
        simp only [Nat.zero_add] at c5
        have HW := Lib.hid hw
        clear hw hd
        simp only [Rg.step, Rg.all, Act.put, List.setIfInBounds_toArray, List.set_cons_zero, List.set_cons_succ]
        go_simp
        exact ⟨g, rfl, HW.out.on 2 (by decide) (by decide) (by decide) (by decide) (by decide) (by decide), Nh.mg_refl (by decide) (by decide) (by decide) (by decide)⟩
      · intro g L f' x hL hw hd
        have HW := Lib.hid hw
        clear hw hd
        simp only [Rg.step, Rg.all, Act.put, List.setIfInBounds_toArray, List.set_cons_zero, List.set_cons_succ]
        go_simp
        exact ⟨g, rfl, HW.out.on 3 (by decide) (by decide) (by decide) (by decide) (by decide) (by decide), Nh.mg_refl (by decide) (by decide) (by decide) (by decide)⟩
      · intro g L f' x hL hw hd
        have r2 : f' 2 = .slice (some p) n cap := (hd _ (List.mem_cons_self ..) rfl).2
        have r3 : f' 3 = .int .i64 q := (hd _ (List.mem_cons_of_mem _ (List.mem_cons_self ..)) rfl).2
        have HW := Lib.hid hw
        clear hw hd
        simp only [Rg.step, Rg.all, Act.put, List.setIfInBounds_toArray, List.set_cons_zero, List.set_cons_succ]
        go_simp
        exact ⟨g, rfl, HW.out.on 4 (by decide) (by decide) (by decide) (by decide) (by decide) (by decide), Nh.mg_refl (by decide) (by decide) (by decide) (by decide)⟩
      · intro g L f' x hL hw hd
        have r4 : f' 4 = .pointer (some (p.add (q * 6))) := (hd _ (List.mem_cons_self ..) rfl).2
        have hc := HCL.out.up hw.wg.cw.bel
        have x0 := hc.c0; have x1 := hc.c1; have x2 := hc.c2; have x3 := hc.c3; have x4 := hc.c4; have x5 := hc.c5
        clear hc
        have HW := Lib.hid hw
        clear hw hd
        simp only [Rg.step, Rg.all, Act.put, List.setIfInBounds_toArray, List.set_cons_zero, List.set_cons_succ]
        go_simp
        exact ⟨g, rfl, HW.out.on 5 (by decide) (by decide) (by decide) (by decide) (by decide) (by decide), Nh.mg_refl (by decide) (by decide) (by decide) (by decide)⟩
      · intro g L f' x hL hw hd
        have r5 : f' 5 = Rx.hdr k1 f1 a1 m1 cap1 := (hd _ (List.mem_cons_self ..) rfl).2
        have C := Lib.hid (OKy.out _ x (HI.out.up hw.wg.cw.bel))
        have HW := Lib.hid hw
        clear hw hd
        simp only [Rg.step, Rg.all, Act.put, List.setIfInBounds_toArray, List.set_cons_zero, List.set_cons_succ]
        go_simp
        refine C.out.mono ?_
        rintro e x1 ⟨n2, vF, vL, em, vN, F, L', N, rfl, h1, h2, b⟩
        have hku := HW.out.wg.ku
        have h7 : L 7 = false := Nh.ff (fun e => by rw [HW.out.dd.d7 e] at hL; simp at hL)
        exact ⟨_, rfl, { g with o := some (.agg #[.int .i64 n2, vF, vL, .bool em, vN]) }, rfl, ⟨by simpa using HW.out.wg.call6 b ⟨n2, vF, vL, em, vN, F, L', N, rfl, h1.mono hku, h2⟩ hL h7, Bs.below_up HW.out.bl b, by simpa using HW.out.dd.on 6 (fun e => by omega) (fun e => by omega) (fun e => by omega)⟩, ⟨fun e => absurd rfl e, fun _ => HW.out.wg.no hL, fun _ => rfl, fun e => by omega, fun _ => rfl, fun e => by omega, fun _ => rfl, fun e => by omega⟩⟩
      · intro g L f' x hL hw hd
        have r0 : f' 0 = .agg #[.int .i64 n1, .slice aF mF cF, .slice aL mL cL, .bool e1', .slice aN rows1.length cN] := (hd _ (List.mem_cons_self ..) rfl).2
        have r6 : g.o = some (f' 6) := (hd _ (List.mem_cons_of_mem _ (List.mem_cons_self ..)) rfl).2
        have h6 : L 6 = true := (hd _ (List.mem_cons_of_mem _ (List.mem_cons_self ..)) rfl).1
        have hof := hw.wg.of _ r6 hL
        have HW := Lib.hid hw
        have H6 := Lib.hid h6
        clear hw hd r6 h6
        obtain ⟨n2, vF2, vL2, em, vN2, F2, L2, N2, ho, hpv, hpt⟩ := hof
        obtain ⟨aF2, mF2, cF2, rfl⟩ := hpv.rf.form
        obtain ⟨aL2, mL2, cL2, rfl⟩ := hpv.rl.form
        obtain ⟨rows2, hn1', hn2'⟩ := hpv.nx
        obtain ⟨aN2, cN2, rfl, hsv2⟩ := hn1'.cells
        obtain ⟨_, _, e8, hsv1⟩ := HW.out.wg.cw.ow.cells
        injection e8 with e8 _ e9
        subst e8
        have S2 := Nh.small_of hpt (by have := hys; omega) (fun p h => Nf.fst_lt _ _ h) (fun p h => Nf.lst_lt _ _ h) (fun p q h => (Nf.fol_lt _ _ _ h).2)
        have C := Lib.hid (beside_any n1 n2 F2 L2 N2 S2 S1.out.n e1' em aF aL aN aF2 aL2 aN2 mF cF mL cL cN mF2 cF2 mL2 cL2 cN2 rows1 rows2 x hsv1 HW.out.wg.cw.rw'.one (by rw [HW.out.wg.cw.rw'.1]; exact S1.out.nl) (hpv.rf.mono (fun _ _ => trivial)) (hpv.rl.mono (fun _ _ => trivial)) hsv2 (hn2'.mono (fun _ _ => trivial)))
        have HPT := Lib.hid hpt
        clear hpv hn1' hn2' hsv1 hsv2 S2 hpt e9
        simp only [Rg.step, Rg.all, Act.put, List.setIfInBounds_toArray, List.set_cons_zero, List.set_cons_succ]
        go_simp
        refine C.out.mono ?_
        rintro e x1 ⟨vF, vL, vN, rs, rfl, R1, R2, O1, R3, b⟩
        have hku := HW.out.wg.ku
        have hfr : ∀ k, x.heap.size ≤ k → Nh.free g k := fun k hk => ⟨fun e => by have := (HW.out.wg.gx k e).2; omega, fun e => by have := (HW.out.wg.gy k e).2; omega⟩
        have BE : Nh.Be wr.heap.size g y n1 (.slice aF mF cF) (.slice aL mL cL) e1' rows1 (.agg #[.int .i64 n1, .slice aF mF cF, .slice aL mL cL, .bool e1', vN]) (.agg #[.int .i64 (n2 + n1 : Nat), vF, vL, .bool em, .slice aN2 rows2.length cN2]) x1 := ⟨n2, vF, vL, vN, em, _, rs, F2, L2, N2, rfl, rfl, HPT.out, R1.mono (fun k hk => ⟨by omega, hk.2, hfr k hk.1⟩), R2.mono (fun k hk => ⟨by omega, hk.2, hfr k hk.1⟩), World.ownsRow.mono O1 hku, R3.mono (fun k hk => ⟨by omega, hk.2, hfr k hk.1⟩), fun k hk => hfr k (World.ownsRow.lt O1 k hk).1, ⟨_, _, _, rfl⟩⟩
        exact ⟨_, rfl, { g with ab := some (_, _) }, ⟨_, _, rfl, rfl⟩, ⟨by simpa using HW.out.wg.call7 b BE hL, Bs.below_up HW.out.bl b, by simpa using HW.out.dd.on 7 (fun _ => H6.out) (fun e => by omega) (fun e => by omega)⟩, ⟨fun _ => rfl, fun e => by omega, fun e => absurd rfl e, fun _ => HW.out.wg.nab hL, fun _ => rfl, fun e => by omega, fun _ => rfl, fun e => by omega⟩⟩
      · intro g L f' x hL hw hd
        have q09 : ∃ a b, g.ab = some (a, b) ∧ f' 7 = .tuple #[a, b] := (hd _ (List.mem_cons_self ..) rfl).2
        have HW := Lib.hid hw
        clear hw hd
        simp only [Rg.step, Rg.all, Act.put, List.setIfInBounds_toArray, List.set_cons_zero, List.set_cons_succ]
        obtain ⟨a, b, e7, r7⟩ := q09
        have H7 := Lib.hid e7
        clear e7
        go_simp
        exact ⟨g, ⟨a, b, H7.out, rfl⟩, HW.out.on 8 (by decide) (by decide) (by decide) (by decide) (by decide) (by decide), Nh.mg_refl (by decide) (by decide) (by decide) (by decide)⟩
      · intro g L f' x hL hw hd
        have q09 : ∃ a b, g.ab = some (a, b) ∧ f' 8 = .tuple #[a, b] := (hd _ (List.mem_cons_self ..) rfl).2
        have HW := Lib.hid hw
        clear hw hd
        simp only [Rg.step, Rg.all, Act.put, List.setIfInBounds_toArray, List.set_cons_zero, List.set_cons_succ]
        obtain ⟨a, b, e7, r8⟩ := q09
        have H7 := Lib.hid e7
        clear e7
        go_simp
        exact ⟨g, ⟨b, H7.out⟩, HW.out.on 9 (by decide) (by decide) (by decide) (by decide) (by decide) (by decide), Nh.mg_refl (by decide) (by decide) (by decide) (by decide)⟩
      · intro g L f' x hL hw hd
        have q09 : ∃ a b, g.ab = some (a, b) ∧ f' 8 = .tuple #[a, b] := (hd _ (List.mem_cons_self ..) rfl).2
        have HW := Lib.hid hw
        clear hw hd
        simp only [Rg.step, Rg.all, Act.put, List.setIfInBounds_toArray, List.set_cons_zero, List.set_cons_succ]
        obtain ⟨a, b, e7, r8⟩ := q09
        have H7 := Lib.hid e7
        clear e7
        go_simp
        exact ⟨g, ⟨a, H7.out⟩, HW.out.on 10 (by decide) (by decide) (by decide) (by decide) (by decide) (by decide), Nh.mg_refl (by decide) (by decide) (by decide) (by decide)⟩
      · intro g L f' x hL hw hd
        have HW := Lib.hid hw
        clear hw hd
        simp only [Rg.step, Rg.all, Act.put, List.setIfInBounds_toArray, List.set_cons_zero, List.set_cons_succ]

        go_simp
        have h13 : L 13 = false := Nh.ff (fun e => by rw [(HW.out.dd.d13 e).2.1] at hL; simp at hL)
        have h14 : L 14 = false := Nh.ff (fun e => by rw [HW.out.dd.d14 e] at h13; simp at h13)
        exact ⟨{ g with x := some x.heap.size }, ⟨_, rfl, rfl⟩, ⟨by simpa using HW.out.wg.all11 hL h13 h14, Bs.below_up HW.out.bl (Bs.below1 x _), by simpa using HW.out.dd.on 11 (fun e => by omega) (fun e => by omega) (fun e => by omega)⟩, ⟨fun _ => rfl, fun e => by omega, fun _ => rfl, fun e => by omega, fun e => absurd rfl e, fun _ => HW.out.wg.nx hL, fun _ => rfl, fun e => by omega⟩⟩
      · intro g L f' x hL hw hd
        have HW := Lib.hid hw
        clear hw hd
        simp only [Rg.step, Rg.all, Act.put, List.setIfInBounds_toArray, List.set_cons_zero, List.set_cons_succ]

        go_simp
        have h13 : L 13 = false := Nh.ff (fun e => by rw [(HW.out.dd.d13 e).2.2] at hL; simp at hL)
        have h14 : L 14 = false := Nh.ff (fun e => by rw [HW.out.dd.d14 e] at h13; simp at h13)
        exact ⟨{ g with y := some x.heap.size }, ⟨_, rfl, rfl⟩, ⟨by simpa using HW.out.wg.all12 hL h13 h14, Bs.below_up HW.out.bl (Bs.below1 x _), by simpa using HW.out.dd.on 12 (fun e => by omega) (fun e => by omega) (fun e => by omega)⟩, ⟨fun _ => rfl, fun e => by omega, fun _ => rfl, fun e => by omega, fun _ => rfl, fun e => by omega, fun e => absurd rfl e, fun _ => HW.out.wg.ny hL⟩⟩
      · intro g L f' x hL hw hd
        have q09 : ∃ b, g.x = some b ∧ f' 11 = .pointer (some ⟨b, 0, none⟩) := (hd _ (List.mem_cons_self ..) rfl).2
        have q19 : ∃ b, g.ab = some (f' 9, b) := (hd _ (List.mem_cons_of_mem _ (List.mem_cons_self ..)) rfl).2
        have h7 : L 7 = true := (hd { on := 7, ground := Ground.chain } (by simp) rfl).1
        have h11 : L 11 = true := (hd { on := 11, ground := Ground.data } (by simp) rfl).1
        have h12 : L 12 = true := (hd { on := 12, ground := Ground.phase } (by simp) rfl).1
        have HZ := Lib.hid hw.wg.zx
        have HW := Lib.hid hw
        clear hw hd
        simp only [Rg.step, Rg.all, Act.put, List.setIfInBounds_toArray, List.set_cons_zero, List.set_cons_succ]
        obtain ⟨bx, e11, r11⟩ := q09
        obtain ⟨vb, e9⟩ := q19
        have hbe := HW.out.wg.be _ _ e9
        obtain ⟨n2, vF, vL, vN, e2', vN2, rs, F2, L2, N2, BE⟩ := hbe
        obtain ⟨aV, nV, cV, rfl⟩ := BE.ow.form
        have ea := BE.ea
        rw [ea] at e9
        have H9 := Lib.hid e9
        have H11 := Lib.hid e11
        have hz := HZ.out hL bx e11
        have z0 := hz.c0; have z1 := hz.c1; have z2 := hz.c2; have z3 := hz.c3; have z4 := hz.c4
        have y0 := hz.z 0 (by decide); have y1 := hz.z 1 (by decide); have y2 := hz.z 2 (by decide); have y3 := hz.z 3 (by decide); have y4 := hz.z 4 (by decide)
        clear hz BE HZ e9 e11
        go_simp
        have h14 : L 14 = false := Nh.ff (fun e => by rw [HW.out.dd.d14 e] at hL; simp at hL)
        have hst := HW.out.wg.st13 wr rfl HC.out HW.out.bl h7 hL h14 H11.out H9.out
        rw [Nh.put_def] at hst
        exact ⟨g, trivial, ⟨by simpa using hst.1, by simpa using hst.2, by simpa using HW.out.dd.on 13 (fun e => by omega) (fun _ => ⟨h7, h11, h12⟩) (fun e => by omega)⟩, Nh.mg_refl (by decide) (by decide) (by decide) (by decide)⟩
      · intro g L f' x hL hw hd
        have q09 : ∃ b, g.y = some b ∧ f' 12 = .pointer (some ⟨b, 0, none⟩) := (hd _ (List.mem_cons_self ..) rfl).2
        have q19 : ∃ a, g.ab = some (a, f' 10) := (hd _ (List.mem_cons_of_mem _ (List.mem_cons_self ..)) rfl).2
        have h7 : L 7 = true := (hd { on := 7, ground := Ground.phase } (by simp) rfl).1
        have h13 : L 13 = true := (hd { on := 13, ground := Ground.chain } (by simp) rfl).1
        have HZ := Lib.hid hw.wg.zy
        have HW := Lib.hid hw
        clear hw hd
        simp only [Rg.step, Rg.all, Act.put, List.setIfInBounds_toArray, List.set_cons_zero, List.set_cons_succ]
        obtain ⟨bx, e11, r12⟩ := q09
        obtain ⟨va, e9⟩ := q19
        have hbe := HW.out.wg.be _ _ e9
        obtain ⟨n2, vF, vL, vN, e2', vN2, rs, F2, L2, N2, BE⟩ := hbe
        obtain ⟨aV, nV, cV, rfl⟩ := BE.rf.form
        obtain ⟨aW, nW, cW, rfl⟩ := BE.rl.form
        obtain ⟨aY, nY, cY, rfl⟩ := BE.f2
        have eb := BE.eb
        rw [eb] at e9
        have H9 := Lib.hid e9
        have H11 := Lib.hid e11
        have hz := HZ.out hL bx e11
        have z0 := hz.c0; have z1 := hz.c1; have z2 := hz.c2; have z3 := hz.c3; have z4 := hz.c4
        have y0 := hz.z 0 (by decide); have y1 := hz.z 1 (by decide); have y2 := hz.z 2 (by decide); have y3 := hz.z 3 (by decide); have y4 := hz.z 4 (by decide)
        clear hz BE HZ e9 e11
        go_simp
        have hst := HW.out.wg.st14 wr rfl HC.out HW.out.bl h7 h13 hL H11.out H9.out
        rw [Nh.put_def] at hst
        exact ⟨g, trivial, ⟨by simpa using hst.1, by simpa using hst.2, by simpa using HW.out.dd.on 14 (fun e => by omega) (fun e => by omega) (fun _ => h13)⟩, Nh.mg_refl (by decide) (by decide) (by decide) (by decide)⟩
      · intro g L f' x hall hw hR
        have q11 : ∃ b, g.x = some b ∧ f' 11 = .pointer (some ⟨b, 0, none⟩) := hR 11 (by decide)
        have q12 : ∃ b, g.y = some b ∧ f' 12 = .pointer (some ⟨b, 0, none⟩) := hR 12 (by decide)
        have hdn := hw.done (hall 13 (by decide)) (hall 14 (by decide))
        have HBL := Lib.hid hw.bl
        clear hw hR hall
        simp only [Rg.all, Act.put, List.setIfInBounds_toArray, List.set_cons_zero, List.set_cons_succ]
        obtain ⟨bx, bz, n2, vF, vL, vN, e2', vN2, rs, F2, L2, N2, hx, hz, AB⟩ := hdn
        obtain ⟨bx', hx', r11⟩ := q11
        obtain ⟨bz', hz', r12⟩ := q12
        rw [hx] at hx'
        rw [hz] at hz'
        injection hx' with hx'
        injection hz' with hz'
        subst hx'
        subst hz'
        obtain ⟨aF2, mF2, cF2, rfl⟩ := AB.rf.form
        obtain ⟨aL2, mL2, cL2, rfl⟩ := AB.rl.form
        obtain ⟨aV, nV, cV, rfl⟩ := AB.ow.form
        have x0 := AB.pa.c0; have x1 := AB.pa.c1; have x2 := AB.pa.c2; have x3 := AB.pa.c3; have x4 := AB.pa.c4
        have z0 := AB.pb.c0; have z1 := AB.pb.c1; have z2 := AB.pb.c2; have z3 := AB.pb.c3; have z4 := AB.pb.c4
        have HAB := Lib.hid AB
        clear AB hx hz
        rw [r11, r12]
        clear r11 r12
        generalize f' 0 = t0 at *
        generalize f' 1 = t1 at *
        generalize f' 2 = t2 at *
        generalize f' 3 = t3 at *
        generalize f' 4 = t4 at *
        generalize f' 5 = t5 at *
        generalize f' 6 = t6 at *
        generalize f' 7 = t7 at *
        generalize f' 8 = t8 at *
        generalize f' 9 = t9 at *
        generalize f' 10 = t10 at *
        clear x0 x1 x2 x3 x4 z0 z1 z2 z3 z4
        have hl1 : F1.length ≤ 10000 := by have := (Nh.rise_len HP.out.fst (Nf.onesL (l.take q)) (fun p h => Nf.fstA_lt _ _ h)).1; omega
        have hl2 : L1.length ≤ 10000 := by have := (Nh.rise_len HP.out.lst (Nf.onesL (l.take q)) (fun p h => Nf.lstA_lt _ _ h)).1; omega
        have hl3 : (Nf.shift F2 n1).length ≤ 10000 := by
          unfold Nf.shift
          rw [List.length_map]
          have := (Nh.rise_len HAB.out.pt.fst (Nf.ones y) (fun p h => Nf.fst_lt _ _ h)).1
          omega
        have hl4 : (Nf.shift L2 n1).length ≤ 10000 := by
          unfold Nf.shift
          rw [List.length_map]
          have := (Nh.rise_len HAB.out.pt.lst (Nf.ones y) (fun p h => Nf.lst_lt _ _ h)).1
          omega
        have HRF := Lib.hid (HC.out.rf.lt.mono (fun _ _ => trivial : ∀ k, _ → (fun _ => True) k))
        have HRL := Lib.hid (HC.out.rl.lt.mono (fun _ _ => trivial : ∀ k, _ → (fun _ => True) k))
        go_upto_region 29 with fail
        refine Rg.regionH (by kernel_rfl) 184 (by kernel_rfl) (by kernel_rfl) (by decide) (by exact Nat.le_refl 184) (Rg.rel (Nh.relV bx bz ((n2 : Int) + (n1 : Int)) e1' e2' (.slice aV nV cV) (.slice aF mF cF) (.slice aF2 mF2 cF2) (.slice aL mL cL) (.slice aL2 mL2 cL2) (Nh.Ka wr.heap.size (.slice aV nV cV)) (Nf.union F1 (Nf.shift F2 n1)) (Nf.union L1 (Nf.shift L2 n1)))) (fun u => (Nh.AB w k f (some p) n cap (w.heap.size + 2) n1 (.slice aF mF cF) (.slice aL mL cL) e1' (.slice aN rows1.length cN) F1 L1 N1 rows1 y wr.heap.size bx bz n2 (.slice aF2 mF2 cF2) (.slice aL2 mL2 cL2) (.slice aV nV cV) e2' vN2 rs F2 L2 N2) u ∧ Below x.heap.size x u) (fun w w' => Below w.heap.size w w') (fun i v w w' h _ hb => Rg.rel_up (Nh.relV_up _ _ _ _ _ _ _ _ _ _ _ _ _) h hb) ⟨HAB.out.up (Below.refl _ _).drew, (Below.refl _ _).drew⟩ (fun o h => by simp at h; subst h; rfl) ⟨?_, ?_, ?_, ?_, ?_, ?_, ?_, ?_, ?_, ?_, ?_, ?_, ?_, ?_, ?_, ?_, ?_, ?_, ?_, ?_, ?_, trivial⟩ ?_
        · intro fv u hw hd
          have HW := Lib.hid hw
          clear hw hd
          simp only [Rg.step, Rg.all, Act.put, List.setIfInBounds_toArray, List.set_cons_zero, List.set_cons_succ]
          go_simp
          exact ⟨rfl, HW.out, Below.refl _ _⟩
        · intro fv u hw hd
          have r0 : fv 0 = .pointer (some ⟨bz, 0, none⟩) := hd _ (List.mem_cons_self ..)
          have c0 := hw.1.pb.c0
          rw [Int.natCast_add] at c0
          have HW := Lib.hid hw
          clear hw hd
          simp only [Rg.step, Rg.all, Act.put, List.setIfInBounds_toArray, List.set_cons_zero, List.set_cons_succ]
          go_simp
          exact ⟨rfl, HW.out, Below.refl _ _⟩
        · intro fv u hw hd
          have HW := Lib.hid hw
          clear hw hd
          simp only [Rg.step, Rg.all, Act.put, List.setIfInBounds_toArray, List.set_cons_zero, List.set_cons_succ]
          go_simp
          exact ⟨rfl, HW.out, Below.refl _ _⟩
        · intro fv u hw hd
          have r2 : fv 2 = .pointer (some ⟨bx, 3, none⟩) := hd _ (List.mem_cons_self ..)
          have c3 := hw.1.pa.c3
          have HW := Lib.hid hw
          clear hw hd
          simp only [Rg.step, Rg.all, Act.put, List.setIfInBounds_toArray, List.set_cons_zero, List.set_cons_succ]
          go_simp
          exact ⟨rfl, HW.out, Below.refl _ _⟩
        · intro fv u hw hd
          have r3 : fv 3 = .bool e1' := hd _ (List.mem_cons_self ..)
          have HW := Lib.hid hw
          clear hw hd
          simp only [Rg.step, Rg.all, Act.put, List.setIfInBounds_toArray, List.set_cons_zero, List.set_cons_succ]
          go_simp
          exact ⟨rfl, HW.out, Below.refl _ _⟩
        · intro fv u hw hd
          have r4 : fv 4 = .bool e1' := hd _ (List.mem_cons_self ..)
          have HW := Lib.hid hw
          clear hw hd
          simp only [r4]
          cases e1'
          · rw [if_pos Rg.isB_ff]
            simp only [Rg.step, Rg.all, Act.put, List.setIfInBounds_toArray, List.set_cons_zero, List.set_cons_succ]
            go_simp
            exact ⟨rfl, HW.out, Below.refl _ _⟩
          · rw [if_neg (by rw [Rg.isB_tf]; decide)]
            exact rfl
        · intro fv u hw hd
          have r5 : if e1' = true then fv 5 = undef else fv 5 = .pointer (some ⟨bz, 3, none⟩) := hd _ (List.mem_cons_self ..)
          have r4 : fv 4 = .bool e1' := hd _ (List.mem_cons_of_mem _ (List.mem_cons_self ..))
          have c3 := hw.1.pb.c3
          have HW := Lib.hid hw
          clear hw hd
          simp only [r4]
          cases e1'
          · rw [if_pos Rg.isB_ff]
            simp only [Bool.false_eq_true, if_false] at r5
            simp only [Rg.step, Rg.all, Act.put, List.setIfInBounds_toArray, List.set_cons_zero, List.set_cons_succ]
            go_simp
            exact ⟨rfl, HW.out, Below.refl _ _⟩
          · rw [if_neg (by rw [Rg.isB_tf]; decide)]
            exact rfl
        · intro fv u hw hd
          have r4 : fv 4 = .bool e1' := hd _ (List.mem_cons_self ..)
          have r6 : if e1' = true then fv 6 = undef else fv 6 = .bool e2' := hd _ (List.mem_cons_of_mem _ (List.mem_cons_self ..))
          have HW := Lib.hid hw
          clear hw hd
          simp only [Rg.step, Rg.all, Act.put, List.setIfInBounds_toArray, List.set_cons_zero, List.set_cons_succ]
          cases e1'
          · simp only [Bool.false_eq_true, if_false] at r6
            go_simp
            exact ⟨by simp [Rg.rel, Nh.relV], HW.out, Below.refl _ _⟩
          · simp only [if_true] at r6
            go_simp
            exact ⟨by simp [Rg.rel, Nh.relV], HW.out, Below.refl _ _⟩
        · intro fv u hw hd
          have HW := Lib.hid hw
          clear hw hd
          simp only [Rg.step, Rg.all, Act.put, List.setIfInBounds_toArray, List.set_cons_zero, List.set_cons_succ]
          go_simp
          exact ⟨rfl, HW.out, Below.refl _ _⟩
        · intro fv u hw hd
          have r8 : fv 8 = .pointer (some ⟨bx, 4, none⟩) := hd _ (List.mem_cons_self ..)
          have c4 := hw.1.pa.c4
          have HW := Lib.hid hw
          clear hw hd
          simp only [Rg.step, Rg.all, Act.put, List.setIfInBounds_toArray, List.set_cons_zero, List.set_cons_succ]
          go_simp
          exact ⟨rfl, HW.out, Below.refl _ _⟩
        · intro fv u hw hd
          have HW := Lib.hid hw
          clear hw hd
          simp only [Rg.step, Rg.all, Act.put, List.setIfInBounds_toArray, List.set_cons_zero, List.set_cons_succ]
          go_simp
          exact ⟨rfl, HW.out, Below.refl _ _⟩
        · intro fv u hw hd
          have r10 : fv 10 = .pointer (some ⟨bx, 1, none⟩) := hd _ (List.mem_cons_self ..)
          have c1 := hw.1.pa.c1
          have HW := Lib.hid hw
          clear hw hd
          simp only [Rg.step, Rg.all, Act.put, List.setIfInBounds_toArray, List.set_cons_zero, List.set_cons_succ]
          go_simp
          exact ⟨rfl, HW.out, Below.refl _ _⟩
        · intro fv u hw hd
          have HW := Lib.hid hw
          clear hw hd
          simp only [Rg.step, Rg.all, Act.put, List.setIfInBounds_toArray, List.set_cons_zero, List.set_cons_succ]
          go_simp
          exact ⟨rfl, HW.out, Below.refl _ _⟩
        · intro fv u hw hd
          have r12 : fv 12 = .pointer (some ⟨bz, 1, none⟩) := hd _ (List.mem_cons_self ..)
          have c1 := hw.1.pb.c1
          have HW := Lib.hid hw
          clear hw hd
          simp only [Rg.step, Rg.all, Act.put, List.setIfInBounds_toArray, List.set_cons_zero, List.set_cons_succ]
          go_simp
          exact ⟨rfl, HW.out, Below.refl _ _⟩
        · intro fv u hw hd
          have r11 : fv 11 = .slice aF mF cF := hd _ (List.mem_cons_self ..)
          have r13 : fv 13 = .slice aF2 mF2 cF2 := hd _ (List.mem_cons_of_mem _ (List.mem_cons_self ..))
          have C := Lib.hid (refUnion_any F1 (Nf.shift F2 n1) _ _ u (Nh.Ka wr.heap.size (.slice aV nV cV)) hw.1.ka ((HRF.out.up HBL.out).up hw.2) (hw.1.rf.mono (fun _ _ => trivial)) hl1 hl3)
          have HW := Lib.hid hw
          clear hw hd
          simp only [Rg.step, Rg.all, Act.put, List.setIfInBounds_toArray, List.set_cons_zero, List.set_cons_succ]
          go_simp
          refine C.out.mono ?_
          rintro e u1 ⟨v1, rfl, R1, b1⟩
          exact ⟨_, rfl, R1, ⟨HW.out.1.up b1, Bs.below_up HW.out.2 b1⟩, b1⟩
        · intro fv u hw hd
          have HW := Lib.hid hw
          clear hw hd
          simp only [Rg.step, Rg.all, Act.put, List.setIfInBounds_toArray, List.set_cons_zero, List.set_cons_succ]
          go_simp
          exact ⟨rfl, HW.out, Below.refl _ _⟩
        · intro fv u hw hd
          have r15 : fv 15 = .pointer (some ⟨bx, 2, none⟩) := hd _ (List.mem_cons_self ..)
          have c2 := hw.1.pa.c2
          have HW := Lib.hid hw
          clear hw hd
          simp only [Rg.step, Rg.all, Act.put, List.setIfInBounds_toArray, List.set_cons_zero, List.set_cons_succ]
          go_simp
          exact ⟨rfl, HW.out, Below.refl _ _⟩
        · intro fv u hw hd
          have HW := Lib.hid hw
          clear hw hd
          simp only [Rg.step, Rg.all, Act.put, List.setIfInBounds_toArray, List.set_cons_zero, List.set_cons_succ]
          go_simp
          exact ⟨rfl, HW.out, Below.refl _ _⟩
        · intro fv u hw hd
          have r17 : fv 17 = .pointer (some ⟨bz, 2, none⟩) := hd _ (List.mem_cons_self ..)
          have c2 := hw.1.pb.c2
          have HW := Lib.hid hw
          clear hw hd
          simp only [Rg.step, Rg.all, Act.put, List.setIfInBounds_toArray, List.set_cons_zero, List.set_cons_succ]
          go_simp
          exact ⟨rfl, HW.out, Below.refl _ _⟩
        · intro fv u hw hd
          have r16 : fv 16 = .slice aL mL cL := hd _ (List.mem_cons_self ..)
          have r18 : fv 18 = .slice aL2 mL2 cL2 := hd _ (List.mem_cons_of_mem _ (List.mem_cons_self ..))
          have C := Lib.hid (refUnion_any L1 (Nf.shift L2 n1) _ _ u (Nh.Ka wr.heap.size (.slice aV nV cV)) hw.1.ka ((HRL.out.up HBL.out).up hw.2) (hw.1.rl.mono (fun _ _ => trivial)) hl2 hl4)
          have HW := Lib.hid hw
          clear hw hd
          simp only [Rg.step, Rg.all, Act.put, List.setIfInBounds_toArray, List.set_cons_zero, List.set_cons_succ]
          go_simp
          refine C.out.mono ?_
          rintro e u1 ⟨v1, rfl, R1, b1⟩
          exact ⟨_, rfl, R1, ⟨HW.out.1.up b1, Bs.below_up HW.out.2 b1⟩, b1⟩
        · intro fv u hw hd
          have r1 : fv 1 = .int .i64 ((n2 : Int) + (n1 : Int)) := hd _ (List.mem_cons_self ..)
          have r7 : fv 7 = .bool (e1' || e2') := hd _ (List.mem_cons_of_mem _ (List.mem_cons_self ..))
          have r9 : fv 9 = .slice aV nV cV := hd _ (List.mem_cons_of_mem _ (List.mem_cons_of_mem _ (List.mem_cons_self ..)))
          have r14 : Nf.Row u (Nh.Ka wr.heap.size (.slice aV nV cV)) (fv 14) (Nf.union F1 (Nf.shift F2 n1)) := hd _ (List.mem_cons_of_mem _ (List.mem_cons_of_mem _ (List.mem_cons_of_mem _ (List.mem_cons_self ..))))
          have r19 : Nf.Row u (Nh.Ka wr.heap.size (.slice aV nV cV)) (fv 19) (Nf.union L1 (Nf.shift L2 n1)) := hd _ (List.mem_cons_of_mem _ (List.mem_cons_of_mem _ (List.mem_cons_of_mem _ (List.mem_cons_of_mem _ (List.mem_cons_self ..)))))
          obtain ⟨a14, n14, c14, e14⟩ := r14.form
          obtain ⟨a19, n19, c19, e19⟩ := r19.form
          rw [e14] at r14
          rw [e19] at r19
          have HW := Lib.hid hw
          have R14 := Lib.hid r14
          have R19 := Lib.hid r19
          clear hw hd r14 r19
          simp only [Rg.step, Rg.all, Act.put, List.setIfInBounds_toArray, List.set_cons_zero, List.set_cons_succ]
          go_simp
          exact ⟨⟨_, _, rfl, R14.out, R19.out⟩, HW.out, Below.refl _ _⟩
        · intro fv u hw hR o ho
          have r20 : ∃ vF vL, fv 20 = .agg #[.int .i64 ((n2 : Int) + (n1 : Int)), vF, vL, .bool (e1' || e2'), .slice aV nV cV] ∧ Nf.Row u (Nh.Ka wr.heap.size (.slice aV nV cV)) vF (Nf.union F1 (Nf.shift F2 n1)) ∧ Nf.Row u (Nh.Ka wr.heap.size (.slice aV nV cV)) vL (Nf.union L1 (Nf.shift L2 n1)) := hR 20 (by decide)
          simp at ho
          subst ho
          simp only [Rg.step, Rg.all, Act.put, List.setIfInBounds_toArray, List.set_cons_zero, List.set_cons_succ]
          obtain ⟨vFq, vLq, r20, R1, R2⟩ := r20
          obtain ⟨aFq, mFq, cFq, rfl⟩ := R1.form
          obtain ⟨aLq, mLq, cLq, rfl⟩ := R2.form
          have hcw := hw.1.alt HC.out (Bs.below_up HBL.out hw.2) (n2 + n1) (e1' || e2') R1 R2
          rw [Int.natCast_add, Nh.put_def] at hcw
          have HCW := Lib.hid hcw
          have HPC := Lib.hid (Nf.part_alt HP.out HAB.out.pt)
          have p0 := hw.1.cw.pb.c0; have y0 := hw.1.cw.pb.z 0 (by decide)
          have p1 := hw.1.cw.pb.c1; have y1 := hw.1.cw.pb.z 1 (by decide)
          have p2 := hw.1.cw.pb.c2; have y2 := hw.1.cw.pb.z 2 (by decide)
          have p3 := hw.1.cw.pb.c3; have y3 := hw.1.cw.pb.z 3 (by decide)
          have p4 := hw.1.cw.pb.c4; have y4 := hw.1.cw.pb.z 4 (by decide)
          clear hw hR hcw R1 R2
          generalize fv 0 = fz0 at *
          generalize fv 1 = fz1 at *
          generalize fv 2 = fz2 at *
          generalize fv 3 = fz3 at *
          generalize fv 4 = fz4 at *
          generalize fv 5 = fz5 at *
          generalize fv 6 = fz6 at *
          generalize fv 7 = fz7 at *
          generalize fv 8 = fz8 at *
          generalize fv 9 = fz9 at *
          generalize fv 10 = fz10 at *
          generalize fv 11 = fz11 at *
          generalize fv 12 = fz12 at *
          generalize fv 13 = fz13 at *
          generalize fv 14 = fz14 at *
          generalize fv 15 = fz15 at *
          generalize fv 16 = fz16 at *
          generalize fv 17 = fz17 at *
          generalize fv 18 = fz18 at *
          generalize fv 19 = fz19 at *
          go_simp
          go_wp2_with fail
          go_roundw
          case rel => exact ⟨q + 1, n2 + n1, _, _, _, _, _, _, _, _, by omega, by go_num, HCW, Lib.hid (by
            rw [HTK.out]
            exact HPC.out)⟩
          case measure => simp [intOf]; omega
    · have hqe : l.take q = l := List.take_of_length_le (by rw [HN.out]; omega)
      have hp1 := HP.out
      rw [hqe] at hp1
      have HO := Lib.hid (HC.out.out (Nh.node_alt HK2.out f hp1))
      have q0 := HC.out.pb.c0; have q1 := HC.out.pb.c1; have q2 := HC.out.pb.c2; have q3 := HC.out.pb.c3; have q4 := HC.out.pb.c4
      have y0 := HC.out.p2.z 0 (by decide); have y1 := HC.out.p2.z 1 (by decide); have y2 := HC.out.p2.z 2 (by decide); have y3 := HC.out.p2.z 3 (by decide); have y4 := HC.out.p2.z 4 (by decide)
      have p0 := HC.out.p2.c0; have p1 := HC.out.p2.c1; have p2 := HC.out.p2.c2; have p3 := HC.out.p2.c3; have p4 := HC.out.p2.c4
      have c5 := HC.out.nd.cell.c5
      simp only [Nat.zero_add] at c5
      have hv := Nh.put_pb HC.out.p2 n1 (.slice aF mF cF) (.slice aL mL cL) e1' (.slice aN rows1.length cN)
      rw [Nh.put_def] at HO hv
      have v0 := hv.c0; have v1 := hv.c1; have v2 := hv.c2; have v3 := hv.c3; have v4 := hv.c4
      have V := Lib.hid hv
      clear hp1 hqe v0 v1 v2 v3 v4 hv
      go_wp2_with fail
      have v0 := V.out.c0; have v1 := V.out.c1; have v2 := V.out.c2; have v3 := V.out.c3; have v4 := V.out.c4
      refine bodyPost_ret (v := .agg #[.int .i64 n1, .slice aF mF cF, .slice aL mL cL, .bool e1', .slice aN rows1.length cN]) (by simp [results, Try.results41, go_sem, v0, v1, v2, v3, v4]) rfl HO.out
end Go.Proofs.Ytnbbepgjpfhjdaa
