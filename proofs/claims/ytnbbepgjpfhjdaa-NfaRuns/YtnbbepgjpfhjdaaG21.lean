/- What the document's of answers of a STAR, walked. What the document's of answers of a NIL and of a ONE; of any expression. -/
import Derived.Test.YtnbbepgjpfhjdaaG19
import Derived.Test.YtnbbepgjpfhjdaaG20
namespace Go.Proofs.Ytnbbepgjpfhjdaa
set_option linter.unusedVariables false
set_option linter.unusedSimpArgs false
open Go.RowKit
def Nh.Ks (H b : Nat) (vN : Value) (k : Nat) : Prop := H + 1 < k ∧ some k ≠ vN.ownBlock ∧ k ≠ b
structure Nh.SW (w : World) (k : Nat) (f : Nat → Bool) (al : Option Addr) (n cap b n1 : Nat) (vF vL vN : Value) (F L : List Int) (NQ : List (List Int)) (u : World) : Prop where
  bel : Below w.heap.size w u
  nd : Rx.Nod u w.heap.size k f al n cap
  p2 : Nh.PB u (w.heap.size + 1) 0 (.slice none 0 0) (.slice none 0 0) false (.slice none 0 0)
  pb : Nh.PB u b n1 vF vL true vN
  rf : Nf.Row u (Nh.Ks w.heap.size b vN) vF F
  rl : Nf.Row u (Nh.Ks w.heap.size b vN) vL L
  nx : ∃ rows, Ng.Own (w.heap.size + 2) vN rows u ∧ Nh.Rows u (Nh.Ks w.heap.size b vN) rows NQ
  fr : ∀ j, vN.ownBlock = some j → w.heap.size + 1 < j ∧ j ≠ b
  hb : w.heap.size + 1 < b
theorem Nh.SW.up {w : World} {k : Nat} {f : Nat → Bool} {al : Option Addr} {n cap b n1 : Nat} {vF vL vN : Value} {F L : List Int} {NQ : List (List Int)} {u u' : World} (h : Nh.SW w k f al n cap b n1 vF vL vN F L NQ u) (hb : Below u.heap.size u u') : Nh.SW w k f al n cap b n1 vF vL vN F L NQ u' := by
  obtain ⟨rows, h1, h2⟩ := h.nx
  exact ⟨Bs.below_up h.bel hb, h.nd.up hb, h.p2.up hb, h.pb.up hb, h.rf.up hb, h.rl.up hb, ⟨rows, h1.up hb, h2.up hb⟩, h.fr, h.hb⟩
theorem Nh.SW.put {w : World} {k : Nat} {f : Nat → Bool} {al : Option Addr} {n cap b n1 : Nat} {vF vL : Value} {g m c : Nat} {F L : List Int} {NQ : List (List Int)} {u : World} (h : Nh.SW w k f al n cap b n1 vF vL (.slice (some ⟨g, 0, none⟩) m c) F L NQ u) (i : Nat) {v : Value} {l : List Int} (hv : Nf.Row u (Nh.Ks w.heap.size b (.slice (some ⟨g, 0, none⟩) m c)) v l) : Nh.SW w k f al n cap b n1 vF vL (.slice (some ⟨g, 0, none⟩) m c) F L (NQ.set i l) (u.setCell ⟨g, i, none⟩ v) := by
  obtain ⟨rows, h1, h2⟩ := h.nx
  have hg := h.fr g rfl
  have hm : m = rows.length := by
    obtain ⟨a, c, e, _⟩ := h1.cells
    injection e
  subst hm
  have hn : ¬ Nh.Ks w.heap.size b (.slice (some ⟨g, 0, none⟩) rows.length c) g := fun e => e.2.1 rfl
  have hs := (World.ownsRow.stored h1 i v).1
  have e0 : (u.setCell ⟨g, i, none⟩ v).heap[w.heap.size]? = u.heap[w.heap.size]? := Below.heap_setCell _ _ _ _ (by simp; omega)
  refine ⟨h.bel.setCell (by simp; omega) _, ⟨Ng.nod_same h.nd e0, fun j hj => (World.frozen?_of_block (a := ⟨w.heap.size, j, none⟩) e0).trans (h.nd.frz j hj)⟩, h.p2.far (by omega) _, h.pb.far hg.2 _, h.rf.set hn _, h.rl.set hn _, ⟨rows.set i v, ?_, (h2.put i hv).set hn _⟩, h.fr, h.hb⟩
  unfold Ng.Own
  rw [List.length_set]
  exact hs
theorem Nh.SW.ks {w : World} {k : Nat} {f : Nat → Bool} {al : Option Addr} {n cap b n1 : Nat} {vF vL vN : Value} {F L : List Int} {NQ : List (List Int)} {u : World} (h : Nh.SW w k f al n cap b n1 vF vL vN F L NQ u) : ∀ j, u.heap.size ≤ j → Nh.Ks w.heap.size b vN j := fun j hj => by
  obtain ⟨rows, h1, _⟩ := h.nx
  have := h.pb.lt
  have := h.hb
  exact ⟨by omega, fun e => by have := (World.ownsRow.lt h1 j e.symm).2; omega, by omega⟩
theorem Nh.SW.out {w : World} {k : Nat} {f : Nat → Bool} {al : Option Addr} {n cap b n1 : Nat} {vF vL vN : Value} {F L : List Int} {NQ : List (List Int)} {u : World} {x : Rx} (h : Nh.SW w k f al n cap b n1 vF vL vN F L NQ u) (hp : Nf.PartIs n1 F L true NQ (Nf.ones x) x.emp (Nf.fst x) (Nf.lst x) (Nf.fol x)) : Nh.OPost w x (.returned (.agg #[.int .i64 n1, vF, vL, .bool true, vN])) (Nh.put u (w.heap.size + 1) n1 vF vL true vN) := by
  have hs : ∀ j, j ≠ w.heap.size + 1 → (Nh.put u (w.heap.size + 1) n1 vF vL true vN).heap[j]? = u.heap[j]? := fun j hj => Nh.put_far _ _ _ _ _ _ _ _ hj
  obtain ⟨rows, h1, h2⟩ := h.nx
  refine ⟨n1, vF, vL, true, vN, F, L, NQ, rfl, ⟨?_, ?_, rows, ?_, ?_⟩, hp, Nh.put_below h.bel (by omega) _ _ _ _ _⟩
  · exact (Nh.row_same h.rf (fun j hj => hs j (by have := hj.1; omega))).mono (fun j hj => ⟨by have := hj.1; omega, hj.2.1⟩)
  · exact (Nh.row_same h.rl (fun j hj => hs j (by have := hj.1; omega))).mono (fun j hj => ⟨by have := hj.1; omega, hj.2.1⟩)
  · exact World.ownsRow.mono (Nh.own_same h1 (fun j hj => hs j (by have := (World.ownsRow.lt h1 j hj).1; omega))) (by omega)
  · exact (h2.same (fun j hj => hs j (by have := hj.1; omega))).mono (fun j hj => ⟨by have := hj.1; omega, hj.2.1⟩)
set_option maxRecDepth 100000 in
set_option maxHeartbeats 3000000 in
theorem star_of (y : Rx) (ok : Nh.OfOk y) (hs : y.size ≤ 2000) (k : Nat) (hk0 : k = 4) (f : Nat → Bool) (al : Option Addr) (cap : Nat) (w : World) (hl : Rx.InL w [y] al 0) : Calls Try.prog 41 #[Rx.hdr k f al 1 cap] w (Nh.OPost w (.node k f [y])) := by
  have e0 : ((k : Int) == 0) = false := by simp; omega
  have e1 : ((k : Int) == 1) = false := by simp; omega
  have e2 : ((k : Int) == 2) = false := by simp; omega
  have e3 : ((k : Int) == 3) = false := by simp; omega
  have HK2 := Lib.hid hk0
  clear hk0
  have OK := Lib.hid ok
  have HL := Lib.hid hl
  clear ok hl
  unfold Rx.hdr
  have B1 := Bs.below1 w (.cells #[.int .u8 k, .int .u64 (Bs.word f 0), .int .u64 (Bs.word f 1), .int .u64 (Bs.word f 2), .int .u64 (Bs.word f 3), .slice al 1 cap] 54)
  have N := Rx.nod_new w k f al 1 cap
  obtain ⟨W1, hW1⟩ : ∃ W, w.alloc (.cells #[.int .u8 k, .int .u64 (Bs.word f 0), .int .u64 (Bs.word f 1), .int .u64 (Bs.word f 2), .int .u64 (Bs.word f 3), .slice al 1 cap] 54) = W := ⟨_, rfl⟩
  have s1 : W1.heap.size = w.heap.size + 1 := by rw [← hW1]; simp
  rw [hW1] at B1 N
  have B2 := Bs.below1 W1 (.cells #[.int .i64 0, .slice none 0 0, .slice none 0 0, .bool false, .slice none 0 0] 87)
  have p2 := Nh.pb_new W1 0 (.slice none 0 0) (.slice none 0 0) false (.slice none 0 0)
  obtain ⟨W2, hW2⟩ : ∃ W, W1.alloc (.cells #[.int .i64 0, .slice none 0 0, .slice none 0 0, .bool false, .slice none 0 0] 87) = W := ⟨_, rfl⟩
  have s2 : W2.heap.size = w.heap.size + 2 := by rw [← hW2]; simp [s1]
  rw [hW2] at B2 p2
  rw [s1] at p2
  have HW2 := Lib.hid (show (w.alloc (.cells #[.int .u8 k, .int .u64 (Bs.word f 0), .int .u64 (Bs.word f 1), .int .u64 (Bs.word f 2), .int .u64 (Bs.word f 3), .slice al 1 cap] 54)).alloc (.cells #[.int .i64 0, .slice none 0 0, .slice none 0 0, .bool false, .slice none 0 0] 87) = W2 by rw [hW1, hW2])
  have HA := Lib.hid (Bs.below_up B1 B2)
  have HND := Lib.hid (N.up B2)
  have HP2 := Lib.hid p2
  have HS2 := Lib.hid s2
  clear B1 B2 N p2 s1 s2 hW1 hW2
  go_enter Try.func41, Try.ntmps41
  obtain ⟨p, rfl, hp⟩ := HL.out.get 0 (by simp)
  rw [Nat.zero_add, Nat.zero_mul, Nf.add_zero'] at hp
  have hys : Nf.ones y ≤ 2000 := Nat.le_trans (Nh.ones_le y) hs
  obtain ⟨k1, f1, a1, m1, cap1, HCELL, hi⟩ := hp.open
  have hi' : Rx.Is w y (Rx.hdr k1 f1 a1 m1 cap1) := hi
  have HI := Lib.hid hi'
  have c0 := HND.out.cell.c0; have c5 := HND.out.cell.c5
  simp only [Nat.zero_add] at c0 c5
  have HCL := Lib.hid HCELL
  have hc := HCELL.up HA.out
  have x0 := hc.c0; have x1 := hc.c1; have x2 := hc.c2; have x3 := hc.c3; have x4 := hc.c4; have x5 := hc.c5
  have C := Lib.hid (OK.out _ W2 (HI.out.up HA.out))
  clear hp hi hi' HCELL hc
  unfold Rx.hdr at C
  go_upto_region 31 with fail
  rw [HW2.out]
  go_wp2_with fail
  refine C.out.mono ?_
  rintro e w1 ⟨n1, vF, vL, em, vN, F, L, N, rfl, PV, PT, bb⟩
  clear c0 c5 x0 x1 x2 x3 x4 x5 C
  obtain ⟨aF, mF, cF, rfl⟩ := PV.rf.form
  obtain ⟨aL, mL, cL, rfl⟩ := PV.rl.form
  obtain ⟨rowsN, ow, rr⟩ := PV.nx
  obtain ⟨aN, nN, cN, rfl⟩ := ow.form
  have PB1 := Nh.pb_new w1 n1 (.slice aF mF cF) (.slice aL mL cL) em (.slice aN nN cN)
  have B1 := Bs.below1 w1 (.cells #[.int .i64 n1, .slice aF mF cF, .slice aL mL cL, .bool em, .slice aN nN cN] 87)
  have hsz := HS2.out
  have hbs := bb.size
  have S0 : Hid (Nh.SW w k f (some p) 1 cap w1.heap.size n1 (.slice aF mF cF) (.slice aL mL cL) (.slice aN nN cN) F L N ((w1.alloc (.cells #[.int .i64 n1, .slice aF mF cF, .slice aL mL cL, .bool em, .slice aN nN cN] 87)).setCell ⟨w1.heap.size, 3, none⟩ (.bool true))) := Lib.hid (by
    have B2 := Bs.below_up (Bs.below_up HA.out bb) B1
    have hs' : ∀ j, j ≠ w1.heap.size → ((w1.alloc (.cells #[.int .i64 n1, .slice aF mF cF, .slice aL mL cL, .bool em, .slice aN nN cN] 87)).setCell ⟨w1.heap.size, 3, none⟩ (.bool true)).heap[j]? = (w1.alloc (.cells #[.int .i64 n1, .slice aF mF cF, .slice aL mL cL, .bool em, .slice aN nN cN] 87)).heap[j]? := fun j hj => Below.heap_setCell _ _ _ _ hj
    have e0 := hs' w.heap.size (by omega)
    have ND := (HND.out.up bb).up B1
    have kk : ∀ j, (W2.heap.size ≤ j ∧ some j ≠ (Value.slice aN nN cN).ownBlock) ∧ j < w1.heap.size → Nh.Ks w.heap.size w1.heap.size (.slice aN nN cN) j := fun j hj => ⟨by omega, hj.1.2, by omega⟩
    have fr : ∀ j, (Value.slice aN nN cN).ownBlock = some j → w.heap.size + 1 < j ∧ j ≠ w1.heap.size := fun j hj => by have := World.ownsRow.lt ow j hj; omega
    exact ⟨B2.setCell (by simp; omega) _, ⟨Ng.nod_same ND e0, fun j hj => (World.frozen?_of_block (a := ⟨w.heap.size, j, none⟩) e0).trans (ND.frz j hj)⟩, (((HP2.out.up bb).up B1)).only (hs' _ (by omega)), PB1.set3 true, Nh.row_same ((PV.rf.lt.mono kk).up B1) (fun j hj => hs' j hj.2.2), Nh.row_same ((PV.rl.lt.mono kk).up B1) (fun j hj => hs' j hj.2.2), ⟨rowsN, World.ownsRow.mono (Nh.own_same (ow.up B1) (fun j hj => hs' j (fr j hj).2)) (by omega), ((rr.lt.mono kk).up B1).same (fun j hj => hs' j hj.2.2)⟩, fr, by omega⟩)
  have HP := Lib.hid PT
  have d3 := PB1.c3; have z3 := PB1.z 3 (by decide)
  have HPB := Lib.hid PB1
  clear PV ow rr PB1 B1 PT
  generalize hbq : w1.heap.size = b at *
  go_upto_region 32 with fail
  generalize w1.alloc (.cells #[.int .i64 n1, .slice aF mF cF, .slice aL mL cL, .bool em, .slice aN nN cN] 87) = U at *
  have HML : Hid (mL = L.length) := Lib.hid (by
    obtain ⟨a9, c9, e9, _⟩ := S0.out.rl
    injection e9)
  have HLS := Lib.hid HP.out.lst
  have hmL : mL ≤ 2000 := by rw [HML.out]; have := (Nh.rise_len HP.out.lst (Nf.ones y) (fun p h => Nf.lst_lt _ _ h)).1; omega
  have hlF : F.length ≤ 10000 := by have := (Nh.rise_len HP.out.fst (Nf.ones y) (fun p h => Nf.fst_lt _ _ h)).1; omega
  have HN1 := Lib.hid HP.out.len
  go_wp2_with fail
  clear d3 z3
  generalize U.setCell ⟨b, 3, none⟩ (.bool true) = U2 at *
  go_loopw [14] (fun i wr => ∃ (j : Nat) (NQ : List (List Int)), j ≤ mL ∧ i = .int .i64 j ∧ Hid (Nh.SW w k f (some p) 1 cap b n1 (.slice aF mF cF) (.slice aL mL cL) (.slice aN nN cN) F L NQ wr) ∧ Hid (NQ = Nf.upd N (L.take j) F)) (fun i _ => mL - (intOf i).toNat)
  case atStart => exact ⟨0, N, by omega, rfl, S0, Lib.hid (by simp [Nf.upd])⟩
  case round =>
    clear S0
    obtain ⟨j, NQ, hj, rfl, HLQ, HNQ⟩ := hrel
    have l2 := HLQ.out.pb.c2
    by_cases hlt2 : j < mL
    · have hjl : j < L.length := by rw [← HML.out]; exact hlt2
      have hmem := List.getElem_mem hjl
      have h0 := HLS.out.nn _ hmem
      obtain ⟨z, hz9⟩ : ∃ z : Nat, L[j] = z := ⟨L[j].toNat, by omega⟩
      have HZ := Lib.hid hz9
      have hzl : z < N.length := by
        have := Nf.lst_lt _ _ ((HLS.out.is z).1 (by rw [← hz9]; exact hmem))
        rw [HN1.out]; exact this
      have hlen : NQ.length = N.length := by rw [HNQ.out, Nf.upd_len]
      have hzN : z < NQ.length := by omega
      have hgetz : NQ[z]'hzN = N[z] := by
        have h8 := Nf.upd_get F (L.take j) N (HLS.out.up.sublist (List.take_sublist j L)) (fun y hy => HLS.out.nn y (List.mem_of_mem_take hy)) z hzl (by rw [Nf.upd_len]; exact hzl)
        have hnot : ¬ (z : Int) ∈ L.take j := fun hm => by
          obtain ⟨i9, hi9, e9⟩ := List.getElem_of_mem hm
          rw [List.length_take] at hi9
          rw [List.getElem_take] at e9
          have := List.pairwise_iff_getElem.1 HLS.out.up i9 j (by omega) hjl (by omega)
          rw [e9, hz9] at this
          omega
        rw [if_neg hnot] at h8
        rw [← h8]
        simp only [HNQ.out]
      have hlz1 : (NQ[z]'hzN).length ≤ 10000 := by
        rw [hgetz]
        have := (Nh.rise_len (HP.out.nxt z hzl) (Nf.ones y) (fun p h => (Nf.fol_lt _ _ _ h).2)).1
        omega
      have HUP := Lib.hid (show Nf.upd N (L.take (j + 1)) F = NQ.set z (Nf.union (NQ[z]'hzN) F) by
        rw [Nh.upd_take _ _ _ j hjl, ← HNQ.out, hz9, Int.toNat_natCast, List.getD_eq_getElem?_getD, List.getElem?_eq_getElem hzN]
        rfl)
      obtain ⟨pL, hpL, _⟩ := HLQ.out.rl.at.2 j hjl
      subst hpL
      obtain ⟨g, m9, c9, hvN⟩ := Nh.next_form HLQ.out.nx (by omega)
      injection hvN with hv1 hv2 hv3
      subst hv1
      have hnV := (Nh.next_lt HLQ.out.nx).2
      have i1 : (0 : Int) ≤ (j : Int) := by omega
      have i2 : (j : Int) < (mL : Int) := by omega
      have i3 : (0 : Int) ≤ (z : Int) := by omega
      have i4 : (z : Int) < (nN : Int) := by omega
      clear hgetz hlen hnV hv2 hv3 hmem h0 hz9 hzl
      go_upto_region 36 with fail
      clear l2
      refine Rg.regionT (by kernel_rfl) (by kernel_rfl) (by kernel_rfl) (by decide) (Rg.rel (Nh.relU b b b (.slice (some ⟨g, 0, none⟩) nN cN) (.slice (some pL) mL cL) (.slice aF mF cF) j z g pL (Nh.Ks w.heap.size b (.slice (some ⟨g, 0, none⟩) nN cN)) (NQ[z]'hzN) (Nf.union (NQ[z]'hzN) F))) (Nh.SW w k f (some p) 1 cap b n1 (.slice aF mF cF) (.slice (some pL) mL cL) (.slice (some ⟨g, 0, none⟩) nN cN) F L NQ) (fun w w' => Below w.heap.size w w') (fun i v w w' h _ hb => Rg.rel_up (Nh.relU_up _ _ _ _ _ _ _ _ _ _ _ _ _) h hb) (HLQ.out.up (Below.refl _ _).drew) ⟨?_, ?_, ?_, ?_, ?_, ?_, ?_, ?_, ?_, ?_, ?_, ?_, ?_, ?_, ?_, ?_, ?_, ?_, ?_, ?_, trivial⟩ ?_
      · intro fv u hw hd
        have HW := Lib.hid hw
        clear hw hd
        simp only [Rg.step, Rg.all, Act.put, List.setIfInBounds_toArray, List.set_cons_zero, List.set_cons_succ]
        go_simp
        exact ⟨rfl, HW.out, Below.refl _ _⟩
      · intro fv u hw hd
        have r0 : fv 0 = .pointer (some ⟨b, 4, none⟩) := hd _ (List.mem_cons_self ..)
        have c4 := hw.pb.c4
        have HW := Lib.hid hw
        clear hw hd
        simp only [Rg.step, Rg.all, Act.put, List.setIfInBounds_toArray, List.set_cons_zero, List.set_cons_succ]
        go_simp
        exact ⟨rfl, HW.out, Below.refl _ _⟩
      · intro fv u hw hd
        have HW := Lib.hid hw
        clear hw hd
        simp only [Rg.step, Rg.all, Act.put, List.setIfInBounds_toArray, List.set_cons_zero, List.set_cons_succ]
        go_simp
        exact ⟨rfl, HW.out, Below.refl _ _⟩
      · intro fv u hw hd
        have r2 : fv 2 = .pointer (some ⟨b, 2, none⟩) := hd _ (List.mem_cons_self ..)
        have c2 := hw.pb.c2
        have HW := Lib.hid hw
        clear hw hd
        simp only [Rg.step, Rg.all, Act.put, List.setIfInBounds_toArray, List.set_cons_zero, List.set_cons_succ]
        go_simp
        exact ⟨rfl, HW.out, Below.refl _ _⟩
      · intro fv u hw hd
        have HW := Lib.hid hw
        clear hw hd
        simp only [Rg.step, Rg.all, Act.put, List.setIfInBounds_toArray, List.set_cons_zero, List.set_cons_succ]
        go_simp
        exact ⟨rfl, HW.out, Below.refl _ _⟩
      · intro fv u hw hd
        have r3 : fv 3 = .slice (some pL) mL cL := hd _ (List.mem_cons_self ..)
        have r4 : fv 4 = .int .i64 j := hd _ (List.mem_cons_of_mem _ (List.mem_cons_self ..))
        have HW := Lib.hid hw
        clear hw hd
        simp only [Rg.step, Rg.all, Act.put, List.setIfInBounds_toArray, List.set_cons_zero, List.set_cons_succ]
        go_simp
        exact ⟨rfl, HW.out, Below.refl _ _⟩
      · intro fv u hw hd
        have r5 : fv 5 = .pointer (some (pL.add j)) := hd _ (List.mem_cons_self ..)
        have hpc : u.cell? (pL.add j) = some (.int .i64 z) := by
          obtain ⟨x9, e9, h9⟩ := hw.rl.at.2 j hjl
          injection e9 with e9
          subst e9
          rw [HZ.out] at h9
          exact h9
        have HW := Lib.hid hw
        clear hw hd
        simp only [Rg.step, Rg.all, Act.put, List.setIfInBounds_toArray, List.set_cons_zero, List.set_cons_succ]
        go_simp
        exact ⟨rfl, HW.out, Below.refl _ _⟩
      · intro fv u hw hd
        have HW := Lib.hid hw
        clear hw hd
        simp only [Rg.step, Rg.all, Act.put, List.setIfInBounds_toArray, List.set_cons_zero, List.set_cons_succ]
        go_simp
        exact ⟨rfl, HW.out, Below.refl _ _⟩
      · intro fv u hw hd
        have r7 : fv 7 = .pointer (some ⟨b, 4, none⟩) := hd _ (List.mem_cons_self ..)
        have c4 := hw.pb.c4
        have HW := Lib.hid hw
        clear hw hd
        simp only [Rg.step, Rg.all, Act.put, List.setIfInBounds_toArray, List.set_cons_zero, List.set_cons_succ]
        go_simp
        exact ⟨rfl, HW.out, Below.refl _ _⟩
      · intro fv u hw hd
        have HW := Lib.hid hw
        clear hw hd
        simp only [Rg.step, Rg.all, Act.put, List.setIfInBounds_toArray, List.set_cons_zero, List.set_cons_succ]
        go_simp
        exact ⟨rfl, HW.out, Below.refl _ _⟩
      · intro fv u hw hd
        have r9 : fv 9 = .pointer (some ⟨b, 2, none⟩) := hd _ (List.mem_cons_self ..)
        have c2 := hw.pb.c2
        have HW := Lib.hid hw
        clear hw hd
        simp only [Rg.step, Rg.all, Act.put, List.setIfInBounds_toArray, List.set_cons_zero, List.set_cons_succ]
        go_simp
        exact ⟨rfl, HW.out, Below.refl _ _⟩
      · intro fv u hw hd
        have HW := Lib.hid hw
        clear hw hd
        simp only [Rg.step, Rg.all, Act.put, List.setIfInBounds_toArray, List.set_cons_zero, List.set_cons_succ]
        go_simp
        exact ⟨rfl, HW.out, Below.refl _ _⟩
      · intro fv u hw hd
        have r10 : fv 10 = .slice (some pL) mL cL := hd _ (List.mem_cons_self ..)
        have r11 : fv 11 = .int .i64 j := hd _ (List.mem_cons_of_mem _ (List.mem_cons_self ..))
        have HW := Lib.hid hw
        clear hw hd
        simp only [Rg.step, Rg.all, Act.put, List.setIfInBounds_toArray, List.set_cons_zero, List.set_cons_succ]
        go_simp
        exact ⟨rfl, HW.out, Below.refl _ _⟩
      · intro fv u hw hd
        have r12 : fv 12 = .pointer (some (pL.add j)) := hd _ (List.mem_cons_self ..)
        have hpc : u.cell? (pL.add j) = some (.int .i64 z) := by
          obtain ⟨x9, e9, h9⟩ := hw.rl.at.2 j hjl
          injection e9 with e9
          subst e9
          rw [HZ.out] at h9
          exact h9
        have HW := Lib.hid hw
        clear hw hd
        simp only [Rg.step, Rg.all, Act.put, List.setIfInBounds_toArray, List.set_cons_zero, List.set_cons_succ]
        go_simp
        exact ⟨rfl, HW.out, Below.refl _ _⟩
      · intro fv u hw hd
        have r8 : fv 8 = .slice (some ⟨g, 0, none⟩) nN cN := hd _ (List.mem_cons_self ..)
        have r13 : fv 13 = .int .i64 z := hd _ (List.mem_cons_of_mem _ (List.mem_cons_self ..))
        have HW := Lib.hid hw
        clear hw hd
        simp only [Rg.step, Rg.all, Act.put, List.setIfInBounds_toArray, List.set_cons_zero, List.set_cons_succ]
        go_simp
        exact ⟨rfl, HW.out, Below.refl _ _⟩
      · intro fv u hw hd
        have r14 : fv 14 = .pointer (some ⟨g, z, none⟩) := hd _ (List.mem_cons_self ..)
        have hgc := Nh.next_cell hw.nx hzN
        have HW := Lib.hid hw
        clear hw hd
        simp only [Rg.step, Rg.all, Act.put, List.setIfInBounds_toArray, List.set_cons_zero, List.set_cons_succ]
        obtain ⟨ar, nr, cr, hcell, hrow⟩ := hgc
        have HROW := Lib.hid hrow
        clear hrow
        go_simp
        exact ⟨HROW.out, HW.out, Below.refl _ _⟩
      · intro fv u hw hd
        have HW := Lib.hid hw
        clear hw hd
        simp only [Rg.step, Rg.all, Act.put, List.setIfInBounds_toArray, List.set_cons_zero, List.set_cons_succ]
        go_simp
        exact ⟨rfl, HW.out, Below.refl _ _⟩
      · intro fv u hw hd
        have r16 : fv 16 = .pointer (some ⟨b, 1, none⟩) := hd _ (List.mem_cons_self ..)
        have c1 := hw.pb.c1
        have HW := Lib.hid hw
        clear hw hd
        simp only [Rg.step, Rg.all, Act.put, List.setIfInBounds_toArray, List.set_cons_zero, List.set_cons_succ]
        go_simp
        exact ⟨rfl, HW.out, Below.refl _ _⟩
      · intro fv u hw hd
        have r15 : Nf.Row u (Nh.Ks w.heap.size b (.slice (some ⟨g, 0, none⟩) nN cN)) (fv 15) (NQ[z]'hzN) := hd _ (List.mem_cons_self ..)
        have r17 : fv 17 = .slice aF mF cF := hd _ (List.mem_cons_of_mem _ (List.mem_cons_self ..))
        have C := Lib.hid (refUnion_any (NQ[z]'hzN) F _ _ u (Nh.Ks w.heap.size b (.slice (some ⟨g, 0, none⟩) nN cN)) hw.ks (r15.mono (fun _ _ => trivial)) (hw.rf.mono (fun _ _ => trivial)) hlz1 hlF)
        have HW := Lib.hid hw
        clear hw hd
        simp only [Rg.step, Rg.all, Act.put, List.setIfInBounds_toArray, List.set_cons_zero, List.set_cons_succ]
        obtain ⟨ar, nr, cr, e15⟩ := r15.form
        clear r15
        go_simp
        rw [e15] at C
        refine C.out.mono ?_
        rintro e u1 ⟨v1, rfl, R1, b1⟩
        exact ⟨_, rfl, R1, HW.out.up b1, b1⟩
      · intro fv u hw hd
        have r1 : fv 1 = .slice (some ⟨g, 0, none⟩) nN cN := hd _ (List.mem_cons_self ..)
        have r6 : fv 6 = .int .i64 z := hd _ (List.mem_cons_of_mem _ (List.mem_cons_self ..))
        have HW := Lib.hid hw
        clear hw hd
        simp only [Rg.step, Rg.all, Act.put, List.setIfInBounds_toArray, List.set_cons_zero, List.set_cons_succ]
        go_simp
        exact ⟨rfl, HW.out, Below.refl _ _⟩
      · intro fv u hw hR o ho
        have r18 : Nf.Row u (Nh.Ks w.heap.size b (.slice (some ⟨g, 0, none⟩) nN cN)) (fv 18) (Nf.union (NQ[z]'hzN) F) := hR 18 (by decide)
        have r19 : fv 19 = .pointer (some ⟨g, z, none⟩) := hR 19 (by decide)
        simp at ho
        subst ho
        simp only [Rg.step, Rg.all, Act.put, List.setIfInBounds_toArray, List.set_cons_zero, List.set_cons_succ]
        obtain ⟨a8, n8, c8, e8⟩ := r18.form
        rw [e8] at r18
        have HR8 := Lib.hid (hw.put z r18)
        have hgc := Nh.next_cell hw.nx hzN
        have hgz := Nh.next_frz hw.nx z
        obtain ⟨ar, nr, cr, hcell, _⟩ := hgc
        clear hw hR r18
        generalize fv 0 = fz0 at *
        generalize fv 1 = fz1 at *
        generalize fv 2 = fz2 at *
        generalize fv 3 = fz3 at *
        generalize fv 4 = fz4 at *
        generalize fv 5 = fz5 at *
        generalize fv 6 = fz6 at *
        generalize fv 7 = fz7 at *
        generalize fv 8 = fz8 at *
        generalize fv 9 = fz9 at *
        generalize fv 10 = fz10 at *
        generalize fv 11 = fz11 at *
        generalize fv 12 = fz12 at *
        generalize fv 13 = fz13 at *
        generalize fv 14 = fz14 at *
        generalize fv 15 = fz15 at *
        generalize fv 16 = fz16 at *
        generalize fv 17 = fz17 at *
        go_simp
        go_wp2_with fail
        go_roundw
        case rel => exact ⟨j + 1, _, by omega, by go_num, HR8, Lib.hid HUP.out.symm⟩
        case measure => simp [intOf]; omega
    · have htk : L.take j = L := List.take_of_length_le (by rw [← HML.out]; omega)
      have HNF := Lib.hid (show NQ = Nf.upd N L F by rw [HNQ.out, htk])
      have hq := Nf.part_star (f := f) HP.out
      rw [← HNF.out] at hq
      rw [← HK2.out] at hq
      have HO := Lib.hid (HLQ.out.out hq)
      have q0 := HLQ.out.pb.c0; have q1 := HLQ.out.pb.c1; have q2 := HLQ.out.pb.c2; have q3 := HLQ.out.pb.c3; have q4 := HLQ.out.pb.c4
      have y0 := HLQ.out.p2.z 0 (by decide); have y1 := HLQ.out.p2.z 1 (by decide); have y2 := HLQ.out.p2.z 2 (by decide); have y3 := HLQ.out.p2.z 3 (by decide); have y4 := HLQ.out.p2.z 4 (by decide)
      have p0 := HLQ.out.p2.c0; have p1 := HLQ.out.p2.c1; have p2 := HLQ.out.p2.c2; have p3 := HLQ.out.p2.c3; have p4 := HLQ.out.p2.c4
      have hv := Nh.put_pb HLQ.out.p2 n1 (.slice aF mF cF) (.slice aL mL cL) true (.slice aN nN cN)
      rw [Nh.put_def] at HO hv
      have V := Lib.hid hv
      clear htk hq hv
      go_wp2_with fail
      have v0 := V.out.c0; have v1 := V.out.c1; have v2 := V.out.c2; have v3 := V.out.c3; have v4 := V.out.c4
      refine bodyPost_ret (v := .agg #[.int .i64 n1, .slice aF mF cF, .slice aL mL cL, .bool true, .slice aN nN cN]) (by simp [results, Try.results41, go_sem, v0, v1, v2, v3, v4]) rfl HO.out
end Go.Proofs.Ytnbbepgjpfhjdaa
namespace Go.Proofs.Ytnbbepgjpfhjdaa
set_option linter.unusedVariables false
set_option linter.unusedSimpArgs false
open Go.RowKit
theorem Nh.row_nil (w : World) (B : Nat → Prop) : Nf.Row w B (.slice none 0 0) [] := ⟨none, 0, rfl, Nat.le_refl _, fun _ => rfl, fun i hi => by simp at hi, fun x e => by simp at e⟩
theorem Nh.own_one (w : World) (base : Nat) (h : base ≤ w.heap.size) : Ng.Own base (.slice (some ⟨w.heap.size, 0, none⟩) 1 1) [.slice none 0 0] (w.alloc (.cells #[.slice none 0 0] 35)) := ⟨rfl, .inr ⟨w.heap.size, 1, #[.slice none 0 0], rfl, h, heap_alloc_new w _, by decide, by decide, rfl, rfl⟩⟩
theorem Nh.row_one (w : World) (B : Nat → Prop) (hB : B w.heap.size) (n : Int) : Nf.Row (w.alloc (.cells #[.int .i64 n] 3)) B (.slice (some ⟨w.heap.size, 0, none⟩) 1 1) [n] := ⟨some ⟨w.heap.size, 0, none⟩, 1, rfl, Nat.le_refl _, fun e => by simp at e, Nf.sg_new w n _, fun x e _ => by injection e with e; subst e; exact hB⟩
set_option maxRecDepth 100000 in
set_option maxHeartbeats 3000000 in
theorem nil_of (l : List Rx) (k : Nat) (hk0 : k = 0) (hw0 : l = []) (f : Nat → Bool) (al : Option Addr) (cap : Nat) (w : World) : Calls Try.prog 41 #[Rx.hdr k f al l.length cap] w (Nh.OPost w (.node k f l)) := by
  have e0 : ((k : Int) == 0) = true := by simp; omega
  have HK2 := Lib.hid hk0
  have HWF := Lib.hid hw0
  clear hw0
  clear hk0
  obtain ⟨n, hn⟩ : ∃ n, l.length = n := ⟨_, rfl⟩
  have HN := Lib.hid hn
  unfold Rx.hdr
  rw [hn]
  clear hn
  have B1 := Bs.below1 w (.cells #[.int .u8 k, .int .u64 (Bs.word f 0), .int .u64 (Bs.word f 1), .int .u64 (Bs.word f 2), .int .u64 (Bs.word f 3), .slice al n cap] 54)
  have N := Rx.nod_new w k f al n cap
  obtain ⟨W1, hW1⟩ : ∃ W, w.alloc (.cells #[.int .u8 k, .int .u64 (Bs.word f 0), .int .u64 (Bs.word f 1), .int .u64 (Bs.word f 2), .int .u64 (Bs.word f 3), .slice al n cap] 54) = W := ⟨_, rfl⟩
  have s1 : W1.heap.size = w.heap.size + 1 := by rw [← hW1]; simp
  rw [hW1] at B1 N
  have B2 := Bs.below1 W1 (.cells #[.int .i64 0, .slice none 0 0, .slice none 0 0, .bool false, .slice none 0 0] 87)
  have p2 := Nh.pb_new W1 0 (.slice none 0 0) (.slice none 0 0) false (.slice none 0 0)
  obtain ⟨W2, hW2⟩ : ∃ W, W1.alloc (.cells #[.int .i64 0, .slice none 0 0, .slice none 0 0, .bool false, .slice none 0 0] 87) = W := ⟨_, rfl⟩
  have s2 : W2.heap.size = w.heap.size + 2 := by rw [← hW2]; simp [s1]
  rw [hW2] at B2 p2
  rw [s1] at p2
  have HW2 := Lib.hid (show (w.alloc (.cells #[.int .u8 k, .int .u64 (Bs.word f 0), .int .u64 (Bs.word f 1), .int .u64 (Bs.word f 2), .int .u64 (Bs.word f 3), .slice al n cap] 54)).alloc (.cells #[.int .i64 0, .slice none 0 0, .slice none 0 0, .bool false, .slice none 0 0] 87) = W2 by rw [hW1, hW2])
  have HA := Lib.hid (Bs.below_up B1 B2)
  have HND := Lib.hid (N.up B2)
  have HP2 := Lib.hid p2
  have HS2 := Lib.hid s2
  clear B1 B2 N p2 s1 s2 hW1 hW2
  go_enter Try.func41, Try.ntmps41
  have hv := Nh.put_pb HP2.out 0 (.slice none 0 0) (.slice none 0 0) true (.slice none 0 0)
  have HO : Hid (Nh.OPost w (.node k f l) (.returned (.agg #[.int .i64 0, .slice none 0 0, .slice none 0 0, .bool true, .slice none 0 0])) (Nh.put W2 (w.heap.size + 1) 0 (.slice none 0 0) (.slice none 0 0) true (.slice none 0 0))) := Lib.hid (by
    refine ⟨0, _, _, true, _, [], [], [], rfl, ⟨Nh.row_nil _ _, Nh.row_nil _ _, [], Ng.own_nil _ _, Nh.rows_nil _ _⟩, ?_, Nh.put_below HA.out (by omega) _ _ _ _ _⟩
    have hk := HK2.out
    subst hk
    have hl := HWF.out
    subst hl
    exact ⟨by rw [Nf.ones_kids f [] (by decide)]; rfl, by simp [Rx.emp], Nf.rise_nil (fun p h => by simp [Nf.fst] at h), Nf.rise_nil (fun p h => by simp [Nf.lst] at h), by rw [Nf.ones_kids f [] (by decide)]; rfl, fun i h => by simp at h⟩)
  rw [Nh.put_def] at HO hv
  have V := Lib.hid hv
  have c0 := HND.out.cell.c0
  have y0 := HP2.out.z 0 (by decide); have y1 := HP2.out.z 1 (by decide); have y2 := HP2.out.z 2 (by decide); have y3 := HP2.out.z 3 (by decide); have y4 := HP2.out.z 4 (by decide)
  have p0 := HP2.out.c0; have p1 := HP2.out.c1; have p2 := HP2.out.c2; have p3 := HP2.out.c3; have p4 := HP2.out.c4
  clear hv
  go_upto_region 1 with fail
  rw [HW2.out]
  go_wp2_with fail
  have v0 := V.out.c0; have v1 := V.out.c1; have v2 := V.out.c2; have v3 := V.out.c3; have v4 := V.out.c4
  refine bodyPost_ret (v := .agg #[.int .i64 0, .slice none 0 0, .slice none 0 0, .bool true, .slice none 0 0]) (by simp [results, Try.results41, go_sem, v0, v1, v2, v3, v4]) rfl HO.out
set_option maxRecDepth 100000 in
set_option maxHeartbeats 3000000 in
theorem one_of (l : List Rx) (k : Nat) (hk0 : k = 1) (f : Nat → Bool) (al : Option Addr) (cap : Nat) (w : World) : Calls Try.prog 41 #[Rx.hdr k f al l.length cap] w (Nh.OPost w (.node k f l)) := by
  have e0 : ((k : Int) == 0) = false := by simp; omega
  have e1 : ((k : Int) == 1) = true := by simp; omega
  have HK2 := Lib.hid hk0
  clear hk0
  obtain ⟨n, hn⟩ : ∃ n, l.length = n := ⟨_, rfl⟩
  have HN := Lib.hid hn
  unfold Rx.hdr
  rw [hn]
  clear hn
  have B1 := Bs.below1 w (.cells #[.int .u8 k, .int .u64 (Bs.word f 0), .int .u64 (Bs.word f 1), .int .u64 (Bs.word f 2), .int .u64 (Bs.word f 3), .slice al n cap] 54)
  have N := Rx.nod_new w k f al n cap
  obtain ⟨W1, hW1⟩ : ∃ W, w.alloc (.cells #[.int .u8 k, .int .u64 (Bs.word f 0), .int .u64 (Bs.word f 1), .int .u64 (Bs.word f 2), .int .u64 (Bs.word f 3), .slice al n cap] 54) = W := ⟨_, rfl⟩
  have s1 : W1.heap.size = w.heap.size + 1 := by rw [← hW1]; simp
  rw [hW1] at B1 N
  have B2 := Bs.below1 W1 (.cells #[.int .i64 0, .slice none 0 0, .slice none 0 0, .bool false, .slice none 0 0] 87)
  have p2 := Nh.pb_new W1 0 (.slice none 0 0) (.slice none 0 0) false (.slice none 0 0)
  obtain ⟨W2, hW2⟩ : ∃ W, W1.alloc (.cells #[.int .i64 0, .slice none 0 0, .slice none 0 0, .bool false, .slice none 0 0] 87) = W := ⟨_, rfl⟩
  have s2 : W2.heap.size = w.heap.size + 2 := by rw [← hW2]; simp [s1]
  rw [hW2] at B2 p2
  rw [s1] at p2
  have HW2 := Lib.hid (show (w.alloc (.cells #[.int .u8 k, .int .u64 (Bs.word f 0), .int .u64 (Bs.word f 1), .int .u64 (Bs.word f 2), .int .u64 (Bs.word f 3), .slice al n cap] 54)).alloc (.cells #[.int .i64 0, .slice none 0 0, .slice none 0 0, .bool false, .slice none 0 0] 87) = W2 by rw [hW1, hW2])
  have HA := Lib.hid (Bs.below_up B1 B2)
  have HND := Lib.hid (N.up B2)
  have HP2 := Lib.hid p2
  have HS2 := Lib.hid s2
  clear B1 B2 N p2 s1 s2 hW1 hW2
  go_enter Try.func41, Try.ntmps41
  have hb0 := Nh.put_below HA.out (show w.heap.size ≤ w.heap.size + 1 by omega) 1 (.slice (some ⟨w.heap.size + 2, 0, none⟩) 1 1) (.slice (some ⟨w.heap.size + 2 + 1, 0, none⟩) 1 1) false (.slice (some ⟨w.heap.size + 2 + 1 + 1, 0, none⟩) 1 1)
  have P2 := Nh.put_pb HP2.out 1 (.slice (some ⟨w.heap.size + 2, 0, none⟩) 1 1) (.slice (some ⟨w.heap.size + 2 + 1, 0, none⟩) 1 1) false (.slice (some ⟨w.heap.size + 2 + 1 + 1, 0, none⟩) 1 1)
  have s2 : (Nh.put W2 (w.heap.size + 1) 1 (.slice (some ⟨w.heap.size + 2, 0, none⟩) 1 1) (.slice (some ⟨w.heap.size + 2 + 1, 0, none⟩) 1 1) false (.slice (some ⟨w.heap.size + 2 + 1 + 1, 0, none⟩) 1 1)).heap.size = w.heap.size + 2 := by rw [Nh.put_size]; exact HS2.out
  obtain ⟨U, hU⟩ : ∃ U, Nh.put W2 (w.heap.size + 1) 1 (.slice (some ⟨w.heap.size + 2, 0, none⟩) 1 1) (.slice (some ⟨w.heap.size + 2 + 1, 0, none⟩) 1 1) false (.slice (some ⟨w.heap.size + 2 + 1 + 1, 0, none⟩) 1 1) = U := ⟨_, rfl⟩
  rw [hU] at hb0 P2 s2
  have b1 := Bs.below1 U (.cells #[.int .i64 0] 3)
  have r1 := Nh.row_one U (fun k => w.heap.size ≤ k ∧ some k ≠ (Value.slice (some ⟨w.heap.size + 2 + 1 + 1, 0, none⟩) 1 1).ownBlock) (by simp [Value.ownBlock, s2]) 0
  obtain ⟨W3, hW3⟩ : ∃ W, U.alloc (.cells #[.int .i64 0] 3) = W := ⟨_, rfl⟩
  have s3 : W3.heap.size = w.heap.size + 2 + 1 := by rw [← hW3]; simp [s2]
  rw [hW3, s2] at r1
  rw [hW3] at b1
  have b2 := Bs.below1 W3 (.cells #[.int .i64 0] 3)
  have r2 := Nh.row_one W3 (fun k => w.heap.size ≤ k ∧ some k ≠ (Value.slice (some ⟨w.heap.size + 2 + 1 + 1, 0, none⟩) 1 1).ownBlock) (by simp [Value.ownBlock, s3]; omega) 0
  obtain ⟨W4, hW4⟩ : ∃ W, W3.alloc (.cells #[.int .i64 0] 3) = W := ⟨_, rfl⟩
  have s4 : W4.heap.size = w.heap.size + 2 + 1 + 1 := by rw [← hW4]; simp [s3]
  rw [hW4, s3] at r2
  rw [hW4] at b2
  have b3 := Bs.below1 W4 (.cells #[.slice none 0 0] 35)
  have r3 := Nh.own_one W4 w.heap.size (by omega)
  obtain ⟨W5, hW5⟩ : ∃ W, W4.alloc (.cells #[.slice none 0 0] 35) = W := ⟨_, rfl⟩
  rw [hW5, s4] at r3
  rw [hW5] at b3
  have hv := ((P2.up b1).up b2).up b3
  have HO : Nh.OPost w (.node k f l) (.returned (.agg #[.int .i64 1, .slice (some ⟨w.heap.size + 2, 0, none⟩) 1 1, .slice (some ⟨w.heap.size + 2 + 1, 0, none⟩) 1 1, .bool false, .slice (some ⟨w.heap.size + 2 + 1 + 1, 0, none⟩) 1 1])) W5 := by
    refine ⟨1, _, _, false, _, [0], [0], [[]], rfl, ⟨(r1.up b2).up b3, r2.up b3, [.slice none 0 0], r3, ⟨rfl, fun i h1 h2 => ?_⟩⟩, ?_, Bs.below_up (Bs.below_up (Bs.below_up hb0 b1) b2) b3⟩
    · have : i = 0 := by simpa using h1
      subst this
      exact Nh.row_nil _ _
    · have hk := HK2.out
      subst hk
      have o1 : Nf.ones (.node 1 f l) = 1 := by simp [Nf.ones]
      refine ⟨by rw [o1], by simp [Rx.emp], Nf.rise_zero.congr (fun p => by simp [Nf.fst]), Nf.rise_zero.congr (fun p => by simp [Nf.lst]), by rw [o1]; rfl, fun i h => ?_⟩
      have : i = 0 := by simpa using h
      subst this
      exact Nf.rise_nil (fun q h => by simp [Nf.fol] at h)
  rw [← hW5, ← hW4, ← hW3, ← hU, Nh.put_def] at HO hv
  have HQ := Lib.hid HO
  have V := Lib.hid hv
  clear HO
  have c0 := HND.out.cell.c0
  have hsz := HS2.out
  have y0 := HP2.out.z 0 (by decide); have y1 := HP2.out.z 1 (by decide); have y2 := HP2.out.z 2 (by decide); have y3 := HP2.out.z 3 (by decide); have y4 := HP2.out.z 4 (by decide)
  have p0 := HP2.out.c0; have p1 := HP2.out.c1; have p2 := HP2.out.c2; have p3 := HP2.out.c3; have p4 := HP2.out.c4
  clear hv b1 b2 b3 r1 r2 r3 P2 hW3 hW4 hW5 s3 s4 hU s2 hb0
  go_upto_region 1 with fail
  rw [HW2.out]
  go_wp2_with fail
  have v0 := V.out.c0; have v1 := V.out.c1; have v2 := V.out.c2; have v3 := V.out.c3; have v4 := V.out.c4
  refine bodyPost_ret (v := .agg #[.int .i64 1, .slice (some ⟨w.heap.size + 2, 0, none⟩) 1 1, .slice (some ⟨w.heap.size + 2 + 1, 0, none⟩) 1 1, .bool false, .slice (some ⟨w.heap.size + 2 + 1 + 1, 0, none⟩) 1 1]) (by simp [results, Try.results41, go_sem, v0, v1, v2, v3, v4]) rfl HQ.out
theorem of_any : ∀ (m : Nat) (x : Rx), x.size ≤ m → m ≤ 2000 → x.wf = true → Nh.OfOk x
  | 0, .node k f l, h, _, _ => by simp [Rx.size] at h
  | m + 1, .node k f l, h, hm, hw => by
    intro v w hv
    simp only [Rx.size] at h
    obtain ⟨_, a, cap, rfl, hl⟩ := hv
    have hsl : Rx.sizeL l ≤ 2000 := by omega
    have ok : Rx.wfL l = true → ∀ y ∈ l, Nh.OfOk y := fun hwl y hy => of_any m y (by have := (Rx.part_le hy).1; omega) (by omega) (Rx.wfL_all.1 hwl y hy)
    simp only [Rx.wf, Bool.and_eq_true, decide_eq_true_eq, Bool.not_eq_true'] at hw
    obtain ⟨⟨⟨h4, h1⟩, hs⟩, hwl⟩ := hw
    have hkk : k = 0 ∨ k = 1 ∨ k = 2 ∨ k = 3 ∨ k = 4 := by omega
    rcases hkk with rfl | rfl | rfl | rfl | rfl
    · have : l = [] := by cases l with
        | nil => rfl
        | cons x r => simp at h1
      exact nil_of l 0 rfl this f a cap w
    · exact one_of l 1 rfl f a cap w
    · exact cat_of l (ok hwl) hsl 2 rfl f a cap w hl
    · exact alt_of l (ok hwl) hsl 3 rfl f a cap w hl
    · obtain ⟨y, rfl⟩ : ∃ y, l = [y] := by
        cases l with
        | nil => simp at hs
        | cons x r => cases r with
          | nil => exact ⟨x, rfl⟩
          | cons z r => simp at hs
      exact star_of y (ok hwl y (by simp)) (by simp only [Rx.sizeL] at hsl; omega) 4 rfl f a cap w hl
end Go.Proofs.Ytnbbepgjpfhjdaa
