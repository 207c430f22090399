/- UNFINISHED (it says so where): what the document's of answers of a CAT, being walked. -/
import Derived.Test.YtnbbepgjpfhjdaaG17
namespace Go.Proofs.Ytnbbepgjpfhjdaa
set_option linter.unusedVariables false
set_option linter.unusedSimpArgs false
open Go.RowKit
theorem Nh.ones_le (x : Rx) : Nf.ones x ≤ x.size := by rw [← Nf.sets_len]; exact Rx.sets_le x
theorem Nh.onesL_take : ∀ (l : List Rx) (q : Nat), Nf.onesL (l.take q) ≤ Rx.sizeL l
  | [], q => by simp [Nf.onesL]
  | x :: r, 0 => by simp [Nf.onesL]
  | x :: r, q + 1 => by
    have h1 := Nh.ones_le x
    have h2 := Nh.onesL_take r q
    simp only [List.take_succ_cons, Nf.onesL, Rx.sizeL]
    omega
theorem Nh.upd_take (N : List (List Int)) (L F : List Int) (j : Nat) (h : j < L.length) : Nf.upd N (L.take (j + 1)) F = (Nf.upd N (L.take j) F).set L[j].toNat (Nf.union ((Nf.upd N (L.take j) F).getD L[j].toNat []) F) := by
  rw [Nf.upd, List.take_succ_eq_append_getElem h, List.foldl_append]
  rfl
def Nh.relU (bq bx bz : Nat) (vN vL1 vF : Value) (j z g : Nat) (pL : Addr) (B : Nat → Prop) (lz lu : List Int) : List (Value → World → Prop) :=
  [fun v _ => v = .pointer (some ⟨bq, 4, none⟩), fun v _ => v = vN, fun v _ => v = .pointer (some ⟨bx, 2, none⟩), fun v _ => v = vL1, fun v _ => v = .int .i64 j, fun v _ => v = .pointer (some (pL.add j)), fun v _ => v = .int .i64 z,
   fun v _ => v = .pointer (some ⟨bq, 4, none⟩), fun v _ => v = vN, fun v _ => v = .pointer (some ⟨bx, 2, none⟩), fun v _ => v = vL1, fun v _ => v = .int .i64 j, fun v _ => v = .pointer (some (pL.add j)), fun v _ => v = .int .i64 z,
   fun v _ => v = .pointer (some ⟨g, z, none⟩), fun v u => Nf.Row u B v lz, fun v _ => v = .pointer (some ⟨bz, 1, none⟩), fun v _ => v = vF, fun v u => Nf.Row u B v lu, fun v _ => v = .pointer (some ⟨g, z, none⟩)]
theorem Nh.relU_up (bq bx bz : Nat) (vN vL1 vF : Value) (j z g : Nat) (pL : Addr) (B : Nat → Prop) (lz lu : List Int) : Rg.Ups (Nh.relU bq bx bz vN vL1 vF j z g pL B lz lu) := by
  refine ⟨?_, ?_, ?_, ?_, ?_, ?_, ?_, ?_, ?_, ?_, ?_, ?_, ?_, ?_, ?_, ?_, ?_, ?_, ?_, ?_, trivial⟩
  all_goals intro v w w' h hb
  all_goals (first | exact h | exact Nf.Row.up h hb)
structure Nh.DD (L : Nat → Bool) : Prop where
  d7 : L 7 = true → L 6 = true
  d13 : L 13 = true → L 7 = true ∧ L 11 = true ∧ L 12 = true
  d14 : L 14 = true → L 13 = true
theorem Nh.DD.on {L : Nat → Bool} (h : Nh.DD L) (j : Nat) (h7 : j = 7 → L 6 = true) (h13 : j = 13 → L 7 = true ∧ L 11 = true ∧ L 12 = true) (h14 : j = 14 → L 13 = true) : Nh.DD (fun i => decide (i = j) || L i) := by
  refine ⟨fun e => ?_, fun e => ?_, fun e => ?_⟩
  · simp only [Bool.or_eq_true, decide_eq_true_eq] at e ⊢
    rcases e with e | e
    · exact .inr (h7 e.symm)
    · exact .inr (h.d7 e)
  · simp only [Bool.or_eq_true, decide_eq_true_eq] at e ⊢
    rcases e with e | e
    · have := h13 e.symm; exact ⟨.inr this.1, .inr this.2.1, .inr this.2.2⟩
    · have := h.d13 e; exact ⟨.inr this.1, .inr this.2.1, .inr this.2.2⟩
  · simp only [Bool.or_eq_true, decide_eq_true_eq] at e ⊢
    rcases e with e | e
    · exact .inr (h14 e.symm)
    · exact .inr (h.d14 e)
theorem Nh.ff {b : Bool} (h : ¬ b = true) : b = false := by cases b <;> simp_all
structure Nh.W2 (w : World) (k : Nat) (f : Nat → Bool) (al : Option Addr) (n cap b : Nat) (n1 : Nat) (vF1 vL1 : Value) (e1 : Bool) (vN1 : Value) (F1 L1 : List Int) (N1 : List (List Int)) (rows1 : List Value) (y : Rx) (u0 : World) (g : Nh.Gh) (Lst : Nat → Bool) (u : World) : Prop where
  wg : Nh.WG w k f al n cap b n1 vF1 vL1 e1 vN1 F1 L1 N1 rows1 y u0.heap.size g Lst u
  bl : Below u0.heap.size u0 u
  dd : Nh.DD Lst
theorem Nh.W2.on {w : World} {k : Nat} {f : Nat → Bool} {al : Option Addr} {n cap b n1 : Nat} {vF1 vL1 : Value} {e1 : Bool} {vN1 : Value} {F1 L1 : List Int} {N1 : List (List Int)} {rows1 : List Value} {y : Rx} {u0 : World} {g : Nh.Gh} {Lst : Nat → Bool} {u : World} (h : Nh.W2 w k f al n cap b n1 vF1 vL1 e1 vN1 F1 L1 N1 rows1 y u0 g Lst u) (j : Nat) (h6 : j ≠ 6) (h7 : j ≠ 7) (h11 : j ≠ 11) (h12 : j ≠ 12) (h13 : j ≠ 13) (h14 : j ≠ 14) : Nh.W2 w k f al n cap b n1 vF1 vL1 e1 vN1 F1 L1 N1 rows1 y u0 g (fun i => decide (i = j) || Lst i) u := ⟨h.wg.on j h6 h7 h11 h12 h13 h14, h.bl, h.dd.on j (fun e => absurd e h7) (fun e => absurd e h13) (fun e => absurd e h14)⟩
structure Nh.AB (w : World) (k : Nat) (f : Nat → Bool) (al : Option Addr) (n cap b : Nat) (n1 : Nat) (vF1 vL1 : Value) (e1 : Bool) (vN1 : Value) (F1 L1 : List Int) (N1 : List (List Int)) (rows1 : List Value) (y : Rx) (K bx bz : Nat) (n2 : Nat) (vF vL vN : Value) (e2 : Bool) (vN2 : Value) (rs : List Value) (F2 L2 : List Int) (N2 : List (List Int)) (u : World) : Prop where
  cw : Nh.CW w k f al n cap b n1 vF1 vL1 e1 vN1 F1 L1 N1 rows1 u
  pa : Nh.PB u bx n1 vF1 vL1 e1 vN
  pb : Nh.PB u bz (n2 + n1 : Nat) vF vL e2 vN2
  pt : Nf.PartIs n2 F2 L2 e2 N2 (Nf.ones y) y.emp (Nf.fst y) (Nf.lst y) (Nf.fol y)
  rf : Nf.Row u (fun k => K ≤ k ∧ some k ≠ vN.ownBlock ∧ k ≠ bx ∧ k ≠ bz) vF (Nf.shift F2 n1)
  rl : Nf.Row u (fun k => K ≤ k ∧ some k ≠ vN.ownBlock ∧ k ≠ bx ∧ k ≠ bz) vL (Nf.shift L2 n1)
  ow : Ng.Own K vN (rows1 ++ rs) u
  rr : Nh.Rows u (fun k => K ≤ k ∧ some k ≠ vN.ownBlock ∧ k ≠ bx ∧ k ≠ bz) rs (N2.map fun l => Nf.shift l n1)
  fr : ∀ k, vN.ownBlock = some k → k ≠ bx ∧ k ≠ bz
  kx : K ≤ bx
  kz : K ≤ bz
  xz : bx ≠ bz
theorem Nh.W2.done {w : World} {k : Nat} {f : Nat → Bool} {al : Option Addr} {n cap b n1 : Nat} {vF1 vL1 : Value} {e1 : Bool} {vN1 : Value} {F1 L1 : List Int} {N1 : List (List Int)} {rows1 : List Value} {y : Rx} {u0 : World} {g : Nh.Gh} {Lst : Nat → Bool} {u : World} (h : Nh.W2 w k f al n cap b n1 vF1 vL1 e1 vN1 F1 L1 N1 rows1 y u0 g Lst u) (h13 : Lst 13 = true) (h14 : Lst 14 = true) : ∃ bx bz n2 vF vL vN e2 vN2 rs F2 L2 N2, g.x = some bx ∧ g.y = some bz ∧ Nh.AB w k f al n cap b n1 vF1 vL1 e1 vN1 F1 L1 N1 rows1 y u0.heap.size bx bz n2 vF vL vN e2 vN2 rs F2 L2 N2 u := by
  obtain ⟨bx, i, vFa, vLa, ea, vNa, vb, hx, hab, pa⟩ := h.wg.sx h13
  obtain ⟨bz, i', vFb, vLb, eb, vNb, va, hz, hab', pb⟩ := h.wg.sy h14
  rw [hab] at hab'
  injection hab' with hab'
  injection hab' with e1' e2'
  subst e1'
  subst e2'
  obtain ⟨n2, vF, vL, vN, e2, vN2, rs, F2, L2, N2, BE⟩ := h.wg.be _ _ hab
  have hea := BE.ea
  have heb := BE.eb
  injection hea with hea
  injection heb with heb
  have q1 := congrArg Array.toList hea
  have q2 := congrArg Array.toList heb
  simp only [List.cons.injEq, and_true, Value.int.injEq, Value.bool.injEq, true_and] at q1 q2
  obtain ⟨a0, a1, a2, a3, a4⟩ := q1
  obtain ⟨b0, b1, b2, b3, b4⟩ := q2
  subst a0; subst a1; subst a2; subst a3; subst a4; subst b0; subst b1; subst b2; subst b3; subst b4
  have hf : ∀ k, Nh.free g k → k ≠ bx ∧ k ≠ bz := fun k hk => ⟨fun e => hk.1 (by rw [e]; exact hx), fun e => hk.2 (by rw [e]; exact hz)⟩
  exact ⟨bx, bz, n2, _, _, _, _, _, rs, F2, L2, N2, hx, hz, h.wg.cw, pa, pb, BE.pt, BE.rf.mono (fun k hk => ⟨hk.1, hk.2.1, hf k hk.2.2⟩), BE.rl.mono (fun k hk => ⟨hk.1, hk.2.1, hf k hk.2.2⟩), BE.ow, BE.rr.mono (fun k hk => ⟨hk.1, hk.2.1, hf k hk.2.2⟩), fun k hk => hf k (BE.fr k hk), (h.wg.gx bx hx).1, (h.wg.gy bz hz).1, fun e => h.wg.xy bx hx (by rw [e]; exact hz)⟩
def Nh.OfOk (y : Rx) : Prop := ∀ (v : Value) (w : World), Rx.Is w y v → Calls Try.prog 41 #[v] w (Nh.OPost w y)
set_option maxRecDepth 100000 in
set_option maxHeartbeats 3000000 in
theorem cat_of (l : List Rx) (ok : ∀ y ∈ l, Nh.OfOk y) (hs : Rx.sizeL l ≤ 2000) (k : Nat) (hk0 : k = 2) (f : Nat → Bool) (al : Option Addr) (cap : Nat) (w : World) (hl : Rx.InL w l al 0) : Calls Try.prog 41 #[Rx.hdr k f al l.length cap] w (Nh.OPost w (.node k f l)) := by
  have e0 : ((k : Int) == 0) = false := by simp; omega
  have e1 : ((k : Int) == 1) = false := by simp; omega
  have e2 : ((k : Int) == 2) = true := by simp; omega
  have HK2 := Lib.hid hk0
  clear hk0
  have hle := Rx.length_le l
  have OK := Lib.hid ok
  have HL := Lib.hid hl
  clear ok hl
  obtain ⟨n, hn⟩ : ∃ n, l.length = n := ⟨_, rfl⟩
  have HN := Lib.hid hn
  unfold Rx.hdr
  rw [hn] at hle ⊢
  clear hn
  have B1 := Bs.below1 w (.cells #[.int .u8 k, .int .u64 (Bs.word f 0), .int .u64 (Bs.word f 1), .int .u64 (Bs.word f 2), .int .u64 (Bs.word f 3), .slice al n cap] 54)
  have N := Rx.nod_new w k f al n cap
  obtain ⟨W1, hW1⟩ : ∃ W, w.alloc (.cells #[.int .u8 k, .int .u64 (Bs.word f 0), .int .u64 (Bs.word f 1), .int .u64 (Bs.word f 2), .int .u64 (Bs.word f 3), .slice al n cap] 54) = W := ⟨_, rfl⟩
  have s1 : W1.heap.size = w.heap.size + 1 := by rw [← hW1]; simp
  rw [hW1] at B1 N
  have B2 := Bs.below1 W1 (.cells #[.int .i64 0, .slice none 0 0, .slice none 0 0, .bool false, .slice none 0 0] 87)
  have p2 := Nh.pb_new W1 0 (.slice none 0 0) (.slice none 0 0) false (.slice none 0 0)
  obtain ⟨W2, hW2⟩ : ∃ W, W1.alloc (.cells #[.int .i64 0, .slice none 0 0, .slice none 0 0, .bool false, .slice none 0 0] 87) = W := ⟨_, rfl⟩
  have s2 : W2.heap.size = w.heap.size + 2 := by rw [← hW2]; simp [s1]
  rw [hW2] at B2 p2
  rw [s1] at p2
  have HW2 := Lib.hid (show (w.alloc (.cells #[.int .u8 k, .int .u64 (Bs.word f 0), .int .u64 (Bs.word f 1), .int .u64 (Bs.word f 2), .int .u64 (Bs.word f 3), .slice al n cap] 54)).alloc (.cells #[.int .i64 0, .slice none 0 0, .slice none 0 0, .bool false, .slice none 0 0] 87) = W2 by rw [hW1, hW2])
  have HA := Lib.hid (Bs.below_up B1 B2)
  have HND := Lib.hid (N.up B2)
  have HP2 := Lib.hid p2
  have HS2 := Lib.hid s2
  clear B1 B2 N p2 s1 s2 hW1 hW2
  go_enter Try.func41, Try.ntmps41
  go_upto_region 1 with fail
  rw [HW2.out]
  have c0 := HND.out.cell.c0; have c5 := HND.out.cell.c5
  simp only [Nat.zero_add] at c0 c5
  have B3 := Bs.below1 W2 (.cells #[.int .i64 0, .slice none 0 0, .slice none 0 0, .bool true, .slice none 0 0] 87)
  have p3 := Nh.pb_new W2 0 (.slice none 0 0) (.slice none 0 0) true (.slice none 0 0)
  rw [HS2.out] at p3
  have C0 : Hid (Nh.CW w k f al n cap (w.heap.size + 2) 0 (.slice none 0 0) (.slice none 0 0) true (.slice none 0 0) [] [] [] [] (W2.alloc (.cells #[.int .i64 0, .slice none 0 0, .slice none 0 0, .bool true, .slice none 0 0] 87))) := Lib.hid
    ⟨Bs.below_up HA.out B3, HND.out.up B3, HP2.out.up B3, p3, ⟨none, 0, rfl, Nat.le_refl _, fun _ => rfl, fun i hi => by simp at hi, fun x e => by simp at e⟩, ⟨none, 0, rfl, Nat.le_refl _, fun _ => rfl, fun i hi => by simp at hi, fun x e => by simp at e⟩, Ng.own_nil _ _, Nh.rows_nil _ _, by omega⟩
  have P0 : Hid (Nf.PartIs 0 [] [] true [] (Nf.onesL []) (Rx.empC []) (Nf.fstC []) (Nf.lstC []) (Nf.folC [])) := Lib.hid ⟨rfl, rfl, Nf.rise_nil (fun p h => by simp [Nf.fstC] at h), Nf.rise_nil (fun p h => by simp [Nf.lstC] at h), rfl, fun i h => by simp at h⟩
  have HS3 := Lib.hid (show W2.heap.size = w.heap.size + 2 from HS2.out)
  clear B3 p3 HND HP2
  go_wp2_with fail
  rw [HS3.out]
  generalize W2.alloc (.cells #[.int .i64 0, .slice none 0 0, .slice none 0 0, .bool true, .slice none 0 0] 87) = U at *
  clear c0 c5
  go_loopw [4] (fun i wr => ∃ (q n1 : Nat) (vF1 vL1 : Value) (e1 : Bool) (vN1 : Value) (F1 L1 : List Int) (N1 : List (List Int)) (rows1 : List Value), q ≤ n ∧ i = .int .i64 q ∧ Hid (Nh.CW w k f al n cap (w.heap.size + 2) n1 vF1 vL1 e1 vN1 F1 L1 N1 rows1 wr) ∧ Hid (Nf.PartIs n1 F1 L1 e1 N1 (Nf.onesL (l.take q)) (Rx.empC (l.take q)) (Nf.fstC (l.take q)) (Nf.lstC (l.take q)) (Nf.folC (l.take q)))) (fun i _ => n - (intOf i).toNat)
  case atStart => exact ⟨0, 0, _, _, true, _, [], [], [], [], by omega, rfl, C0, by simpa using P0⟩
  case round =>
    clear C0 P0
    obtain ⟨q, n1, vF1, vL1, e1', vN1, F1, L1, N1, rows1, hq, rfl, HC, HP⟩ := hrel
    obtain ⟨aF, mF, cF, rfl⟩ := HC.out.rf.form
    obtain ⟨aL, mL, cL, rfl⟩ := HC.out.rl.form
    obtain ⟨aN, cN, rfl, _⟩ := HC.out.ow.cells
    by_cases hlt : q < n
    · have hlt' : q < l.length := by rw [HN.out]; exact hlt
      obtain ⟨p, rfl, hp⟩ := HL.out.get q hlt'
      rw [Nat.zero_add] at hp
      have OKy := Lib.hid (OK.out l[q] (List.getElem_mem hlt'))
      have HTK := Lib.hid (List.take_succ_eq_append_getElem hlt')
      have hob : (Nf.onesL (l.take q)) ≤ 2000 := Nat.le_trans (Nh.onesL_take l q) hs
      have hys : Nf.ones l[q] ≤ 2000 := Nat.le_trans (Nh.ones_le l[q]) (Nat.le_trans (Rx.part_le (List.getElem_mem hlt')).1 hs)
      generalize l[q] = y at *
      obtain ⟨k1, f1, a1, m1, cap1, HCELL, hi⟩ := hp.open
      have HCL := Lib.hid HCELL
      have HI := Lib.hid hi
      clear hp hi HCELL
      have S1 := Lib.hid (Nh.small_of HP.out (by omega) (fun p h => Nf.fstC_lt _ _ h) (fun p h => Nf.lstC_lt _ _ h) (fun p q h => (Nf.folC_lt _ _ _ h).2))
      have c5 := HC.out.nd.cell.c5
      simp only [Nat.zero_add] at c5
      have i1 : (0 : Int) ≤ (q : Int) := by omega
      have i2 : (q : Int) < (n : Int) := by omega
      have W0 : Nh.W2 w k f (some p) n cap (w.heap.size + 2) n1 (.slice aF mF cF) (.slice aL mL cL) e1' (.slice aN rows1.length cN) F1 L1 N1 rows1 y wr ⟨none, none, none, none⟩ (fun _ => false) wr.drew := ⟨⟨HC.out.up (Below.refl _ _).drew, Nat.le_refl _, fun _ => rfl, fun _ => rfl, fun _ => rfl, fun _ => rfl, fun o e => by simp at e, fun a b e => by simp at e, fun x e => by simp at e, fun x e => by simp at e, fun x e => by simp at e, fun _ x e => by simp at e, fun _ x e => by simp at e, fun e => by simp at e, fun e => by simp at e⟩, (Below.refl _ _).drew, ⟨fun e => by simp at e, fun e => by simp at e, fun e => by simp at e⟩⟩
      go_upto_region 11 with fail
      clear c5
      refine Rg.regionY (by kernel_rfl) (by kernel_rfl) (Nh.relG w.heap.size q (.agg #[.int .i64 n1, .slice aF mF cF, .slice aL mL cL, .bool e1', .slice aN rows1.length cN]) (.slice (some p) n cap) (Rx.hdr k1 f1 a1 m1 cap1) (p.add (q * 6))) (Nh.W2 w k f (some p) n cap (w.heap.size + 2) n1 (.slice aF mF cF) (.slice aL mL cL) e1' (.slice aN rows1.length cN) F1 L1 N1 rows1 y wr) Nh.MG ⟨none, none, none, none⟩ (fun i j v g w g' w' hij h m => Nh.relG_up hij h m) W0 ⟨?_, ?_, ?_, ?_, ?_, ?_, ?_, ?_, ?_, ?_, ?_, ?_, ?_, ?_, ?_, trivial⟩ ?_
      · intro g L f' x hL hw hd
        have c0 := hw.wg.cw.pb.c0
        have c1 := hw.wg.cw.pb.c1
        have c2 := hw.wg.cw.pb.c2
        have c3 := hw.wg.cw.pb.c3
        have c4 := hw.wg.cw.pb.c4
        have HW := Lib.hid hw
        clear hw hd
        simp only [Rg.step, Rg.all, Act.put, List.setIfInBounds_toArray, List.set_cons_zero, List.set_cons_succ]
        go_simp
        exact ⟨g, rfl, HW.out.on 0 (by decide) (by decide) (by decide) (by decide) (by decide) (by decide), Nh.mg_refl (by decide) (by decide) (by decide) (by decide)⟩
      · intro g L f' x hL hw hd
        have HW := Lib.hid hw
        clear hw hd
        simp only [Rg.step, Rg.all, Act.put, List.setIfInBounds_toArray, List.set_cons_zero, List.set_cons_succ]
        go_simp
        exact ⟨g, rfl, HW.out.on 1 (by decide) (by decide) (by decide) (by decide) (by decide) (by decide), Nh.mg_refl (by decide) (by decide) (by decide) (by decide)⟩
      · intro g L f' x hL hw hd
        have r1 : f' 1 = .pointer (some ⟨w.heap.size, 5, none⟩) := (hd _ (List.mem_cons_self ..) rfl).2
        have c5 := hw.wg.cw.nd.cell.c5
        simp only [Nat.zero_add] at c5
        have HW := Lib.hid hw
        clear hw hd
        simp only [Rg.step, Rg.all, Act.put, List.setIfInBounds_toArray, List.set_cons_zero, List.set_cons_succ]
        go_simp
        exact ⟨g, rfl, HW.out.on 2 (by decide) (by decide) (by decide) (by decide) (by decide) (by decide), Nh.mg_refl (by decide) (by decide) (by decide) (by decide)⟩
      · intro g L f' x hL hw hd
        have HW := Lib.hid hw
        clear hw hd
        simp only [Rg.step, Rg.all, Act.put, List.setIfInBounds_toArray, List.set_cons_zero, List.set_cons_succ]
        go_simp
        exact ⟨g, rfl, HW.out.on 3 (by decide) (by decide) (by decide) (by decide) (by decide) (by decide), Nh.mg_refl (by decide) (by decide) (by decide) (by decide)⟩
      · intro g L f' x hL hw hd
        have r2 : f' 2 = .slice (some p) n cap := (hd _ (List.mem_cons_self ..) rfl).2
        have r3 : f' 3 = .int .i64 q := (hd _ (List.mem_cons_of_mem _ (List.mem_cons_self ..)) rfl).2
        have HW := Lib.hid hw
        clear hw hd
        simp only [Rg.step, Rg.all, Act.put, List.setIfInBounds_toArray, List.set_cons_zero, List.set_cons_succ]
        go_simp
        exact ⟨g, rfl, HW.out.on 4 (by decide) (by decide) (by decide) (by decide) (by decide) (by decide), Nh.mg_refl (by decide) (by decide) (by decide) (by decide)⟩
      · intro g L f' x hL hw hd
        have r4 : f' 4 = .pointer (some (p.add (q * 6))) := (hd _ (List.mem_cons_self ..) rfl).2
        have hc := HCL.out.up hw.wg.cw.bel
        have x0 := hc.c0; have x1 := hc.c1; have x2 := hc.c2; have x3 := hc.c3; have x4 := hc.c4; have x5 := hc.c5
        clear hc
        have HW := Lib.hid hw
        clear hw hd
        simp only [Rg.step, Rg.all, Act.put, List.setIfInBounds_toArray, List.set_cons_zero, List.set_cons_succ]
        go_simp
        exact ⟨g, rfl, HW.out.on 5 (by decide) (by decide) (by decide) (by decide) (by decide) (by decide), Nh.mg_refl (by decide) (by decide) (by decide) (by decide)⟩
      · intro g L f' x hL hw hd
        have r5 : f' 5 = Rx.hdr k1 f1 a1 m1 cap1 := (hd _ (List.mem_cons_self ..) rfl).2
        have C := Lib.hid (OKy.out _ x (HI.out.up hw.wg.cw.bel))
        have HW := Lib.hid hw
        clear hw hd
        simp only [Rg.step, Rg.all, Act.put, List.setIfInBounds_toArray, List.set_cons_zero, List.set_cons_succ]
        go_simp
        refine C.out.mono ?_
        rintro e x1 ⟨n2, vF, vL, em, vN, F, L', N, rfl, h1, h2, b⟩
        have hku := HW.out.wg.ku
        have h7 : L 7 = false := Nh.ff (fun e => by rw [HW.out.dd.d7 e] at hL; simp at hL)
        exact ⟨_, rfl, { g with o := some (.agg #[.int .i64 n2, vF, vL, .bool em, vN]) }, rfl, ⟨by simpa using HW.out.wg.call6 b ⟨n2, vF, vL, em, vN, F, L', N, rfl, h1.mono hku, h2⟩ hL h7, Bs.below_up HW.out.bl b, by simpa using HW.out.dd.on 6 (fun e => by omega) (fun e => by omega) (fun e => by omega)⟩, ⟨fun e => absurd rfl e, fun _ => HW.out.wg.no hL, fun _ => rfl, fun e => by omega, fun _ => rfl, fun e => by omega, fun _ => rfl, fun e => by omega⟩⟩
      · intro g L f' x hL hw hd
        have r0 : f' 0 = .agg #[.int .i64 n1, .slice aF mF cF, .slice aL mL cL, .bool e1', .slice aN rows1.length cN] := (hd _ (List.mem_cons_self ..) rfl).2
        have r6 : g.o = some (f' 6) := (hd _ (List.mem_cons_of_mem _ (List.mem_cons_self ..)) rfl).2
        have h6 : L 6 = true := (hd _ (List.mem_cons_of_mem _ (List.mem_cons_self ..)) rfl).1
        have hof := hw.wg.of _ r6 hL
        have HW := Lib.hid hw
        have H6 := Lib.hid h6
        clear hw hd r6 h6
        obtain ⟨n2, vF2, vL2, em, vN2, F2, L2, N2, ho, hpv, hpt⟩ := hof
        obtain ⟨aF2, mF2, cF2, rfl⟩ := hpv.rf.form
        obtain ⟨aL2, mL2, cL2, rfl⟩ := hpv.rl.form
        obtain ⟨rows2, hn1', hn2'⟩ := hpv.nx
        obtain ⟨aN2, cN2, rfl, hsv2⟩ := hn1'.cells
        obtain ⟨_, _, e8, hsv1⟩ := HW.out.wg.cw.ow.cells
        injection e8 with e8 _ e9
        subst e8
        have S2 := Nh.small_of hpt (by have := hys; omega) (fun p h => Nf.fst_lt _ _ h) (fun p h => Nf.lst_lt _ _ h) (fun p q h => (Nf.fol_lt _ _ _ h).2)
        have C := Lib.hid (beside_any n1 n2 F2 L2 N2 S2 S1.out.n e1' em aF aL aN aF2 aL2 aN2 mF cF mL cL cN mF2 cF2 mL2 cL2 cN2 rows1 rows2 x hsv1 HW.out.wg.cw.rw'.one (by rw [HW.out.wg.cw.rw'.1]; exact S1.out.nl) (hpv.rf.mono (fun _ _ => trivial)) (hpv.rl.mono (fun _ _ => trivial)) hsv2 (hn2'.mono (fun _ _ => trivial)))
        have HPT := Lib.hid hpt
        clear hpv hn1' hn2' hsv1 hsv2 S2 hpt e9
        simp only [Rg.step, Rg.all, Act.put, List.setIfInBounds_toArray, List.set_cons_zero, List.set_cons_succ]
        go_simp
        refine C.out.mono ?_
        rintro e x1 ⟨vF, vL, vN, rs, rfl, R1, R2, O1, R3, b⟩
        have hku := HW.out.wg.ku
        have hfr : ∀ k, x.heap.size ≤ k → Nh.free g k := fun k hk => ⟨fun e => by have := (HW.out.wg.gx k e).2; omega, fun e => by have := (HW.out.wg.gy k e).2; omega⟩
        have BE : Nh.Be wr.heap.size g y n1 (.slice aF mF cF) (.slice aL mL cL) e1' rows1 (.agg #[.int .i64 n1, .slice aF mF cF, .slice aL mL cL, .bool e1', vN]) (.agg #[.int .i64 (n2 + n1 : Nat), vF, vL, .bool em, .slice aN2 rows2.length cN2]) x1 := ⟨n2, vF, vL, vN, em, _, rs, F2, L2, N2, rfl, rfl, HPT.out, R1.mono (fun k hk => ⟨by omega, hk.2, hfr k hk.1⟩), R2.mono (fun k hk => ⟨by omega, hk.2, hfr k hk.1⟩), World.ownsRow.mono O1 hku, R3.mono (fun k hk => ⟨by omega, hk.2, hfr k hk.1⟩), fun k hk => hfr k (World.ownsRow.lt O1 k hk).1, ⟨_, _, _, rfl⟩⟩
        exact ⟨_, rfl, { g with ab := some (_, _) }, ⟨_, _, rfl, rfl⟩, ⟨by simpa using HW.out.wg.call7 b BE hL, Bs.below_up HW.out.bl b, by simpa using HW.out.dd.on 7 (fun _ => H6.out) (fun e => by omega) (fun e => by omega)⟩, ⟨fun _ => rfl, fun e => by omega, fun e => absurd rfl e, fun _ => HW.out.wg.nab hL, fun _ => rfl, fun e => by omega, fun _ => rfl, fun e => by omega⟩⟩
      · intro g L f' x hL hw hd
        have q09 : ∃ a b, g.ab = some (a, b) ∧ f' 7 = .tuple #[a, b] := (hd _ (List.mem_cons_self ..) rfl).2
        have HW := Lib.hid hw
        clear hw hd
        simp only [Rg.step, Rg.all, Act.put, List.setIfInBounds_toArray, List.set_cons_zero, List.set_cons_succ]
        obtain ⟨a, b, e7, r7⟩ := q09
        have H7 := Lib.hid e7
        clear e7
        go_simp
        exact ⟨g, ⟨a, b, H7.out, rfl⟩, HW.out.on 8 (by decide) (by decide) (by decide) (by decide) (by decide) (by decide), Nh.mg_refl (by decide) (by decide) (by decide) (by decide)⟩
      · intro g L f' x hL hw hd
        have q09 : ∃ a b, g.ab = some (a, b) ∧ f' 8 = .tuple #[a, b] := (hd _ (List.mem_cons_self ..) rfl).2
        have HW := Lib.hid hw
        clear hw hd
        simp only [Rg.step, Rg.all, Act.put, List.setIfInBounds_toArray, List.set_cons_zero, List.set_cons_succ]
        obtain ⟨a, b, e7, r8⟩ := q09
        have H7 := Lib.hid e7
        clear e7
        go_simp
        exact ⟨g, ⟨b, H7.out⟩, HW.out.on 9 (by decide) (by decide) (by decide) (by decide) (by decide) (by decide), Nh.mg_refl (by decide) (by decide) (by decide) (by decide)⟩
      · intro g L f' x hL hw hd
        have q09 : ∃ a b, g.ab = some (a, b) ∧ f' 8 = .tuple #[a, b] := (hd _ (List.mem_cons_self ..) rfl).2
        have HW := Lib.hid hw
        clear hw hd
        simp only [Rg.step, Rg.all, Act.put, List.setIfInBounds_toArray, List.set_cons_zero, List.set_cons_succ]
        obtain ⟨a, b, e7, r8⟩ := q09
        have H7 := Lib.hid e7
        clear e7
        go_simp
        exact ⟨g, ⟨a, H7.out⟩, HW.out.on 10 (by decide) (by decide) (by decide) (by decide) (by decide) (by decide), Nh.mg_refl (by decide) (by decide) (by decide) (by decide)⟩
      · intro g L f' x hL hw hd
        have HW := Lib.hid hw
        clear hw hd
        simp only [Rg.step, Rg.all, Act.put, List.setIfInBounds_toArray, List.set_cons_zero, List.set_cons_succ]

        go_simp
        have h13 : L 13 = false := Nh.ff (fun e => by rw [(HW.out.dd.d13 e).2.1] at hL; simp at hL)
        have h14 : L 14 = false := Nh.ff (fun e => by rw [HW.out.dd.d14 e] at h13; simp at h13)
        exact ⟨{ g with x := some x.heap.size }, ⟨_, rfl, rfl⟩, ⟨by simpa using HW.out.wg.all11 hL h13 h14, Bs.below_up HW.out.bl (Bs.below1 x _), by simpa using HW.out.dd.on 11 (fun e => by omega) (fun e => by omega) (fun e => by omega)⟩, ⟨fun _ => rfl, fun e => by omega, fun _ => rfl, fun e => by omega, fun e => absurd rfl e, fun _ => HW.out.wg.nx hL, fun _ => rfl, fun e => by omega⟩⟩
      · intro g L f' x hL hw hd
        have HW := Lib.hid hw
        clear hw hd
        simp only [Rg.step, Rg.all, Act.put, List.setIfInBounds_toArray, List.set_cons_zero, List.set_cons_succ]

        go_simp
        have h13 : L 13 = false := Nh.ff (fun e => by rw [(HW.out.dd.d13 e).2.2] at hL; simp at hL)
        have h14 : L 14 = false := Nh.ff (fun e => by rw [HW.out.dd.d14 e] at h13; simp at h13)
        exact ⟨{ g with y := some x.heap.size }, ⟨_, rfl, rfl⟩, ⟨by simpa using HW.out.wg.all12 hL h13 h14, Bs.below_up HW.out.bl (Bs.below1 x _), by simpa using HW.out.dd.on 12 (fun e => by omega) (fun e => by omega) (fun e => by omega)⟩, ⟨fun _ => rfl, fun e => by omega, fun _ => rfl, fun e => by omega, fun _ => rfl, fun e => by omega, fun e => absurd rfl e, fun _ => HW.out.wg.ny hL⟩⟩
      · intro g L f' x hL hw hd
        have q09 : ∃ b, g.x = some b ∧ f' 11 = .pointer (some ⟨b, 0, none⟩) := (hd _ (List.mem_cons_self ..) rfl).2
        have q19 : ∃ b, g.ab = some (f' 9, b) := (hd _ (List.mem_cons_of_mem _ (List.mem_cons_self ..)) rfl).2
        have h7 : L 7 = true := (hd { on := 7, ground := Ground.chain } (by simp) rfl).1
        have h11 : L 11 = true := (hd { on := 11, ground := Ground.data } (by simp) rfl).1
        have h12 : L 12 = true := (hd { on := 12, ground := Ground.phase } (by simp) rfl).1
        have HZ := Lib.hid hw.wg.zx
        have HW := Lib.hid hw
        clear hw hd
        simp only [Rg.step, Rg.all, Act.put, List.setIfInBounds_toArray, List.set_cons_zero, List.set_cons_succ]
        obtain ⟨bx, e11, r11⟩ := q09
        obtain ⟨vb, e9⟩ := q19
        have hbe := HW.out.wg.be _ _ e9
        obtain ⟨n2, vF, vL, vN, e2', vN2, rs, F2, L2, N2, BE⟩ := hbe
        obtain ⟨aV, nV, cV, rfl⟩ := BE.ow.form
        have ea := BE.ea
        rw [ea] at e9
        have H9 := Lib.hid e9
        have H11 := Lib.hid e11
        have hz := HZ.out hL bx e11
        have z0 := hz.c0; have z1 := hz.c1; have z2 := hz.c2; have z3 := hz.c3; have z4 := hz.c4
        have y0 := hz.z 0 (by decide); have y1 := hz.z 1 (by decide); have y2 := hz.z 2 (by decide); have y3 := hz.z 3 (by decide); have y4 := hz.z 4 (by decide)
        clear hz BE HZ e9 e11
        go_simp
        have h14 : L 14 = false := Nh.ff (fun e => by rw [HW.out.dd.d14 e] at hL; simp at hL)
        have hst := HW.out.wg.st13 wr rfl HC.out HW.out.bl h7 hL h14 H11.out H9.out
        rw [Nh.put_def] at hst
        exact ⟨g, trivial, ⟨by simpa using hst.1, by simpa using hst.2, by simpa using HW.out.dd.on 13 (fun e => by omega) (fun _ => ⟨h7, h11, h12⟩) (fun e => by omega)⟩, Nh.mg_refl (by decide) (by decide) (by decide) (by decide)⟩
      · intro g L f' x hL hw hd
        have q09 : ∃ b, g.y = some b ∧ f' 12 = .pointer (some ⟨b, 0, none⟩) := (hd _ (List.mem_cons_self ..) rfl).2
        have q19 : ∃ a, g.ab = some (a, f' 10) := (hd _ (List.mem_cons_of_mem _ (List.mem_cons_self ..)) rfl).2
        have h7 : L 7 = true := (hd { on := 7, ground := Ground.phase } (by simp) rfl).1
        have h13 : L 13 = true := (hd { on := 13, ground := Ground.chain } (by simp) rfl).1
        have HZ := Lib.hid hw.wg.zy
        have HW := Lib.hid hw
        clear hw hd
        simp only [Rg.step, Rg.all, Act.put, List.setIfInBounds_toArray, List.set_cons_zero, List.set_cons_succ]
        obtain ⟨bx, e11, r12⟩ := q09
        obtain ⟨va, e9⟩ := q19
        have hbe := HW.out.wg.be _ _ e9
        obtain ⟨n2, vF, vL, vN, e2', vN2, rs, F2, L2, N2, BE⟩ := hbe
        obtain ⟨aV, nV, cV, rfl⟩ := BE.rf.form
        obtain ⟨aW, nW, cW, rfl⟩ := BE.rl.form
        obtain ⟨aY, nY, cY, rfl⟩ := BE.f2
        have eb := BE.eb
        rw [eb] at e9
        have H9 := Lib.hid e9
        have H11 := Lib.hid e11
        have hz := HZ.out hL bx e11
        have z0 := hz.c0; have z1 := hz.c1; have z2 := hz.c2; have z3 := hz.c3; have z4 := hz.c4
        have y0 := hz.z 0 (by decide); have y1 := hz.z 1 (by decide); have y2 := hz.z 2 (by decide); have y3 := hz.z 3 (by decide); have y4 := hz.z 4 (by decide)
        clear hz BE HZ e9 e11
        go_simp
        have hst := HW.out.wg.st14 wr rfl HC.out HW.out.bl h7 h13 hL H11.out H9.out
        rw [Nh.put_def] at hst
        exact ⟨g, trivial, ⟨by simpa using hst.1, by simpa using hst.2, by simpa using HW.out.dd.on 14 (fun e => by omega) (fun e => by omega) (fun _ => h13)⟩, Nh.mg_refl (by decide) (by decide) (by decide) (by decide)⟩
      · intro g L f' x hall hw hR
        have q11 : ∃ b, g.x = some b ∧ f' 11 = .pointer (some ⟨b, 0, none⟩) := hR 11 (by decide)
        have q12 : ∃ b, g.y = some b ∧ f' 12 = .pointer (some ⟨b, 0, none⟩) := hR 12 (by decide)
        have hdn := hw.done (hall 13 (by decide)) (hall 14 (by decide))
        have HBL := Lib.hid hw.bl
        clear hw hR hall
        simp only [Rg.all, Act.put, List.setIfInBounds_toArray, List.set_cons_zero, List.set_cons_succ]
        obtain ⟨bx, bz, n2, vF, vL, vN, e2', vN2, rs, F2, L2, N2, hx, hz, AB⟩ := hdn
        obtain ⟨bx', hx', r11⟩ := q11
        obtain ⟨bz', hz', r12⟩ := q12
        rw [hx] at hx'
        rw [hz] at hz'
        injection hx' with hx'
        injection hz' with hz'
        subst hx'
        subst hz'
        obtain ⟨aF2, mF2, cF2, rfl⟩ := AB.rf.form
        obtain ⟨aL2, mL2, cL2, rfl⟩ := AB.rl.form
        obtain ⟨aV, nV, cV, rfl⟩ := AB.ow.form
        have x0 := AB.pa.c0; have x1 := AB.pa.c1; have x2 := AB.pa.c2; have x3 := AB.pa.c3; have x4 := AB.pa.c4
        have z0 := AB.pb.c0; have z1 := AB.pb.c1; have z2 := AB.pb.c2; have z3 := AB.pb.c3; have z4 := AB.pb.c4
        have HAB := Lib.hid AB
        clear AB hx hz
        rw [r11, r12]
        clear r11 r12
        generalize f' 0 = t0 at *
        generalize f' 1 = t1 at *
        generalize f' 2 = t2 at *
        generalize f' 3 = t3 at *
        generalize f' 4 = t4 at *
        generalize f' 5 = t5 at *
        generalize f' 6 = t6 at *
        generalize f' 7 = t7 at *
        generalize f' 8 = t8 at *
        generalize f' 9 = t9 at *
        generalize f' 10 = t10 at *
        go_upto_region 12 with fail
        go_cut [7] (fun v7 wx => v7 = .pointer (some ⟨x.heap.size, 0, none⟩) ∧ wx = x.alloc (.cells #[.int .i64 ((n2 : Int) + (n1 : Int)), .slice aF mF cF, .slice aL2 mL2 cL2, .bool (e1' && e2'), .slice aV nV cV] 87))
        case first =>
          cases e1'
          · go_wp2_with fail
            go_meet
            exact ⟨rfl, rfl⟩
          · go_wp2_with fail
            go_meet
            exact ⟨rfl, rfl⟩
        case rest =>
          obtain ⟨rfl, rfl⟩ := hcut
          clear x0 x1 x2 x3 x4 z0 z1 z2 z3 z4
          obtain ⟨F2', hF2'⟩ : ∃ F2', Nf.shift F2 n1 = F2' := ⟨_, rfl⟩
          obtain ⟨L2', hL2'⟩ : ∃ L2', Nf.shift L2 n1 = L2' := ⟨_, rfl⟩
          obtain ⟨N2', hN2'⟩ : ∃ N2', (N2.map fun l => Nf.shift l n1) = N2' := ⟨_, rfl⟩
          have HL0 : Hid (Nh.LW w k f (some p) n cap (w.heap.size + 2) bx bz x.heap.size n1 ((n2 : Int) + (n1 : Int)) (.slice aF mF cF) (.slice aL mL cL) e1' (.slice aN rows1.length cN) (.slice aF2 mF2 cF2) (.slice aL2 mL2 cL2) e2' vN2 (e1' && e2') (.slice aV nV cV) F1 L1 F2' L2' (N1 ++ N2') (x.alloc (.cells #[.int .i64 ((n2 : Int) + (n1 : Int)), .slice aF mF cF, .slice aL2 mL2 cL2, .bool (e1' && e2'), .slice aV nV cV] 87))) := Lib.hid (by
            subst hF2'; subst hL2'; subst hN2'
            have AB := HAB.out
            have B := Bs.below1 x (.cells #[.int .i64 ((n2 : Int) + (n1 : Int)), .slice aF mF cF, .slice aL2 mL2 cL2, .bool (e1' && e2'), .slice aV nV cV] 87)
            have hKb : w.heap.size + 2 < wr.heap.size := HC.out.pb.lt
            have lx := AB.pa.lt
            have lz := AB.pb.lt
            have kx := AB.kx
            have kz := AB.kz
            have hbl := HBL.out.size
            have hvK : ∀ j, (Value.slice aV nV cV).ownBlock = some j → wr.heap.size ≤ j ∧ j < x.heap.size := fun j hj => World.ownsRow.lt AB.ow j hj
            have old : ∀ j, w.heap.size + 2 < j → j < wr.heap.size → Nh.Kd (w.heap.size + 2) bx bz x.heap.size (.slice aV nV cV) j := fun j h1 h2 => ⟨h1, fun e => by have := (hvK j e.symm).1; omega, by omega, by omega, by omega⟩
            have new : ∀ j, (wr.heap.size ≤ j ∧ some j ≠ (Value.slice aV nV cV).ownBlock ∧ j ≠ bx ∧ j ≠ bz) ∧ j < x.heap.size → Nh.Kd (w.heap.size + 2) bx bz x.heap.size (.slice aV nV cV) j := fun j h1 => ⟨by omega, h1.1.2.1, h1.1.2.2.1, h1.1.2.2.2, by omega⟩
            refine ⟨Bs.below_up AB.cw.bel B, AB.cw.nd.up B, AB.cw.p2.up B, AB.cw.pb.up B, AB.pa.up B, ?_, Nh.pb_new x _ _ _ _ _, ((HC.out.rf.lt.mono (fun j hj => old j hj.1.1 hj.2)).up HBL.out).up B, ((HC.out.rl.lt.mono (fun j hj => old j hj.1.1 hj.2)).up HBL.out).up B, (AB.rf.lt.mono new).up B, (AB.rl.lt.mono new).up B, ⟨rows1 ++ rs, World.ownsRow.mono (AB.ow.up B) (by omega), ?_⟩, fun j hj => ?_, by omega, by omega, by omega, by omega, AB.xz, by omega, by omega⟩
            · have h9 := AB.pb.up B
              rw [Int.natCast_add] at h9
              exact h9
            · exact Nh.Rows.append (((HC.out.rw'.lt.mono (fun j hj => old j hj.1.1 hj.2)).up HBL.out).up B) ((AB.rr.lt.mono new).up B)
            · have h9 := hvK j hj
              have h8 := AB.fr j hj
              exact ⟨by omega, h8.1, h8.2, by omega⟩)
          have l2 := HL0.out.pa.c2
          have hlF : F2'.length ≤ 10000 := by
            rw [← hF2']
            unfold Nf.shift
            rw [List.length_map]
            have := (Nh.rise_len HAB.out.pt.fst (Nf.ones y) (fun p h => Nf.fst_lt _ _ h)).1
            omega
          have HPT := Lib.hid HAB.out.pt
          have HF2 := Lib.hid hF2'; have HL2 := Lib.hid hL2'; have HN2 := Lib.hid hN2'
          clear HAB HBL hF2' hL2' hN2'
          go_wp2_with fail
          generalize hbq : x.heap.size = bq at *
          generalize x.alloc (.cells #[.int .i64 ((n2 : Int) + (n1 : Int)), .slice aF mF cF, .slice aL2 mL2 cL2, .bool (e1' && e2'), .slice aV nV cV] 87) = U2 at *
          clear l2
          have hmL : mL = L1.length := HC.out.rl.at.1
          have HML := Lib.hid hmL
          have hmb : mL ≤ 100000 := by rw [hmL]; exact S1.out.ll
          clear hmL
          have HN1 := Lib.hid HP.out.len
          have HLS := Lib.hid HP.out.lst
          have hn1l : n1 = N1.length := by rw [HP.out.len]; exact HP.out.num
          have HN1L := Lib.hid hn1l
          clear hn1l
          go_loopw [8] (fun i wr2 => ∃ (j : Nat) (NQ : List (List Int)), j ≤ mL ∧ i = .int .i64 j ∧ Hid (Nh.LW w k f (some p) n cap (w.heap.size + 2) bx bz bq n1 ((n2 : Int) + (n1 : Int)) (.slice aF mF cF) (.slice aL mL cL) e1' (.slice aN rows1.length cN) (.slice aF2 mF2 cF2) (.slice aL2 mL2 cL2) e2' vN2 (e1' && e2') (.slice aV nV cV) F1 L1 F2' L2' NQ wr2) ∧ Hid (NQ = Nf.upd (N1 ++ N2') (L1.take j) F2')) (fun i _ => mL - (intOf i).toNat)
          case atStart => exact ⟨0, _, by omega, rfl, HL0, Lib.hid (by simp [Nf.upd])⟩
          case round =>
            clear HL0
            obtain ⟨j, NQ, hj, rfl, HLQ, HNQ⟩ := hrel
            have l2 := HLQ.out.pa.c2
            by_cases hlt2 : j < mL
            · have hjl : j < L1.length := by rw [← HML.out]; exact hlt2
              have hmem := List.getElem_mem hjl
              have h0 := HLS.out.nn _ hmem
              obtain ⟨z, hz9⟩ : ∃ z : Nat, L1[j] = z := ⟨L1[j].toNat, by omega⟩
              have HZ := Lib.hid hz9
              have hzl : z < N1.length := by
                have := Nf.lstC_lt _ _ ((HLS.out.is z).1 (by rw [← hz9]; exact hmem))
                rw [HN1.out]; exact this
              have hlen : NQ.length = (N1 ++ N2').length := by rw [HNQ.out, Nf.upd_len]
              have hzN : z < NQ.length := by rw [hlen, List.length_append]; omega
              have hgetz : NQ[z]'hzN = N1[z] := by
                have hzz : z < (N1 ++ N2').length := by rw [List.length_append]; omega
                have h8 := Nf.upd_get F2' (L1.take j) (N1 ++ N2') (HLS.out.up.sublist (List.take_sublist j L1)) (fun y hy => HLS.out.nn y (List.mem_of_mem_take hy)) z hzz (by rw [Nf.upd_len]; exact hzz)
                have hnot : ¬ (z : Int) ∈ L1.take j := fun hm => by
                  obtain ⟨i9, hi9, e9⟩ := List.getElem_of_mem hm
                  rw [List.length_take] at hi9
                  rw [List.getElem_take] at e9
                  have := List.pairwise_iff_getElem.1 HLS.out.up i9 j (by omega) hjl (by omega)
                  rw [e9, hz9] at this
                  omega
                rw [if_neg hnot, List.getElem_append_left hzl] at h8
                rw [← h8]
                simp only [HNQ.out]
              have hlz1 : (NQ[z]'hzN).length ≤ 10000 := by
                rw [hgetz]
                have := (Nh.rise_len (HP.out.nxt z hzl) (Nf.onesL (l.take q)) (fun p h => (Nf.folC_lt _ _ _ h).2)).1
                omega
              have HUP := Lib.hid (show Nf.upd (N1 ++ N2') (L1.take (j + 1)) F2' = NQ.set z (Nf.union (NQ[z]'hzN) F2') by
                rw [Nh.upd_take _ _ _ j hjl, ← HNQ.out, hz9, Int.toNat_natCast, List.getD_eq_getElem?_getD, List.getElem?_eq_getElem hzN]
                rfl)
              obtain ⟨pL, hpL, _⟩ := HLQ.out.rl1.at.2 j hjl
              subst hpL
              obtain ⟨g, m9, c9, hvN⟩ := Nh.next_form HLQ.out.nx (by omega)
              injection hvN with hv1 hv2 hv3
              subst hv1
              have hnV := (Nh.next_lt HLQ.out.nx).2
              have i1 : (0 : Int) ≤ (j : Int) := by omega
              have i2 : (j : Int) < (mL : Int) := by omega
              have i3 : (0 : Int) ≤ (z : Int) := by omega
              have i4 : (z : Int) < (nV : Int) := by omega
              clear hgetz hlen hnV hv2 hv3 hmem h0 hz9 hzl
              go_upto_region 16 with fail
              clear l2
              refine Rg.regionT (by kernel_rfl) (by kernel_rfl) (by kernel_rfl) (by decide) (Rg.rel (Nh.relU bq bx bz (.slice (some ⟨g, 0, none⟩) nV cV) (.slice (some pL) mL cL) (.slice aF2 mF2 cF2) j z g pL (Nh.Kd (w.heap.size + 2) bx bz bq (.slice (some ⟨g, 0, none⟩) nV cV)) (NQ[z]'hzN) (Nf.union (NQ[z]'hzN) F2'))) (Nh.LW w k f (some p) n cap (w.heap.size + 2) bx bz bq n1 ((n2 : Int) + (n1 : Int)) (.slice aF mF cF) (.slice (some pL) mL cL) e1' (.slice aN rows1.length cN) (.slice aF2 mF2 cF2) (.slice aL2 mL2 cL2) e2' vN2 (e1' && e2') (.slice (some ⟨g, 0, none⟩) nV cV) F1 L1 F2' L2' NQ) (fun w w' => Below w.heap.size w w') (fun i v w w' h _ hb => Rg.rel_up (Nh.relU_up _ _ _ _ _ _ _ _ _ _ _ _ _) h hb) (HLQ.out.up (Below.refl _ _).drew) ⟨?_, ?_, ?_, ?_, ?_, ?_, ?_, ?_, ?_, ?_, ?_, ?_, ?_, ?_, ?_, ?_, ?_, ?_, ?_, ?_, trivial⟩ ?_
              · intro fv u hw hd
                have HW := Lib.hid hw
                clear hw hd
                simp only [Rg.step, Rg.all, Act.put, List.setIfInBounds_toArray, List.set_cons_zero, List.set_cons_succ]
                go_simp
                exact ⟨rfl, HW.out, Below.refl _ _⟩
              · intro fv u hw hd
                have r0 : fv 0 = .pointer (some ⟨bq, 4, none⟩) := hd _ (List.mem_cons_self ..)
                have c4 := hw.pq.c4
                have HW := Lib.hid hw
                clear hw hd
                simp only [Rg.step, Rg.all, Act.put, List.setIfInBounds_toArray, List.set_cons_zero, List.set_cons_succ]
                go_simp
                exact ⟨rfl, HW.out, Below.refl _ _⟩
              · intro fv u hw hd
                have HW := Lib.hid hw
                clear hw hd
                simp only [Rg.step, Rg.all, Act.put, List.setIfInBounds_toArray, List.set_cons_zero, List.set_cons_succ]
                go_simp
                exact ⟨rfl, HW.out, Below.refl _ _⟩
              · intro fv u hw hd
                have r2 : fv 2 = .pointer (some ⟨bx, 2, none⟩) := hd _ (List.mem_cons_self ..)
                have c2 := hw.pa.c2
                have HW := Lib.hid hw
                clear hw hd
                simp only [Rg.step, Rg.all, Act.put, List.setIfInBounds_toArray, List.set_cons_zero, List.set_cons_succ]
                go_simp
                exact ⟨rfl, HW.out, Below.refl _ _⟩
              · intro fv u hw hd
                have HW := Lib.hid hw
                clear hw hd
                simp only [Rg.step, Rg.all, Act.put, List.setIfInBounds_toArray, List.set_cons_zero, List.set_cons_succ]
                go_simp
                exact ⟨rfl, HW.out, Below.refl _ _⟩
              · intro fv u hw hd
                have r3 : fv 3 = .slice (some pL) mL cL := hd _ (List.mem_cons_self ..)
                have r4 : fv 4 = .int .i64 j := hd _ (List.mem_cons_of_mem _ (List.mem_cons_self ..))
                have HW := Lib.hid hw
                clear hw hd
                simp only [Rg.step, Rg.all, Act.put, List.setIfInBounds_toArray, List.set_cons_zero, List.set_cons_succ]
                go_simp
                exact ⟨rfl, HW.out, Below.refl _ _⟩
              · intro fv u hw hd
                have r5 : fv 5 = .pointer (some (pL.add j)) := hd _ (List.mem_cons_self ..)
                have hpc : u.cell? (pL.add j) = some (.int .i64 z) := by
                  obtain ⟨x9, e9, h9⟩ := hw.rl1.at.2 j hjl
                  injection e9 with e9
                  subst e9
                  rw [HZ.out] at h9
                  exact h9
                have HW := Lib.hid hw
                clear hw hd
                simp only [Rg.step, Rg.all, Act.put, List.setIfInBounds_toArray, List.set_cons_zero, List.set_cons_succ]
                go_simp
                exact ⟨rfl, HW.out, Below.refl _ _⟩
              · intro fv u hw hd
                have HW := Lib.hid hw
                clear hw hd
                simp only [Rg.step, Rg.all, Act.put, List.setIfInBounds_toArray, List.set_cons_zero, List.set_cons_succ]
                go_simp
                exact ⟨rfl, HW.out, Below.refl _ _⟩
              · intro fv u hw hd
                have r7 : fv 7 = .pointer (some ⟨bq, 4, none⟩) := hd _ (List.mem_cons_self ..)
                have c4 := hw.pq.c4
                have HW := Lib.hid hw
                clear hw hd
                simp only [Rg.step, Rg.all, Act.put, List.setIfInBounds_toArray, List.set_cons_zero, List.set_cons_succ]
                go_simp
                exact ⟨rfl, HW.out, Below.refl _ _⟩
              · intro fv u hw hd
                have HW := Lib.hid hw
                clear hw hd
                simp only [Rg.step, Rg.all, Act.put, List.setIfInBounds_toArray, List.set_cons_zero, List.set_cons_succ]
                go_simp
                exact ⟨rfl, HW.out, Below.refl _ _⟩
              · intro fv u hw hd
                have r9 : fv 9 = .pointer (some ⟨bx, 2, none⟩) := hd _ (List.mem_cons_self ..)
                have c2 := hw.pa.c2
                have HW := Lib.hid hw
                clear hw hd
                simp only [Rg.step, Rg.all, Act.put, List.setIfInBounds_toArray, List.set_cons_zero, List.set_cons_succ]
                go_simp
                exact ⟨rfl, HW.out, Below.refl _ _⟩
              · intro fv u hw hd
                have HW := Lib.hid hw
                clear hw hd
                simp only [Rg.step, Rg.all, Act.put, List.setIfInBounds_toArray, List.set_cons_zero, List.set_cons_succ]
                go_simp
                exact ⟨rfl, HW.out, Below.refl _ _⟩
              · intro fv u hw hd
                have r10 : fv 10 = .slice (some pL) mL cL := hd _ (List.mem_cons_self ..)
                have r11 : fv 11 = .int .i64 j := hd _ (List.mem_cons_of_mem _ (List.mem_cons_self ..))
                have HW := Lib.hid hw
                clear hw hd
                simp only [Rg.step, Rg.all, Act.put, List.setIfInBounds_toArray, List.set_cons_zero, List.set_cons_succ]
                go_simp
                exact ⟨rfl, HW.out, Below.refl _ _⟩
              · intro fv u hw hd
                have r12 : fv 12 = .pointer (some (pL.add j)) := hd _ (List.mem_cons_self ..)
                have hpc : u.cell? (pL.add j) = some (.int .i64 z) := by
                  obtain ⟨x9, e9, h9⟩ := hw.rl1.at.2 j hjl
                  injection e9 with e9
                  subst e9
                  rw [HZ.out] at h9
                  exact h9
                have HW := Lib.hid hw
                clear hw hd
                simp only [Rg.step, Rg.all, Act.put, List.setIfInBounds_toArray, List.set_cons_zero, List.set_cons_succ]
                go_simp
                exact ⟨rfl, HW.out, Below.refl _ _⟩
              · intro fv u hw hd
                have r8 : fv 8 = .slice (some ⟨g, 0, none⟩) nV cV := hd _ (List.mem_cons_self ..)
                have r13 : fv 13 = .int .i64 z := hd _ (List.mem_cons_of_mem _ (List.mem_cons_self ..))
                have HW := Lib.hid hw
                clear hw hd
                simp only [Rg.step, Rg.all, Act.put, List.setIfInBounds_toArray, List.set_cons_zero, List.set_cons_succ]
                go_simp
                exact ⟨rfl, HW.out, Below.refl _ _⟩
              · intro fv u hw hd
                have r14 : fv 14 = .pointer (some ⟨g, z, none⟩) := hd _ (List.mem_cons_self ..)
                have hgc := Nh.next_cell hw.nx hzN
                have HW := Lib.hid hw
                clear hw hd
                simp only [Rg.step, Rg.all, Act.put, List.setIfInBounds_toArray, List.set_cons_zero, List.set_cons_succ]
                obtain ⟨ar, nr, cr, hcell, hrow⟩ := hgc
                have HROW := Lib.hid hrow
                clear hrow
                go_simp
                exact ⟨HROW.out, HW.out, Below.refl _ _⟩
              · intro fv u hw hd
                have HW := Lib.hid hw
                clear hw hd
                simp only [Rg.step, Rg.all, Act.put, List.setIfInBounds_toArray, List.set_cons_zero, List.set_cons_succ]
                go_simp
                exact ⟨rfl, HW.out, Below.refl _ _⟩
              · intro fv u hw hd
                have r16 : fv 16 = .pointer (some ⟨bz, 1, none⟩) := hd _ (List.mem_cons_self ..)
                have c1 := hw.pb.c1
                have HW := Lib.hid hw
                clear hw hd
                simp only [Rg.step, Rg.all, Act.put, List.setIfInBounds_toArray, List.set_cons_zero, List.set_cons_succ]
                go_simp
                exact ⟨rfl, HW.out, Below.refl _ _⟩
              · intro fv u hw hd
                have r15 : Nf.Row u (Nh.Kd (w.heap.size + 2) bx bz bq (.slice (some ⟨g, 0, none⟩) nV cV)) (fv 15) (NQ[z]'hzN) := hd _ (List.mem_cons_self ..)
                have r17 : fv 17 = .slice aF2 mF2 cF2 := hd _ (List.mem_cons_of_mem _ (List.mem_cons_self ..))
                have hlx := hw.pa.lt; have hlz := hw.pb.lt; have hlq := hw.pq.lt; have hlp := hw.pp.lt
                have hlg := (Nh.next_lt hw.nx).1
                have C := Lib.hid (refUnion_any (NQ[z]'hzN) F2' _ _ u (Nh.Kd (w.heap.size + 2) bx bz bq (.slice (some ⟨g, 0, none⟩) nV cV)) (fun j hj => ⟨by omega, fun e => by simp only [Value.ownBlock] at e; injection e with e; omega, by omega, by omega, by omega⟩) (r15.mono (fun _ _ => trivial)) (hw.rf.mono (fun _ _ => trivial)) hlz1 hlF)
                have HW := Lib.hid hw
                clear hw hd
                simp only [Rg.step, Rg.all, Act.put, List.setIfInBounds_toArray, List.set_cons_zero, List.set_cons_succ]
                obtain ⟨ar, nr, cr, e15⟩ := r15.form
                clear r15
                go_simp
                rw [e15] at C
                refine C.out.mono ?_
                rintro e u1 ⟨v1, rfl, R1, b1⟩
                exact ⟨_, rfl, R1, HW.out.up b1, b1⟩
              · intro fv u hw hd
                have r1 : fv 1 = .slice (some ⟨g, 0, none⟩) nV cV := hd _ (List.mem_cons_self ..)
                have r6 : fv 6 = .int .i64 z := hd _ (List.mem_cons_of_mem _ (List.mem_cons_self ..))
                have HW := Lib.hid hw
                clear hw hd
                simp only [Rg.step, Rg.all, Act.put, List.setIfInBounds_toArray, List.set_cons_zero, List.set_cons_succ]
                go_simp
                exact ⟨rfl, HW.out, Below.refl _ _⟩
              · intro fv u hw hR o ho
                have r18 : Nf.Row u (Nh.Kd (w.heap.size + 2) bx bz bq (.slice (some ⟨g, 0, none⟩) nV cV)) (fv 18) (Nf.union (NQ[z]'hzN) F2') := hR 18 (by decide)
                have r19 : fv 19 = .pointer (some ⟨g, z, none⟩) := hR 19 (by decide)
                simp at ho
                subst ho
                simp only [Rg.step, Rg.all, Act.put, List.setIfInBounds_toArray, List.set_cons_zero, List.set_cons_succ]
                obtain ⟨a8, n8, c8, e8⟩ := r18.form
                rw [e8] at r18
                have HR8 := Lib.hid (hw.put z r18)
                have hgc := Nh.next_cell hw.nx hzN
                have hgz := Nh.next_frz hw.nx z
                obtain ⟨ar, nr, cr, hcell, _⟩ := hgc
                clear hw hR r18
                generalize fv 0 = fz0 at *
                generalize fv 1 = fz1 at *
                generalize fv 2 = fz2 at *
                generalize fv 3 = fz3 at *
                generalize fv 4 = fz4 at *
                generalize fv 5 = fz5 at *
                generalize fv 6 = fz6 at *
                generalize fv 7 = fz7 at *
                generalize fv 8 = fz8 at *
                generalize fv 9 = fz9 at *
                generalize fv 10 = fz10 at *
                generalize fv 11 = fz11 at *
                generalize fv 12 = fz12 at *
                generalize fv 13 = fz13 at *
                generalize fv 14 = fz14 at *
                generalize fv 15 = fz15 at *
                generalize fv 16 = fz16 at *
                generalize fv 17 = fz17 at *
                go_simp
                go_wp2_with fail
                go_roundw
                case rel => exact ⟨j + 1, _, by omega, by go_num, HR8, Lib.hid HUP.out.symm⟩
                case measure => simp [intOf]; omega
            · have htk : L1.take j = L1 := List.take_of_length_le (by rw [← HML.out]; omega)
              have HNF := Lib.hid (show NQ = Nf.upd (N1 ++ N2') L1 F2' by rw [HNQ.out, htk])
              clear htk
              have HQ := Lib.hid HLQ.out.q
              have hl1 : F1.length ≤ 10000 := by
                have := (Nh.rise_len HP.out.fst (Nf.onesL (l.take q)) (fun p h => Nf.fstC_lt _ _ h)).1
                omega
              have hl2 : L1.length ≤ 10000 := by have := (Nh.rise_len HP.out.lst (Nf.onesL (l.take q)) (fun p h => Nf.lstC_lt _ _ h)).1; omega
              have hl3 : L2'.length ≤ 10000 := by
                rw [← HL2.out]
                unfold Nf.shift
                rw [List.length_map]
                have := (Nh.rise_len HPT.out.lst (Nf.ones y) (fun p h => Nf.lst_lt _ _ h)).1
                omega
              clear HLQ HNQ
              have c3 := HQ.out.pa.c3
              go_upto_if 90 with fail
              clear c3 l2
              go_cut [] (fun wx => ∃ vFq Fq, Nh.QW w k f (some p) n cap (w.heap.size + 2) bx bz bq n1 ((n2 : Int) + (n1 : Int)) (.slice aF mF cF) (.slice aL mL cL) e1' (.slice aN rows1.length cN) (.slice aF2 mF2 cF2) (.slice aL2 mL2 cL2) e2' vN2 (e1' && e2') (.slice aV nV cV) F1 L1 F2' L2' NQ vFq (.slice aL2 mL2 cL2) Fq L2' wx ∧ Fq = if e1' = true then Nf.union F1 F2' else F1)
              case first =>
                cases e1'
                · go_wp2_with fail
                  go_meet
                  exact ⟨_, _, HQ.out, rfl⟩
                · have C := Lib.hid (refUnion_any F1 F2' _ _ wr (Nh.Kd (w.heap.size + 2) bx bz bq (.slice aV nV cV)) HQ.out.kd (HQ.out.rf1.mono (fun _ _ => trivial)) (HQ.out.rf.mono (fun _ _ => trivial)) hl1 hlF)
                  have a1 := HQ.out.pa.c1
                  have b1 := HQ.out.pb.c1
                  go_wp2_with fail
                  refine C.out.mono ?_
                  rintro e u1 ⟨v1, rfl, R1, bb⟩
                  clear a1 b1 C
                  replace HQ := Lib.hid (HQ.out.up bb)
                  obtain ⟨a9, n9, c9, rfl⟩ := R1.form
                  have HQ2 := Lib.hid (HQ.out.set1 R1)
                  have z1 := HQ.out.pq.z 1 (by decide)
                  have q1 := HQ.out.pq.c1
                  clear HQ R1 bb
                  go_wp2_with fail
                  go_meet
                  exact ⟨_, _, HQ2.out, rfl⟩
              case rest =>
                obtain ⟨vFq, Fq, hq1, hq2⟩ := hcut
                have HQ := Lib.hid hq1
                have HFq := Lib.hid hq2
                clear hq1 hq2
                have c3 := HQ.out.pb.c3
                go_upto_if 98 with fail
                clear c3
                go_cut [] (fun wx => ∃ vLq Lq, Nh.QW w k f (some p) n cap (w.heap.size + 2) bx bz bq n1 ((n2 : Int) + (n1 : Int)) (.slice aF mF cF) (.slice aL mL cL) e1' (.slice aN rows1.length cN) (.slice aF2 mF2 cF2) (.slice aL2 mL2 cL2) e2' vN2 (e1' && e2') (.slice aV nV cV) F1 L1 F2' L2' NQ vFq vLq Fq Lq wx ∧ Lq = if e2' = true then Nf.union L1 L2' else L2')
                case first =>
                  cases e2'
                  · go_wp2_with fail
                    go_meet
                    exact ⟨_, _, HQ.out, rfl⟩
                  · have C := Lib.hid (refUnion_any L1 L2' _ _ _ (Nh.Kd (w.heap.size + 2) bx bz bq (.slice aV nV cV)) HQ.out.kd (HQ.out.rl1.mono (fun _ _ => trivial)) (HQ.out.rl.mono (fun _ _ => trivial)) hl2 hl3)
                    have a1 := HQ.out.pa.c2
                    have b1 := HQ.out.pb.c2
                    go_wp2_with fail
                    refine C.out.mono ?_
                    rintro e u1 ⟨v1, rfl, R1, bb⟩
                    clear a1 b1 C
                    replace HQ := Lib.hid (HQ.out.up bb)
                    obtain ⟨a9, n9, c9, rfl⟩ := R1.form
                    have HQ2 := Lib.hid (HQ.out.set2 R1)
                    have z1 := HQ.out.pq.z 2 (by decide)
                    have q1 := HQ.out.pq.c2
                    clear HQ R1 bb
                    go_wp2_with fail
                    go_meet
                    exact ⟨_, _, HQ2.out, rfl⟩
                case rest =>
                  obtain ⟨vLq, Lq, hq1, hq2⟩ := hcut
                  have HLq := Lib.hid hq2
                  have h9 := hq1
                  rw [← Int.natCast_add] at h9
                  obtain ⟨rows9, hcw⟩ := h9.done
                  rw [Int.natCast_add] at hcw
                  have HCW := Lib.hid hcw
                  have HPC := Lib.hid (Nf.part_cat HP.out HPT.out)
                  obtain ⟨aFq, mFq, cFq, rfl⟩ := hq1.rfq.form
                  obtain ⟨aLq, mLq, cLq, rfl⟩ := hq1.rlq.form
                  have q0 := hq1.pq.c0; have q1 := hq1.pq.c1; have q2 := hq1.pq.c2; have q3 := hq1.pq.c3; have q4 := hq1.pq.c4
                  have y0 := hq1.pp.z 0 (by decide); have y1 := hq1.pp.z 1 (by decide); have y2 := hq1.pp.z 2 (by decide); have y3 := hq1.pp.z 3 (by decide); have y4 := hq1.pp.z 4 (by decide)
                  have p0 := hq1.pp.c0; have p1 := hq1.pp.c1; have p2 := hq1.pp.c2; have p3 := hq1.pp.c3; have p4 := hq1.pp.c4
                  clear hq1 hq2 h9 hcw HQ
                  go_wp2_with fail
                  rw [Nh.put_def] at HCW
                  go_roundw
                  case rel => exact ⟨q + 1, n2 + n1, _, _, _, _, _, _, _, _, by omega, by go_num, HCW, Lib.hid (by
                    rw [HTK.out, HFq.out, HLq.out, HNF.out, ← HF2.out, ← HL2.out, ← HN2.out]
                    exact HPC.out)⟩
                  case measure => simp [intOf]; omega
    · have hqe : l.take q = l := List.take_of_length_le (by rw [HN.out]; omega)
      have hp1 := HP.out
      rw [hqe] at hp1
      have HO := Lib.hid (HC.out.out (Nh.node_cat HK2.out f hp1))
      have q0 := HC.out.pb.c0; have q1 := HC.out.pb.c1; have q2 := HC.out.pb.c2; have q3 := HC.out.pb.c3; have q4 := HC.out.pb.c4
      have y0 := HC.out.p2.z 0 (by decide); have y1 := HC.out.p2.z 1 (by decide); have y2 := HC.out.p2.z 2 (by decide); have y3 := HC.out.p2.z 3 (by decide); have y4 := HC.out.p2.z 4 (by decide)
      have p0 := HC.out.p2.c0; have p1 := HC.out.p2.c1; have p2 := HC.out.p2.c2; have p3 := HC.out.p2.c3; have p4 := HC.out.p2.c4
      have c5 := HC.out.nd.cell.c5
      simp only [Nat.zero_add] at c5
      have hv := Nh.put_pb HC.out.p2 n1 (.slice aF mF cF) (.slice aL mL cL) e1' (.slice aN rows1.length cN)
      rw [Nh.put_def] at HO hv
      have v0 := hv.c0; have v1 := hv.c1; have v2 := hv.c2; have v3 := hv.c3; have v4 := hv.c4
      have V := Lib.hid hv
      clear hp1 hqe v0 v1 v2 v3 v4 hv
      go_wp2_with fail
      have v0 := V.out.c0; have v1 := V.out.c1; have v2 := V.out.c2; have v3 := V.out.c3; have v4 := V.out.c4
      refine bodyPost_ret (v := .agg #[.int .i64 n1, .slice aF mF cF, .slice aL mL cL, .bool e1', .slice aN rows1.length cN]) (by simp [results, Try.results41, go_sem, v0, v1, v2, v3, v4]) rfl HO.out
end Go.Proofs.Ytnbbepgjpfhjdaa
