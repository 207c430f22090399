/- What the walk's all answers, walked. -/
import Derived.Test.YthapedadnbkgnaaG25
import Derived.Test.YthapedadnbkgnaaG16
import Derived.Deep.OwnRows
namespace Go.Proofs.Ythapedadnbkgnaa
set_option linter.unusedVariables false
set_option linter.unusedSimpArgs false
open Go.RowKit
structure Rg.WC (U : World) (jb : Nat) (ds : List (Nat × Nat)) (Post : World → Prop) (L : Nat → Bool) (u : World) : Prop where
  is : L jb = false → Below U.heap.size U u
  on : L jb = true → Post u
  dd : ∀ p ∈ ds, L p.1 = true → L p.2 = true
theorem Rg.WC.on' {U : World} {jb : Nat} {ds : List (Nat × Nat)} {Post : World → Prop} {L : Nat → Bool} {u : World} (h : Rg.WC U jb ds Post L u) (j : Nat) (hj : j ≠ jb) (hd : ∀ p ∈ ds, p.1 = j → L p.2 = true) : Rg.WC U jb ds Post (fun k => decide (k = j) || L k) u :=
  ⟨fun e => h.is (by simpa [Ne.symm hj] using e), fun e => h.on (by simpa [Ne.symm hj] using e), fun p hp e => by
    by_cases e1 : p.1 = j
    · simp [hd p hp e1]
    · simp [h.dd p hp (by simpa [e1] using e)]⟩
theorem Rg.WC.up {U : World} {jb : Nat} {ds : List (Nat × Nat)} {Post : World → Prop} {L : Nat → Bool} {u u' : World} (h : Rg.WC U jb ds Post L u) (hL : L jb = false) (hb : Below u.heap.size u u') : Rg.WC U jb ds Post L u' :=
  ⟨fun e => Bs.below_up (h.is e) hb, fun e => (by rw [hL] at e; cases e), h.dd⟩
theorem Rg.WC.turn {U : World} {jb : Nat} {ds : List (Nat × Nat)} {Post : World → Prop} {L : Nat → Bool} {u u' : World} (h : Rg.WC U jb ds Post L u) (hd : ∀ p ∈ ds, p.1 = jb → L p.2 = true) (hP : Post u') : Rg.WC U jb ds Post (fun k => decide (k = jb) || L k) u' :=
  ⟨fun e => by simp at e, fun _ => hP, fun p hp e => by
    by_cases e1 : p.1 = jb
    · simp [hd p hp e1]
    · simp [h.dd p hp (by simpa [e1] using e)]⟩
theorem Rg.WC.off {U : World} {jb : Nat} {ds : List (Nat × Nat)} {Post : World → Prop} {L : Nat → Bool} {u : World} (h : Rg.WC U jb ds Post L u) (a b : Nat) (hp : (a, b) ∈ ds) (hb : L b = false) : L a = false := by
  cases e : L a with
  | false => rfl
  | true => have := h.dd _ hp e; rw [hb] at this; cases this
theorem Rg.wc_zero (U : World) (jb : Nat) (ds : List (Nat × Nat)) (Post : World → Prop) : Rg.WC U jb ds Post (fun _ => false) U.drew := ⟨fun _ => (Below.refl _ _).drew, fun e => (by cases e), fun _ _ e => (by cases e)⟩
def Df.FrR (r b gx : Nat) (vF : Value) (f : Df.Fr) (v : Value) (u : World) : Prop := ∃ v1 v2, v = .agg #[v1, v2] ∧ Nf.Row u (Df.K r b gx vF) v1 f.1 ∧ Nf.Row u (Df.K r b gx vF) v2 f.2
theorem Df.FrR.turn {r b gx : Nat} {vF : Value} {f : Df.Fr} {v : Value} {u u' : World} (h : Df.FrR r b gx vF f v u) (ho : Ng.Only u u' (Df.Wr r b vF)) : Df.FrR r b gx vF f v u' := by
  obtain ⟨v1, v2, e, h1, h2⟩ := h
  exact ⟨v1, v2, e, Df.row_turn h1 ho (Df.nx_refl _ _), Df.row_turn h2 ho (Df.nx_refl _ _)⟩
def Df.MQ (w0 : World) (r b gx rm : Nat) (vb : Value) (l : List Rx) (st : Nat) (vF : Value) (F : List Df.Fr) (nx : List (List Nat)) (U : World) (u : World) : Prop :=
  ∃ vF' vs', Df.WK w0 r b gx rm vb l st (F.map Df.ft) vF' F vs' nx u ∧ Ng.Only U u (Df.Wr r b vF) ∧ Df.Nx vF vF' U.heap.size
def Df.NxOk (l : List Rx) (F : List Df.Fr) (nx : List (List Nat)) : Prop := nx.length ≤ F.length ∧ ∀ j (h : j < nx.length), nx[j] = (Df.nxt l (F.getD j ([], []))).map (Df.idx F) ∧ ∀ y ∈ Df.nxt l (F.getD j ([], [])), y ∈ F
theorem Df.NxOk.pre {l : List Rx} {F : List Df.Fr} {nx : List (List Nat)} (h : Df.NxOk l F nx) (ys : List Df.Fr) : Df.NxOk l (F ++ ys) nx := by
  have hle := h.1
  refine ⟨by rw [List.length_append]; omega, fun j hj => ?_⟩
  have e : (F ++ ys).getD j ([], []) = F.getD j ([], []) := by
    rw [List.getD_eq_getElem?_getD, List.getD_eq_getElem?_getD, List.getElem?_append_left (by omega)]
  rw [e]
  obtain ⟨h1, h2⟩ := h.2 j hj
  refine ⟨?_, fun y hy => List.mem_append_left _ (h2 y hy)⟩
  rw [h1]
  refine List.map_congr_left fun y hy => ?_
  rw [Df.idx_pre (h2 y hy)]
theorem Df.NxOk.snoc {l : List Rx} {F : List Df.Fr} {nx : List (List Nat)} (h : Df.NxOk l F nx) (hl : nx.length < F.length) {row : List Nat} (hr : row = (Df.nxt l (F.getD nx.length ([], []))).map (Df.idx F)) (hc : ∀ y ∈ Df.nxt l (F.getD nx.length ([], [])), y ∈ F) : Df.NxOk l F (nx ++ [row]) := by
  refine ⟨by rw [List.length_append, List.length_singleton]; omega, fun j hj => ?_⟩
  by_cases e : j < nx.length
  · simp only [List.getElem_append_left e]
    exact h.2 j e
  · have e1 : j = nx.length := by rw [List.length_append, List.length_singleton] at hj; omega
    subst e1
    simp only [List.getElem_append_right (Nat.le_refl nx.length), Nat.sub_self, List.getElem_cons_zero]
    exact ⟨hr, hc⟩
def Df.AllPost (w0 : World) (r b rm : Nat) (vb : Value) (l : List Rx) (e : Ending) (u : World) : Prop :=
  (∃ n vF vs nx, e = .returned (.bool true) ∧ Df.WK w0 r b r rm vb l (Df.idx (Df.fs l n) (Df.s0 l)) ((Df.fs l n).map Df.ft) vF (Df.fs l n) vs nx u ∧ Df.Went (Df.nxt l) (Df.F0 l) n ∧ (Df.fs l n).length = n ∧ n ≤ 501 ∧ nx = (Df.fs l n).map fun f => (Df.nxt l f).map (Df.idx (Df.fs l n))) ∨
  (e = .returned (.bool false) ∧ (∃ n, Df.Went (Df.nxt l) (Df.F0 l) n ∧ 501 < (Df.fs l n).length) ∧ Below w0.heap.size w0 u)
theorem Df.all_yes {w0 : World} {r b rm : Nat} {vb : Value} {l : List Rx} {n : Nat} {vF : Value} {vs : List (Value × Value × Value)} {nx : List (List Nat)} {u : World} (h : Df.WK w0 r b r rm vb l (Df.idx (Df.F0 l) (Df.s0 l)) ((Df.fs l n).map Df.ft) vF (Df.fs l n) vs nx u) (hw : Df.Went (Df.nxt l) (Df.F0 l) n) (hn : (Df.fs l n).length = n) (h5 : n ≤ 501) (hx : Df.NxOk l (Df.fs l n) nx) (hnx : nx.length = n) : Df.AllPost w0 r b rm vb l (.returned (.bool true)) u := by
  refine .inl ⟨n, vF, vs, nx, rfl, ?_, hw, hn, h5, ?_⟩
  · obtain ⟨ys, e⟩ := Df.gone_pre (Df.nxt l) (Df.F0 l) 0 n
    rw [Nat.zero_add] at e
    have e3 : Df.fs l n = Df.F0 l ++ ys := e
    have h1 : Df.s0 l ∈ Df.F0 l := by unfold Df.F0; rw [Df.mem_meet]; simp
    have e2 : Df.idx (Df.fs l n) (Df.s0 l) = Df.idx (Df.F0 l) (Df.s0 l) := by rw [e3, Df.idx_pre h1]
    rw [e2]
    exact h
  · refine List.ext_getElem (by rw [List.length_map]; omega) fun j h1 h2 => ?_
    rw [List.length_map] at h2
    rw [List.getElem_map, (hx.2 j h1).1, List.getD_eq_getElem?_getD, List.getElem?_eq_getElem h2, Option.getD_some]
theorem Df.IsB.get {base : Nat} {a : Option Addr} {n c : Nat} {l : List Nat} {w : World} (h : Df.IsB base (.slice a n c) l w) (k : Nat) (hk : k < l.length) : ∃ p, a = some p ∧ w.cell? (p.add k) = some (.int .u8 (l[k] : Nat)) := by
  rcases h.2 with ⟨_, h0⟩ | ⟨g, cap, cur, e, _⟩
  · omega
  · injection e with e1 e2 e3
    subst e1
    subst e2
    subst e3
    refine ⟨_, rfl, ?_⟩
    exact World.ownsRow.cells (g := g) h rfl k (.int .u8 (l[k] : Nat)) (by simp [Df.byts, hk])
def Df.nv (F us : List Df.Fr) (k : Nat) (i : Nat) : Value := if i < k then .int .i64 (Df.idx F (us.getD i ([], [])) : Nat) else .int .i64 0
theorem Df.nv_row {u : World} {B : Nat → Prop} {g n : Nat} {F us : List Df.Fr} (h : u.rowIs g 3 n (Df.nv F us us.length)) (hn : us.length = n) (hB : B g) : Nf.Row u B (.slice (some ⟨g, 0, none⟩) n n) (Ng.nums (us.map (Df.idx F))) := by
  have hl : (Ng.nums (us.map (Df.idx F))).length = n := by simp [hn]
  refine ⟨some ⟨g, 0, none⟩, n, by rw [hl], by rw [hl]; exact Nat.le_refl _, fun e => (by cases e), fun i hi => ⟨_, rfl, ?_⟩, fun x e _ => by injection e with e; subst e; exact hB⟩
  have e0 : (⟨g, 0, none⟩ : Addr).add i = ⟨g, i, none⟩ := by unfold Addr.add; split <;> simp_all
  have hi2 : i < us.length := by rw [hl] at hi; omega
  rw [e0, h.cell (by omega)]
  simp [Df.nv, hi2]
set_option maxRecDepth 100000 in
set_option maxHeartbeats 2000000 in
theorem all_any (w0 : World) (base r b rm : Nat) (vb : Value) (l : List Rx) (u : World) (HM : Ng.Mc w0 base rm l) (h : Df.WK w0 r b r rm vb l 0 [] (.slice none 0 0) [] [] [] u)
    (hl : Nf.onesL l ≤ 2000) (hn : l.length ≤ 1000) : Calls Try.prog 30 #[.pointer (some ⟨r, 0, none⟩)] u (Df.AllPost w0 r b rm vb l) := by
  obtain ⟨aB, nB, cB, rfl⟩ := h.yb.form
  have hnB : nB = (Df.by_ l).length := (h.yb.get rfl).1
  have hnB2 : nB ≤ 256 := by rw [hnB]; exact (Df.by_len l).2
  have HNB := Lib.hid hnB
  have HMC := Lib.hid HM
  have C := Lib.hid (meetW_any w0 r b r rm (.slice aB nB cB) l 0 (.slice none 0 0) [] [] [] u h hl hn (by simp) ([], []) (Df.none_ok l) (.slice none 0 0) (.slice none 0 0) (Ng.row_nil _ _) (Ng.row_nil _ _))
  obtain ⟨vb, hvb⟩ : ∃ v, v = Value.slice aB nB cB := ⟨_, rfl⟩
  have HVB := Lib.hid hvb
  rw [← hvb] at C ⊢
  clear HM h hnB hvb
  go_enter Try.func30, Try.ntmps30
  go_wp2_with fail
  refine C.out.mono ?_
  rintro e U ⟨vF, vs, rfl, k1, k2, k3⟩
  have HK : Hid (Df.WK w0 r b r rm vb l 0 ([([], [])].map Df.ft) vF [([], [])] vs [] U) := Lib.hid k1
  clear C k1 k2 k3
  have c0 := HK.out.c0
  go_wp2_with fail
  refine (start_any U base rm l (HMC.out.up HK.out.bel) (fun k => U.heap.size ≤ k) (fun k hk => hk)).mono ?_
  rintro e y ⟨os, rs, ⟨y1, y2, rfl, R1, R2, b1⟩, h4, h5⟩
  have hs := Df.s0_eq h4 h5
  have C := Lib.hid (meetW_any w0 r b r rm vb l 0 vF [([], [])] vs [] y (HK.out.up b1) hl hn (by simp) (Df.s0 l) (Df.s0_ok l) y1 y2 (by rw [hs]; exact R1.mono (fun k hk => HK.out.k k hk)) (by rw [hs]; exact R2.mono (fun k hk => HK.out.k k hk)))
  obtain ⟨o1, o2, o3, rfl⟩ := R1.form
  obtain ⟨o4, o5, o6, rfl⟩ := R2.form
  clear h4 h5 hs R1 R2 b1 c0
  go_wp2_with fail
  refine C.out.mono ?_
  rintro e x ⟨vF1, vs1, rfl, k1, k2, k3⟩
  have c4 := k1.c4
  have z4 := k1.z 4 (by decide)
  have HK1 := Lib.hid (k1.start (Df.idx [([], [])] (Df.s0 l)))
  clear C k1 k2 k3
  have HI0 := Lib.hid (show Df.idx [([], [])] (Df.s0 l) = Df.idx (Df.F0 l) (Df.s0 l) by unfold Df.F0; rw [Df.idx_met])
  have HK2 : Hid (Df.WK w0 r b r rm vb l (Df.idx (Df.F0 l) (Df.s0 l)) ((Df.fs l 0).map Df.ft) vF1 (Df.fs l 0) vs1 [] (x.setCell ⟨r, 4, none⟩ (.int .i64 (Df.idx [([], [])] (Df.s0 l) : Nat)))) := Lib.hid (by rw [← HI0.out]; exact HK1.out)
  clear HK1 HK
  go_wp2_with fail
  clear c4 z4
  generalize hst9 : Df.idx [([], [])] (Df.s0 l) = st9 at *
  generalize x.setCell ⟨r, 4, none⟩ (.int .i64 (st9 : Nat)) = V at *
  clear hst9
  go_loopw [3] (fun i wr => ∃ (q : Nat) (vF : Value) (vs : List (Value × Value × Value)) (nx : List (List Nat)), q ≤ 501 ∧ i = .int .i64 q ∧ Hid (Df.WK w0 r b r rm vb l (Df.idx (Df.F0 l) (Df.s0 l)) ((Df.fs l q).map Df.ft) vF (Df.fs l q) vs nx wr) ∧ Hid (Df.Went (Df.nxt l) (Df.F0 l) q) ∧ Hid ((Df.fs l q).length ≤ 501) ∧ Hid (Df.NxOk l (Df.fs l q) nx) ∧ Hid (nx.length = q)) (fun i _ => 501 - (intOf i).toNat)
  case atStart => exact ⟨0, vF1, vs1, [], by omega, rfl, HK2, Lib.hid (fun i hi => by omega), Lib.hid (by have := Df.meet_len [(([], []) : Df.Fr)] (Df.s0 l); simp at this; show (Df.F0 l).length ≤ 501; unfold Df.F0; omega), Lib.hid ⟨by simp, fun j hj => by simp at hj⟩, Lib.hid rfl⟩
  case round =>
    clear HK2
    obtain ⟨q, vF, vs, nx, hq, rfl, HK, HWE, HLE, HNX, HNL⟩ := hrel
    obtain ⟨aF, nF, cF, rfl⟩ : ∃ a n c, vF = .slice a n c := by
      rcases HK.out.of.2 with ⟨e, _⟩ | ⟨g, cap, cur, e, _⟩
      · exact ⟨_, _, _, e⟩
      · exact ⟨_, _, _, e⟩
    have hnF : nF = (Df.fs l q).length := by rw [← HK.out.rw'.len]; exact (HK.out.at).1
    have hqF : q ≤ nF := by rw [hnF]; exact HWE.out.le
    have hnF5 : nF ≤ 501 := by rw [hnF]; exact HLE.out
    have HNF := Lib.hid hnF
    have c3 := HK.out.c3
    clear hnF
    by_cases hlt : q < nF
    case neg =>
      have hqn : nF = q := by omega
      subst hqn
      go_wp2_with fail
      go_ret
      exact Df.all_yes HK.out HWE.out HNF.out.symm hq HNX.out HNL.out
    case pos =>
      have e1 : decide ((q : Int) < (nF : Int)) = true := decide_eq_true (by omega)
      have e2 : decide (q < nF) = true := decide_eq_true hlt
      have c2 := HK.out.c2
      rw [HVB.out] at c2
      have hmk := run_make_row' (P := Try.prog) 38 3 (.int .i64 0) 8 Try.underlying38 Nf.infoInt rfl .i64 .i64 nB (by omega) (by omega)
      have HEX := Lib.hid (HK.out.ex (.cells (madeCells #[.int .i64 0] nB) 3))
      have c2' := HEX.out.c2
      rw [HVB.out] at c2'
      have HRW := Lib.hid (World.rowIs_made wr (.int .i64 0) nB 3)
      have HG0 := Lib.hid (show ¬ Df.Wr r b (.slice aF nF cF) wr.heap.size from Df.k_of (HK.out.k _ (Nat.le_refl _)))
      have HG9 := Lib.hid HK.out.bel.size
      go_upto_region 8 with fail
      clear hmk c2 c3 e1 e2 c2'
      generalize hV9 : wr.alloc (.cells (madeCells #[.int .i64 0] nB) 3) = V9 at *
      generalize hg9 : wr.heap.size = g9 at *
      clear hV9 hg9
      have HUL := Lib.hid (show (Df.nxt l ((Df.fs l q).getD q ([], []))).length = nB by rw [Df.nxt_len, HNB.out])
      obtain ⟨f0, hf0⟩ : ∃ f, f = (Df.fs l q).getD q ([], []) := ⟨_, rfl⟩
      have HF0E := Lib.hid hf0
      rw [← hf0] at HUL
      clear hf0
      obtain ⟨us, hus⟩ : ∃ us, us = Df.nxt l f0 := ⟨_, rfl⟩
      have HUS := Lib.hid hus
      rw [← hus] at HUL
      clear hus
      go_loopw [40] (fun i wx => ∃ (k : Nat) (vF : Value) (vs : List (Value × Value × Value)), k ≤ nB ∧ i = .int .i64 k ∧ Hid (Df.WK w0 r b g9 rm vb l (Df.idx (Df.F0 l) (Df.s0 l)) (((us.take k).foldl Df.meet (Df.fs l q)).map Df.ft) vF ((us.take k).foldl Df.meet (Df.fs l q)) vs nx wx) ∧ Hid (wx.rowIs g9 3 nB (Df.nv ((us.take k).foldl Df.meet (Df.fs l q)) us k)) ∧ Hid (¬ Df.Wr r b vF g9)) (fun i _ => nB - (intOf i).toNat)
      case atStart => exact ⟨0, .slice aF nF cF, vs, by omega, rfl, HEX, Lib.hid (HRW.out.congr fun i hi => by simp [Df.nv]), HG0⟩
      case round =>
        clear HEX HRW HG0
        obtain ⟨k, vF, vs, hk, rfl, HK, HROW, HNW⟩ := hrel
        have hFl : ((us.take k).foldl Df.meet (Df.fs l q)).length ≤ 10000 := by
          have h1 : ∀ (us ks : List Df.Fr), (us.foldl Df.meet ks).length ≤ ks.length + us.length := by
            intro us
            induction us with
            | nil => intro ks; simp
            | cons u us ih =>
              intro ks
              rw [List.foldl_cons, List.length_cons]
              have := ih (Df.meet ks u)
              have := Df.meet_len ks u
              omega
          have h2 := h1 (us.take k) (Df.fs l q)
          rw [List.length_take] at h2
          have := HLE.out
          omega
        have hpre := Df.meets_pre (us.take k) (Df.fs l q)
        have HPRE := Lib.hid hpre
        clear hpre
        by_cases hkw : k < nB
        · have hku : k < us.length := by rw [HUL.out]; exact hkw
          have hkb : k < (Df.by_ l).length := by rw [← HNB.out]; exact hkw
          have HTK := Lib.hid (show (us.take (k + 1)).foldl Df.meet (Df.fs l q) = Df.meet ((us.take k).foldl Df.meet (Df.fs l q)) us[k] by rw [List.take_succ_eq_append_getElem hku, List.foldl_append]; rfl)
          have HUK := Lib.hid (show us[k] = Df.sf l (Df.by_ l)[k] f0 by simp only [HUS.out, Df.nxt, List.getElem_map])
          have HUD := Lib.hid (show us.getD k ([], []) = us[k] by rw [List.getD_eq_getElem?_getD, List.getElem?_eq_getElem hku]; rfl)
          have hc := Df.bys_lt (List.getElem_mem hkb)
          obtain ⟨pB, rfl, hcB⟩ := (HK.out.yb.get HVB.out).2 k hkb
          have hqq : q < ((us.take k).foldl Df.meet (Df.fs l q)).length := by
            obtain ⟨ys, e⟩ := HPRE.out
            rw [e, List.length_append]
            have := HNF.out
            omega
          have HFQ := Lib.hid (show ∀ h : q < ((us.take k).foldl Df.meet (Df.fs l q)).length, ((us.take k).foldl Df.meet (Df.fs l q))[q] = f0 by
            intro h
            have hq2 : q < (Df.fs l q).length := by rw [← HNF.out]; exact hlt
            obtain ⟨ys, e⟩ := HPRE.out
            simp only [e]
            rw [List.getElem_append_left hq2, HF0E.out, List.getD_eq_getElem?_getD, List.getElem?_eq_getElem hq2]
            rfl)
          have HF0 := Lib.hid (show Df.FOk l f0 by rw [← HFQ.out hqq]; exact HK.out.ok _ (List.getElem_mem hqq))
          generalize (Df.by_ l)[k] = c at *
          have HUKD := Lib.hid (show us.getD k ([], []) = Df.sf l c f0 by rw [HUD.out, HUK.out])
          rw [HUK.out] at HTK
          have hqv : q < vs.length := by rw [HK.out.rw'.len]; exact hqq
          obtain ⟨aF, nF2, cF, rfl⟩ : ∃ a n c, vF = .slice a n c := by
            rcases HK.out.of.2 with ⟨e, _⟩ | ⟨g, cap, cur, e, _⟩
            · exact ⟨_, _, _, e⟩
            · exact ⟨_, _, _, e⟩
          have hn2 : nF2 = vs.length := (HK.out.at).1
          have hqn : q < nF2 := by rw [hn2]; exact hqv
          obtain ⟨p, rfl, x0, x1, x2, z2, gg, ep, eq3⟩ := HK.out.atp q hqv
          have hy := HK.out.rw'.ra q hqv hqq
          rw [HFQ.out hqq] at hy
          obtain ⟨vsq, hvsq⟩ : ∃ v, v = vs[q] := ⟨_, rfl⟩
          rw [← hvsq] at x0 x1 hy
          clear hvsq
          obtain ⟨y1, y2, y3⟩ := vsq
          simp only at x0 x1 hy
          obtain ⟨a1, n1, c1, rfl⟩ := hy.1.form
          obtain ⟨a2, n2, c2, rfl⟩ := hy.2.form
          have HX0 := Lib.hid x0
          have HX1 := Lib.hid x1
          have HY1 := Lib.hid hy.1
          clear x0 x1 x2 z2 ep eq3 hy hn2 HUD HUK HFQ HPRE
          obtain ⟨F, hFe⟩ : ∃ F, F = (us.take k).foldl Df.meet (Df.fs l q) := ⟨_, rfl⟩
          rw [← hFe] at HK HROW HTK hFl hqq
          have HFE := Lib.hid hFe
          clear hFe
          have hF := hFl
          have i1 : (0 : Int) ≤ (k : Int) := by omega
          have i2 : (k : Int) < (nB : Int) := by omega
          have i3 : (0 : Int) ≤ (q : Int) := by omega
          have i4 : (q : Int) < (nF2 : Int) := by omega
          obtain ⟨st, hst⟩ : ∃ s, s = Df.idx (Df.F0 l) (Df.s0 l) := ⟨_, rfl⟩
          rw [← hst] at HK
          have HST := Lib.hid hst
          clear hst
          obtain ⟨wd, hwd⟩ : ∃ n, n = nB := ⟨_, rfl⟩
          go_upto_region 10 with fail
          subst hwd
          clear hcB
          obtain ⟨U, hU⟩ : ∃ U, U = wr := ⟨_, rfl⟩
          subst hU
          refine Rg.regionZ (by kernel_rfl) (by kernel_rfl) (by kernel_rfl) (by decide) (Rg.rel [fun v _ => v = .slice (some ⟨g9, 0, none⟩) wd wd, fun v _ => v = .int .i64 k, fun v _ => v = .pointer (some ⟨r, 0, none⟩), fun v _ => v = .pointer (some ⟨r, 0, none⟩), fun v _ => v = .pointer (some ⟨r, 0, none⟩), fun v _ => v = .pointer (some ⟨r, 0, none⟩), fun v _ => v = .pointer (some ⟨rm, 0, none⟩), fun v _ => v = .pointer (some ⟨r, 0, none⟩), fun v _ => v = .pointer (some ⟨r, 0, none⟩), fun v _ => v = .pointer (some ⟨r, 3, none⟩), fun v _ => v = .slice (some p) nF2 cF, fun v _ => v = .int .i64 q, fun v _ => v = .pointer (some (p.add (q * 3))), fun v _ => v = .pointer (some (p.add (q * 3))), fun v _ => v = .agg #[.slice a1 n1 c1, .slice a2 n2 c2], fun v _ => v = .int .u8 c, Df.FrR r b g9 (.slice (some p) nF2 cF) (Df.sf l c f0), fun v _ => v = .int .i64 (Df.idx F (Df.sf l c f0) : Nat), fun v _ => v = .pointer (some ⟨g9, k, none⟩)]) (Rg.WC U 17 [(17, 16), (16, 14), (16, 6), (14, 13), (13, 12), (12, 10)] (Df.MQ w0 r b g9 rm vb l st (.slice (some p) nF2 cF) (Df.meet F (Df.sf l c f0)) nx U)) (fun _ u u' => Ng.Only u u' (Df.Wr r b (.slice (some p) nF2 cF))) (fun _ _ => False) (fun c b x _ h => h.elim) (fun i j v w w' hij h hb => by
            match j, h with
            | 0, h => exact h
            | 1, h => exact h
            | 2, h => exact h
            | 3, h => exact h
            | 4, h => exact h
            | 5, h => exact h
            | 6, h => exact h
            | 7, h => exact h
            | 8, h => exact h
            | 9, h => exact h
            | 10, h => exact h
            | 11, h => exact h
            | 12, h => exact h
            | 13, h => exact h
            | 14, h => exact h
            | 15, h => exact h
            | 16, h => exact Df.FrR.turn h hb
            | 17, h => exact h
            | 18, h => exact h
            | n + 19, h => exact h) (Rg.wc_zero _ _ _ _) ⟨?_, ?_, ?_, ?_, ?_, ?_, ?_, ?_, ?_, ?_, ?_, ?_, ?_, ?_, ?_, ?_, ?_, ?_, ?_, trivial⟩ ?_
          · intro L f' x hL hw hd
            have HW := Lib.hid hw
            clear hw hd
            simp only [Rg.stepZ, Rg.all, Act.put, List.setIfInBounds_toArray, List.set_cons_zero, List.set_cons_succ]
            go_simp
            exact ⟨rfl, HW.out.on' 0 (by decide) (by
    intro p hp e
    simp only [List.mem_cons, List.not_mem_nil, or_false] at hp
    rcases hp with rfl | rfl | rfl | rfl | rfl | rfl
    · exact absurd e (by decide)
    · exact absurd e (by decide)
    · exact absurd e (by decide)
    · exact absurd e (by decide)
    · exact absurd e (by decide)
    · exact absurd e (by decide)), Df.only_refl _ _⟩
          · intro L f' x hL hw hd
            have HW := Lib.hid hw
            clear hw hd
            simp only [Rg.stepZ, Rg.all, Act.put, List.setIfInBounds_toArray, List.set_cons_zero, List.set_cons_succ]
            go_simp
            exact ⟨rfl, HW.out.on' 1 (by decide) (by
    intro p hp e
    simp only [List.mem_cons, List.not_mem_nil, or_false] at hp
    rcases hp with rfl | rfl | rfl | rfl | rfl | rfl
    · exact absurd e (by decide)
    · exact absurd e (by decide)
    · exact absurd e (by decide)
    · exact absurd e (by decide)
    · exact absurd e (by decide)
    · exact absurd e (by decide)), Df.only_refl _ _⟩
          · intro L f' x hL hw hd
            have HW := Lib.hid hw
            clear hw hd
            simp only [Rg.stepZ, Rg.all, Act.put, List.setIfInBounds_toArray, List.set_cons_zero, List.set_cons_succ]
            go_simp
            exact ⟨rfl, HW.out.on' 2 (by decide) (by
    intro p hp e
    simp only [List.mem_cons, List.not_mem_nil, or_false] at hp
    rcases hp with rfl | rfl | rfl | rfl | rfl | rfl
    · exact absurd e (by decide)
    · exact absurd e (by decide)
    · exact absurd e (by decide)
    · exact absurd e (by decide)
    · exact absurd e (by decide)
    · exact absurd e (by decide)), Df.only_refl _ _⟩
          · intro L f' x hL hw hd
            have HW := Lib.hid hw
            clear hw hd
            simp only [Rg.stepZ, Rg.all, Act.put, List.setIfInBounds_toArray, List.set_cons_zero, List.set_cons_succ]
            go_simp
            exact ⟨rfl, HW.out.on' 3 (by decide) (by
    intro p hp e
    simp only [List.mem_cons, List.not_mem_nil, or_false] at hp
    rcases hp with rfl | rfl | rfl | rfl | rfl | rfl
    · exact absurd e (by decide)
    · exact absurd e (by decide)
    · exact absurd e (by decide)
    · exact absurd e (by decide)
    · exact absurd e (by decide)
    · exact absurd e (by decide)), Df.only_refl _ _⟩
          · intro L f' x hL hw hd
            have r3 : f' 3 = .pointer (some ⟨r, 0, none⟩) := (hd _ (List.mem_cons_self ..)).2
            have HW := Lib.hid hw
            clear hw hd
            simp only [Rg.stepZ, Rg.all, Act.put, List.setIfInBounds_toArray, List.set_cons_zero, List.set_cons_succ]
            go_simp
            exact ⟨rfl, HW.out.on' 4 (by decide) (by
    intro p hp e
    simp only [List.mem_cons, List.not_mem_nil, or_false] at hp
    rcases hp with rfl | rfl | rfl | rfl | rfl | rfl
    · exact absurd e (by decide)
    · exact absurd e (by decide)
    · exact absurd e (by decide)
    · exact absurd e (by decide)
    · exact absurd e (by decide)
    · exact absurd e (by decide)), Df.only_refl _ _⟩
          · intro L f' x hL hw hd
            have r4 : f' 4 = .pointer (some ⟨r, 0, none⟩) := (hd _ (List.mem_cons_self ..)).2
            have HW := Lib.hid hw
            clear hw hd
            simp only [Rg.stepZ, Rg.all, Act.put, List.setIfInBounds_toArray, List.set_cons_zero, List.set_cons_succ]
            go_simp
            exact ⟨rfl, HW.out.on' 5 (by decide) (by
    intro p hp e
    simp only [List.mem_cons, List.not_mem_nil, or_false] at hp
    rcases hp with rfl | rfl | rfl | rfl | rfl | rfl
    · exact absurd e (by decide)
    · exact absurd e (by decide)
    · exact absurd e (by decide)
    · exact absurd e (by decide)
    · exact absurd e (by decide)
    · exact absurd e (by decide)), Df.only_refl _ _⟩
          · intro L f' x hL hw hd
            have r5 : f' 5 = .pointer (some ⟨r, 0, none⟩) := (hd _ (List.mem_cons_self ..)).2
            have o16 : L 16 = false := hw.off 16 6 (by decide) hL
            have o17 : L 17 = false := hw.off 17 16 (by decide) o16
            have c0 := (HK.out.up (hw.is o17)).c0
            have HW := Lib.hid hw
            clear hw hd
            simp only [Rg.stepZ, Rg.all, Act.put, List.setIfInBounds_toArray, List.set_cons_zero, List.set_cons_succ]
            go_simp
            exact ⟨rfl, HW.out.on' 6 (by decide) (by
    intro p hp e
    simp only [List.mem_cons, List.not_mem_nil, or_false] at hp
    rcases hp with rfl | rfl | rfl | rfl | rfl | rfl
    · exact absurd e (by decide)
    · exact absurd e (by decide)
    · exact absurd e (by decide)
    · exact absurd e (by decide)
    · exact absurd e (by decide)
    · exact absurd e (by decide)), Df.only_refl _ _⟩
          · intro L f' x hL hw hd
            have HW := Lib.hid hw
            clear hw hd
            simp only [Rg.stepZ, Rg.all, Act.put, List.setIfInBounds_toArray, List.set_cons_zero, List.set_cons_succ]
            go_simp
            exact ⟨rfl, HW.out.on' 7 (by decide) (by
    intro p hp e
    simp only [List.mem_cons, List.not_mem_nil, or_false] at hp
    rcases hp with rfl | rfl | rfl | rfl | rfl | rfl
    · exact absurd e (by decide)
    · exact absurd e (by decide)
    · exact absurd e (by decide)
    · exact absurd e (by decide)
    · exact absurd e (by decide)
    · exact absurd e (by decide)), Df.only_refl _ _⟩
          · intro L f' x hL hw hd
            have r7 : f' 7 = .pointer (some ⟨r, 0, none⟩) := (hd _ (List.mem_cons_self ..)).2
            have HW := Lib.hid hw
            clear hw hd
            simp only [Rg.stepZ, Rg.all, Act.put, List.setIfInBounds_toArray, List.set_cons_zero, List.set_cons_succ]
            go_simp
            exact ⟨rfl, HW.out.on' 8 (by decide) (by
    intro p hp e
    simp only [List.mem_cons, List.not_mem_nil, or_false] at hp
    rcases hp with rfl | rfl | rfl | rfl | rfl | rfl
    · exact absurd e (by decide)
    · exact absurd e (by decide)
    · exact absurd e (by decide)
    · exact absurd e (by decide)
    · exact absurd e (by decide)
    · exact absurd e (by decide)), Df.only_refl _ _⟩
          · intro L f' x hL hw hd
            have r8 : f' 8 = .pointer (some ⟨r, 0, none⟩) := (hd _ (List.mem_cons_self ..)).2
            have HW := Lib.hid hw
            clear hw hd
            simp only [Rg.stepZ, Rg.all, Act.put, List.setIfInBounds_toArray, List.set_cons_zero, List.set_cons_succ]
            go_simp
            exact ⟨rfl, HW.out.on' 9 (by decide) (by
    intro p hp e
    simp only [List.mem_cons, List.not_mem_nil, or_false] at hp
    rcases hp with rfl | rfl | rfl | rfl | rfl | rfl
    · exact absurd e (by decide)
    · exact absurd e (by decide)
    · exact absurd e (by decide)
    · exact absurd e (by decide)
    · exact absurd e (by decide)
    · exact absurd e (by decide)), Df.only_refl _ _⟩
          · intro L f' x hL hw hd
            have r9 : f' 9 = .pointer (some ⟨r, 3, none⟩) := (hd _ (List.mem_cons_self ..)).2
            have o12 : L 12 = false := hw.off 12 10 (by decide) hL
            have o13 : L 13 = false := hw.off 13 12 (by decide) o12
            have o14 : L 14 = false := hw.off 14 13 (by decide) o13
            have o16 : L 16 = false := hw.off 16 14 (by decide) o14
            have o17 : L 17 = false := hw.off 17 16 (by decide) o16
            have c3 := (HK.out.up (hw.is o17)).c3
            have HW := Lib.hid hw
            clear hw hd
            simp only [Rg.stepZ, Rg.all, Act.put, List.setIfInBounds_toArray, List.set_cons_zero, List.set_cons_succ]
            go_simp
            exact ⟨rfl, HW.out.on' 10 (by decide) (by
    intro p hp e
    simp only [List.mem_cons, List.not_mem_nil, or_false] at hp
    rcases hp with rfl | rfl | rfl | rfl | rfl | rfl
    · exact absurd e (by decide)
    · exact absurd e (by decide)
    · exact absurd e (by decide)
    · exact absurd e (by decide)
    · exact absurd e (by decide)
    · exact absurd e (by decide)), Df.only_refl _ _⟩
          · intro L f' x hL hw hd
            have HW := Lib.hid hw
            clear hw hd
            simp only [Rg.stepZ, Rg.all, Act.put, List.setIfInBounds_toArray, List.set_cons_zero, List.set_cons_succ]
            go_simp
            exact ⟨rfl, HW.out.on' 11 (by decide) (by
    intro p hp e
    simp only [List.mem_cons, List.not_mem_nil, or_false] at hp
    rcases hp with rfl | rfl | rfl | rfl | rfl | rfl
    · exact absurd e (by decide)
    · exact absurd e (by decide)
    · exact absurd e (by decide)
    · exact absurd e (by decide)
    · exact absurd e (by decide)
    · exact absurd e (by decide)), Df.only_refl _ _⟩
          · intro L f' x hL hw hd
            have r10 : f' 10 = .slice (some p) nF2 cF := (hd _ (List.mem_cons_self ..)).2
            have g10 : L 10 = true := (hd _ (List.mem_cons_self ..)).1
            have r11 : f' 11 = .int .i64 q := (hd _ (List.mem_cons_of_mem _ (List.mem_cons_self ..))).2
            have HW := Lib.hid hw
            clear hw hd
            simp only [Rg.stepZ, Rg.all, Act.put, List.setIfInBounds_toArray, List.set_cons_zero, List.set_cons_succ]
            go_simp
            exact ⟨rfl, HW.out.on' 12 (by decide) (by
    intro p hp e
    simp only [List.mem_cons, List.not_mem_nil, or_false] at hp
    rcases hp with rfl | rfl | rfl | rfl | rfl | rfl
    · exact absurd e (by decide)
    · exact absurd e (by decide)
    · exact absurd e (by decide)
    · exact absurd e (by decide)
    · exact absurd e (by decide)
    · exact g10), Df.only_refl _ _⟩
          · intro L f' x hL hw hd
            have r12 : f' 12 = .pointer (some (p.add (q * 3))) := (hd _ (List.mem_cons_self ..)).2
            have g12 : L 12 = true := (hd _ (List.mem_cons_self ..)).1
            have HW := Lib.hid hw
            clear hw hd
            simp only [Rg.stepZ, Rg.all, Act.put, List.setIfInBounds_toArray, List.set_cons_zero, List.set_cons_succ]
            go_simp
            exact ⟨rfl, HW.out.on' 13 (by decide) (by
    intro p hp e
    simp only [List.mem_cons, List.not_mem_nil, or_false] at hp
    rcases hp with rfl | rfl | rfl | rfl | rfl | rfl
    · exact absurd e (by decide)
    · exact absurd e (by decide)
    · exact absurd e (by decide)
    · exact absurd e (by decide)
    · exact g12
    · exact absurd e (by decide)), Df.only_refl _ _⟩
          · intro L f' x hL hw hd
            have r13 : f' 13 = .pointer (some (p.add (q * 3))) := (hd _ (List.mem_cons_self ..)).2
            have g13 : L 13 = true := (hd _ (List.mem_cons_self ..)).1
            have o16 : L 16 = false := hw.off 16 14 (by decide) hL
            have o17 : L 17 = false := hw.off 17 16 (by decide) o16
            have x0 := Bs.cell_up (hw.is o17) HX0.out
            have x1 := Bs.cell_up (hw.is o17) HX1.out
            have HW := Lib.hid hw
            clear hw hd
            simp only [Rg.stepZ, Rg.all, Act.put, List.setIfInBounds_toArray, List.set_cons_zero, List.set_cons_succ]
            go_simp
            exact ⟨rfl, HW.out.on' 14 (by decide) (by
    intro p hp e
    simp only [List.mem_cons, List.not_mem_nil, or_false] at hp
    rcases hp with rfl | rfl | rfl | rfl | rfl | rfl
    · exact absurd e (by decide)
    · exact absurd e (by decide)
    · exact absurd e (by decide)
    · exact g13
    · exact absurd e (by decide)
    · exact absurd e (by decide)), Df.only_refl _ _⟩
          · intro L f' x hL hw hd
            have HW := Lib.hid hw
            clear hw hd
            simp only [Rg.stepZ, Rg.all, Act.put, List.setIfInBounds_toArray, List.set_cons_zero, List.set_cons_succ]
            go_simp
            exact ⟨rfl, HW.out.on' 15 (by decide) (by
    intro p hp e
    simp only [List.mem_cons, List.not_mem_nil, or_false] at hp
    rcases hp with rfl | rfl | rfl | rfl | rfl | rfl
    · exact absurd e (by decide)
    · exact absurd e (by decide)
    · exact absurd e (by decide)
    · exact absurd e (by decide)
    · exact absurd e (by decide)
    · exact absurd e (by decide)), Df.only_refl _ _⟩
          · intro L f' x hL hw hd
            have r6 : f' 6 = .pointer (some ⟨rm, 0, none⟩) := (hd _ (List.mem_cons_self ..)).2
            have g6 : L 6 = true := (hd _ (List.mem_cons_self ..)).1
            have r14 : f' 14 = .agg #[.slice a1 n1 c1, .slice a2 n2 c2] := (hd _ (List.mem_cons_of_mem _ (List.mem_cons_self ..))).2
            have g14 : L 14 = true := (hd _ (List.mem_cons_of_mem _ (List.mem_cons_self ..))).1
            have r15 : f' 15 = .int .u8 c := (hd _ (List.mem_cons_of_mem _ (List.mem_cons_of_mem _ (List.mem_cons_self ..)))).2
            have o17 : L 17 = false := hw.off 17 16 (by decide) hL
            have hbx := hw.is o17
            have C := Lib.hid (step_any x base rm l (HMC.out.up (Bs.below_up HK.out.bel hbx)) f0.1 (.slice a1 n1 c1) (.slice a2 n2 c2) ((HY1.out.up hbx).mono (fun _ _ => trivial)) ⟨_, _, _, rfl⟩ (by have := HF0.out.1; omega) c hc (fun k => U.heap.size ≤ k) (fun k hk => Nat.le_trans hbx.size hk))
            have O17 := Lib.hid o17
            clear o17 hbx
            have HW := Lib.hid hw
            clear hw hd
            simp only [Rg.stepZ, Rg.all, Act.put, List.setIfInBounds_toArray, List.set_cons_zero, List.set_cons_succ]
            go_simp
            refine C.out.mono ?_
            rintro e x1 ⟨os, rs, ⟨x1', x2', rfl, R1, R2, b1⟩, h4, h5⟩
            have hs : Df.sf l c f0 = (os, rs) := Df.sf_eq (fr := f0.2) h4 h5
            refine ⟨_, rfl, ⟨x1', x2', rfl, ?_, ?_⟩, (HW.out.up O17.out b1).on' 16 (by decide) (by
    intro p hp e
    simp only [List.mem_cons, List.not_mem_nil, or_false] at hp
    rcases hp with rfl | rfl | rfl | rfl | rfl | rfl
    · exact absurd e (by decide)
    · exact g14
    · exact g6
    · exact absurd e (by decide)
    · exact absurd e (by decide)
    · exact absurd e (by decide)), Df.only_below b1 _⟩
            · rw [hs]; exact R1.mono (fun k hk => HK.out.k k hk)
            · rw [hs]; exact R2.mono (fun k hk => HK.out.k k hk)
          · intro L f' x hL hw hd
            have r2 : f' 2 = .pointer (some ⟨r, 0, none⟩) := (hd _ (List.mem_cons_self ..)).2
            obtain ⟨x1, x2, r16, R1, R2⟩ : Df.FrR r b g9 (.slice (some p) nF2 cF) (Df.sf l c f0) (f' 16) x := (hd _ (List.mem_cons_of_mem _ (List.mem_cons_self ..))).2
            have g16 : L 16 = true := (hd _ (List.mem_cons_of_mem _ (List.mem_cons_self ..))).1
            have hbx := hw.is hL
            have C := Lib.hid (meetW_any w0 r b g9 rm vb l st (.slice (some p) nF2 cF) F vs nx x (HK.out.up hbx) hl hn hF (Df.sf l c f0) (Df.sf_ok l c f0) x1 x2 R1 R2)
            have HBX := Lib.hid hbx
            have HW := Lib.hid hw
            clear hw hd hbx R1 R2
            simp only [Rg.stepZ, Rg.all, Act.put, List.setIfInBounds_toArray, List.set_cons_zero, List.set_cons_succ]
            go_simp
            refine C.out.mono ?_
            rintro e y ⟨vF', vs', rfl, k1, k2, k3⟩
            exact ⟨_, rfl, rfl, HW.out.turn (by
    intro p hp e
    simp only [List.mem_cons, List.not_mem_nil, or_false] at hp
    rcases hp with rfl | rfl | rfl | rfl | rfl | rfl
    · exact g16
    · exact absurd e (by decide)
    · exact absurd e (by decide)
    · exact absurd e (by decide)
    · exact absurd e (by decide)
    · exact absurd e (by decide)) ⟨vF', vs', k1, Df.Only.trans' (Df.only_below HBX.out _) k2 (fun _ _ h => h), fun k hk => (by rcases k3 k hk with e | e; exact .inl e; exact .inr (Nat.le_trans HBX.out.size e))⟩, k2⟩
          · intro L f' x hL hw hd
            have r0 : f' 0 = .slice (some ⟨g9, 0, none⟩) wd wd := (hd _ (List.mem_cons_self ..)).2
            have r1 : f' 1 = .int .i64 k := (hd _ (List.mem_cons_of_mem _ (List.mem_cons_self ..))).2
            have HW := Lib.hid hw
            clear hw hd
            simp only [Rg.stepZ, Rg.all, Act.put, List.setIfInBounds_toArray, List.set_cons_zero, List.set_cons_succ]
            go_simp
            exact ⟨rfl, HW.out.on' 18 (by decide) (by
    intro p hp e
    simp only [List.mem_cons, List.not_mem_nil, or_false] at hp
    rcases hp with rfl | rfl | rfl | rfl | rfl | rfl
    · exact absurd e (by decide)
    · exact absurd e (by decide)
    · exact absurd e (by decide)
    · exact absurd e (by decide)
    · exact absurd e (by decide)
    · exact absurd e (by decide)), Df.only_refl _ _⟩
          · intro Lz f' x hall hw hR o ho
            have r17 : f' 17 = .int .i64 (Df.idx F (Df.sf l c f0) : Nat) := hR 17 (by decide)
            have r18 : f' 18 = .pointer (some ⟨g9, k, none⟩) := hR 18 (by decide)
            simp at ho
            subst ho
            simp only [Rg.stepZ, Rg.all, Act.put, List.setIfInBounds_toArray, List.set_cons_zero, List.set_cons_succ]
            obtain ⟨vF1, vs1, k1, k2, k3⟩ := hw.on (hall 17 (by decide))
            have hrow2 : x.rowIs g9 3 wd (Df.nv F us k) := HROW.out.of_block (k2.block g9 HROW.out.lt HNW.out)
            have cg := hrow2.cell hkw
            have zg := hrow2.frozen k
            have hnw1 : ¬ Df.Wr r b vF1 g9 := fun e => (by
              rcases e with e | e | e
              · exact HNW.out (.inl e)
              · exact HNW.out (.inr (.inl e))
              · rcases k3 g9 e.symm with e2 | e2
                · exact HNW.out (.inr (.inr e2.symm))
                · have := HROW.out.lt; omega)
            have HK1 := Lib.hid (k1.far hnw1 HG9.out k (.int .i64 (Df.idx F (Df.sf l c f0) : Nat)))
            have HNW1 := Lib.hid hnw1
            have HROW1 := Lib.hid (hrow2.set k (.int .i64 (Df.idx F (Df.sf l c f0) : Nat)))
            clear hw hR hall k1 k2 k3 hrow2 hnw1
            generalize f' 0 = t0 at *
            generalize f' 1 = t1 at *
            generalize f' 2 = t2 at *
            generalize f' 3 = t3 at *
            generalize f' 4 = t4 at *
            generalize f' 5 = t5 at *
            generalize f' 6 = t6 at *
            generalize f' 7 = t7 at *
            generalize f' 8 = t8 at *
            generalize f' 9 = t9 at *
            generalize f' 10 = t10 at *
            generalize f' 11 = t11 at *
            generalize f' 12 = t12 at *
            generalize f' 13 = t13 at *
            generalize f' 14 = t14 at *
            generalize f' 15 = t15 at *
            generalize f' 16 = t16 at *
            go_simp
            go_wp2_with fail
            go_roundw
            case rel =>
              refine ⟨k + 1, vF1, vs1, by omega, by go_num, ?_, ?_, HNW1⟩
              · have h1 := HK1.out
                rw [HST.out] at h1
                rw [HTK.out]
                exact h1
              · refine Lib.hid (HROW1.out.congr fun i hi => ?_)
                have hmF : Df.sf l c f0 ∈ Df.meet F (Df.sf l c f0) := Df.mem_meet.2 (.inr rfl)
                rw [HTK.out]
                unfold Df.nv
                by_cases e : i = k
                · subst e
                  rw [if_pos rfl, if_pos (by omega), HUKD.out, Df.idx_met]
                · rw [if_neg e]
                  by_cases e2 : i < k
                  · rw [if_pos e2, if_pos (by omega)]
                    have hiu : i < us.length := by rw [HUL.out]; omega
                    have hmem : us.getD i ([], []) ∈ F := by
                      rw [HFE.out, Df.mem_meets]
                      refine .inr ?_
                      rw [List.getD_eq_getElem?_getD, List.getElem?_eq_getElem hiu, Option.getD_some]
                      exact List.mem_take_iff_getElem.2 ⟨i, by omega, rfl⟩
                    rw [Df.idx_meet hmem]
                  · rw [if_neg e2, if_neg (by omega)]
            case measure => simp [intOf]; omega
        · have hkn : k = nB := by omega
          subst hkn
          have ht : us.take k = us := List.take_of_length_le (by rw [HUL.out]; exact Nat.le_refl _)
          rw [ht] at HK HROW hFl HPRE
          have HFS := Lib.hid (show Df.fs l (q + 1) = us.foldl Df.meet (Df.fs l q) by
            have hq2 : q < (Df.fs l q).length := by rw [← HNF.out]; exact hlt
            have h1 := Df.gone_succ (Df.nxt l) (Df.F0 l) hq2
            have e0 : (Df.fs l q)[q] = f0 := by rw [HF0E.out, List.getD_eq_getElem?_getD, List.getElem?_eq_getElem hq2]; rfl
            rw [HUS.out, ← e0]
            exact h1)
          rw [← HFS.out] at HK HROW hFl HPRE
          have HWE2 := Lib.hid (HWE.out.succ (show q < (Df.fs l q).length by have := HNF.out; omega))
          have hqq : q < (Df.fs l (q + 1)).length := by have h1 : q + 1 ≤ (Df.fs l (q + 1)).length := HWE2.out.le; omega
          have hql : nx.length < vs.length := by rw [HK.out.rw'.len, HNL.out]; exact hqq
          have HFQ := Lib.hid (show (Df.fs l (q + 1)).getD q ([], []) = f0 by
            have hq2 : q < (Df.fs l q).length := by rw [← HNF.out]; exact hlt
            obtain ⟨ys, e⟩ := HPRE.out
            rw [e, List.getD_eq_getElem?_getD, List.getElem?_append_left hq2, HF0E.out, List.getD_eq_getElem?_getD])
          have hKg : Df.K r b r vF g9 := ⟨fun e => HNW.out (.inl e), fun e => HNW.out (.inr (.inl e)), fun e => HNW.out (.inr (.inr e)), fun e => HNW.out (.inl e)⟩
          have HNR := Lib.hid (Df.nv_row (B := Df.K r b r vF) (by rw [HUL.out]; exact HROW.out) HUL.out hKg)
          have HNXR := Lib.hid (show Df.NxOk l (Df.fs l (q + 1)) (nx ++ [us.map (Df.idx (Df.fs l (q + 1)))]) by
            obtain ⟨ys, e⟩ := HPRE.out
            refine Df.NxOk.snoc (by rw [e]; exact HNX.out.pre ys) (by rw [HNL.out]; exact hqq) ?_ ?_
            · rw [HNL.out, HFQ.out, HUS.out]
            · rw [HNL.out, HFQ.out, ← HUS.out, HFS.out]
              intro y hy
              rw [Df.mem_meets]
              exact .inr hy)
          obtain ⟨aF, nF2, cF, rfl⟩ : ∃ a n c, vF = .slice a n c := by
            rcases HK.out.of.2 with ⟨e, _⟩ | ⟨g, cap, cur, e, _⟩
            · exact ⟨_, _, _, e⟩
            · exact ⟨_, _, _, e⟩
          have hn2 : nF2 = (Df.fs l (q + 1)).length := by rw [← HK.out.rw'.len]; exact (HK.out.at).1
          have hqn : q < nF2 := by rw [hn2]; exact hqq
          obtain ⟨p, rfl, x0, x1, x2, z2, gg, ep, eq3⟩ := HK.out.atp nx.length hql
          obtain ⟨vsn, hk3⟩ : ∃ vs', Df.WK w0 r b r rm vb l (Df.idx (Df.F0 l) (Df.s0 l)) ((Df.fs l (q + 1)).map Df.ft) (.slice (some p) nF2 cF) (Df.fs l (q + 1)) vs' (nx ++ [us.map (Df.idx (Df.fs l (q + 1)))]) (wr.setCell ⟨gg, nx.length * 3 + 2, none⟩ (.slice (some ⟨g9, 0, none⟩) k k)) := ⟨_, (HK.out.unex).next (g := gg) (n := nF2) (cap := cF) (by rw [ep]) hql HNR.out⟩
          rw [HNL.out] at hk3
          obtain ⟨v3, hv3⟩ : ∃ v, v = vs[nx.length].2.2 := ⟨_, rfl⟩
          rw [← hv3] at x2
          clear hv3
          rw [HNL.out] at x2 z2 eq3
          have HE3 := Lib.hid eq3
          have HK3 := Lib.hid hk3
          have c3 := HK.out.c3
          have d3 := HK3.out.c3
          have e3' : (⟨gg, q * 3 + 2, none⟩ : Addr) = ⟨(p.add (q * 3)).block, (p.add (q * 3)).off + 2, none⟩ := by rw [eq3]
          rw [e3'] at d3
          have i3 : (0 : Int) ≤ (q : Int) := by omega
          have i4 : (q : Int) < (nF2 : Int) := by omega
          have hn5 : nF2 ≤ 10000 := by rw [hn2]; exact hFl
          have i5 : IntKind.i64.wrap ((nF2 : Int) - 1) = (nF2 : Int) - 1 := IntWalk.i64_in _ (by omega)
          have HN2 := Lib.hid hn2
          have HGG := Lib.hid e3'
          clear x0 x1 ep eq3 hk3 hn2 e3' hKg
          by_cases h5 : 501 < nF2
          · have f1 : decide ((nF2 : Int) - 1 > 500) = true := decide_eq_true (by omega)
            have f2 : decide ((500 : Int) < (nF2 : Int) - 1) = true := decide_eq_true (by omega)
            go_wp2_with fail
            go_ret
            refine .inr ⟨rfl, ⟨q + 1, HWE2.out, by rw [← HN2.out]; exact h5⟩, ?_⟩
            have h9 := HK3.out.bel
            rw [HGG.out] at h9
            exact h9
          · have f1 : decide ((nF2 : Int) - 1 > 500) = false := decide_eq_false (by omega)
            have f2 : decide ((500 : Int) < (nF2 : Int) - 1) = false := decide_eq_false (by omega)
            go_wp2_with fail
            go_roundw
            case rel =>
              refine ⟨q + 1, .slice (some p) nF2 cF, vsn, _, by omega, by go_num, ?_, HWE2, Lib.hid (by rw [← HN2.out]; omega), HNXR, Lib.hid (by rw [List.length_append, List.length_singleton, HNL.out])⟩
              have h9 := HK3.out
              rw [HGG.out] at h9
              exact Lib.hid h9
            case measure => simp [intOf]; omega
end Go.Proofs.Ythapedadnbkgnaa
