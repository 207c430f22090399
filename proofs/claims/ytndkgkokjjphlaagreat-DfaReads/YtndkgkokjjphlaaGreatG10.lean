/- The program's expressions: what shaped, right and Right answer, walked. What the program's Sets answers, walked: rows of sets that grow by append. -/
import Derived.Test.YtndkgkokjjphlaaGreatG9
import Derived.Test.YtndkgkokjjphlaaGreatG4
import Derived.Laws.AppendOwnNone
namespace Go.Proofs.YtndkgkokjjphlaaGreat
set_option linter.unusedVariables false
set_option linter.unusedSimpArgs false
open Go.RowKit
def Px.shp (k n : Nat) : Bool := decide (k ≤ 4) && !(decide (k < 2) && decide (0 < n)) && !(k == 4 && n != 1)
theorem Px.wf_node (k : Nat) (f : Nat → Bool) (l : List Rx) : (Rx.node k f l).wf = (Px.shp k l.length && Rx.wfL l) := by simp [Rx.wf, Px.shp]
set_option maxRecDepth 100000 in
set_option maxHeartbeats 400000 in
theorem shaped_any (k : Nat) (f : Nat → Bool) (a : Option Addr) (n cap : Nat) (w : World) : Calls Tryz.prog 90 #[Rx.hdr k f a n cap] w fun e w' => e = .returned (.bool (Px.shp k n)) ∧ Below w.heap.size w w' := by
  have B := Bs.below1 w (.cells #[.int .u8 k, .int .u64 (Bs.word f 0), .int .u64 (Bs.word f 1), .int .u64 (Bs.word f 2), .int .u64 (Bs.word f 3), .slice a n cap] 57)
  unfold Rx.hdr
  go_enter Tryz.func90, Tryz.ntmps90
  by_cases h0 : k = 0
  · subst h0
    have HP := Lib.hid (show Px.shp 0 n = ((n : Int) == 0) by rw [Bool.eq_iff_iff]; simp [Px.shp])
    go_wp2_with fail
    go_ret
    exact ⟨by rw [HP.out]; rfl, B⟩
  by_cases h1 : k = 1
  · subst h1
    have HP := Lib.hid (show Px.shp 1 n = ((n : Int) == 0) by rw [Bool.eq_iff_iff]; simp [Px.shp])
    go_wp2_with fail
    go_ret
    exact ⟨by rw [HP.out]; rfl, B⟩
  by_cases h4 : k = 4
  · subst h4
    have HP := Lib.hid (show Px.shp 4 n = ((n : Int) == 1) by rw [Bool.eq_iff_iff]; simp [Px.shp]; omega)
    go_wp2_with fail
    go_ret
    exact ⟨by rw [HP.out]; rfl, B⟩
  have e0 : ((k : Int) == 0) = false := by simp; omega
  have e1 : ((k : Int) == 1) = false := by simp; omega
  have e4 : ((k : Int) == 4) = false := by simp; omega
  by_cases h2 : k = 2
  · have e2 : ((k : Int) == 2) = true := by simp; omega
    have HP := Lib.hid (show Px.shp k n = true by rw [h2]; simp [Px.shp])
    clear h0 h1 h4 h2
    go_wp2_with fail
    go_ret
    exact ⟨by rw [HP.out]; rfl, B⟩
  have e2 : ((k : Int) == 2) = false := by simp; omega
  have HP := Lib.hid (show Px.shp k n = ((k : Int) == 3) by
    rw [Bool.eq_iff_iff]
    simp [Px.shp]
    omega)
  clear h0 h1 h4 h2
  go_wp2_with fail
  go_ret
  exact ⟨by rw [HP.out]; rfl, B⟩
structure Px.Tal (w : World) (r : Nat) (L : Int) : Prop where
  cell : w.cell? ⟨r, 0, none⟩ = some (.int .i64 L)
  frz : w.frozen? ⟨r, 0, none⟩ = false
  only : ∀ j v, w.cell? ⟨r, j, none⟩ = some v → j < 1
theorem Px.Tal.lt {w : World} {r : Nat} {L : Int} (h : Px.Tal w r L) : r < w.heap.size := World.block_lt_of_cell? w _ h.cell
theorem Px.Tal.up {w w' : World} {r : Nat} {L : Int} (h : Px.Tal w r L) (hb : Below w.heap.size w w') : Px.Tal w' r L :=
  ⟨Bs.cell_up hb h.cell, by rw [hb.frozen h.lt]; exact h.frz, fun j v hv => h.only j v (by rw [← hb.cell (p := ⟨r, j, none⟩) h.lt]; exact hv)⟩
theorem Px.Tal.set {w : World} {r : Nat} {L : Int} (h : Px.Tal w r L) (M : Int) : Px.Tal (w.setCell ⟨r, 0, none⟩ (.int .i64 M)) r M := by
  obtain ⟨c, z, only⟩ := h
  refine ⟨by simp [go_sem, c], by simpa using z, fun j v hv => ?_⟩
  by_cases e : 0 = j
  · omega
  · rw [World.cell?_setCell_other _ _ _ _ (by simp [e])] at hv
    exact only j v hv
mutual
theorem Rx.In.tal {w w' : World} {r : Nat} (only : ∀ j v, w.cell? ⟨r, j, none⟩ = some v → j < 5) (hg : w.grownBy w' (some r)) : ∀ {x : Rx} {p : Addr}, Rx.In w x p → Rx.In w' x p
  | .node k f l, p, h => by
    simp only [Rx.In] at h ⊢
    obtain ⟨hk, a, cap, hc, hl⟩ := h
    refine ⟨hk, a, cap, hc.grown hg (fun e => ?_), Rx.InL.tal only hg hl⟩
    have h5 := hc.c5
    rw [e] at h5
    have := only _ _ h5
    omega
theorem Rx.InL.tal {w w' : World} {r : Nat} (only : ∀ j v, w.cell? ⟨r, j, none⟩ = some v → j < 5) (hg : w.grownBy w' (some r)) : ∀ {l : List Rx} {a : Option Addr} {i : Nat}, Rx.InL w l a i → Rx.InL w' l a i
  | [], _, _, _ => by simp [Rx.InL]
  | y :: t, a, i, h => by
    simp only [Rx.InL] at h ⊢
    obtain ⟨⟨p, e, hp⟩, hr⟩ := h
    exact ⟨⟨p, e, Rx.In.tal only hg hp⟩, Rx.InL.tal only hg hr⟩
end
theorem Rx.Is.tal {w w' : World} {r : Nat} (only : ∀ j v, w.cell? ⟨r, j, none⟩ = some v → j < 5) (hg : w.grownBy w' (some r)) {x : Rx} {v : Value} (h : Rx.Is w x v) : Rx.Is w' x v := by
  cases x
  obtain ⟨hk, a, cap, e, hl⟩ := h
  exact ⟨hk, a, cap, e, hl.tal only hg⟩
def Px.ok (x : Rx) (d : Nat) (L : Int) : Bool := x.wf && decide (x.depth + d ≤ 61) && decide ((x.size : Int) ≤ L)
def Px.okL (l : List Rx) (d : Nat) (L : Int) : Bool := Rx.wfL l && decide (Rx.depthL l + d ≤ 61) && decide ((Rx.sizeL l : Int) ≤ L)
theorem Px.ok_iff {x : Rx} {d : Nat} {L : Int} : Px.ok x d L = true ↔ x.wf = true ∧ x.depth + d ≤ 61 ∧ (x.size : Int) ≤ L := by simp [Px.ok, and_assoc]
theorem Px.okL_iff {l : List Rx} {d : Nat} {L : Int} : Px.okL l d L = true ↔ Rx.wfL l = true ∧ Rx.depthL l + d ≤ 61 ∧ (Rx.sizeL l : Int) ≤ L := by simp [Px.okL, and_assoc]
theorem Px.ok_node (k : Nat) (f : Nat → Bool) (l : List Rx) (d : Nat) (L : Int) (h : ¬ L - 1 < 0) (hd : ¬ 60 < d) (hs : Px.shp k l.length = true) : Px.ok (.node k f l) d L = Px.okL l (d + 1) (L - 1) := by
  rw [Bool.eq_iff_iff, Px.ok_iff, Px.okL_iff, Px.wf_node, hs]
  simp only [Rx.depth, Rx.size, Bool.true_and]
  constructor
  · rintro ⟨h1, h2, h3⟩; exact ⟨h1, by omega, by omega⟩
  · rintro ⟨h1, h2, h3⟩; exact ⟨h1, by omega, by omega⟩
theorem Px.ok_no (k : Nat) (f : Nat → Bool) (l : List Rx) (d : Nat) (L : Int) (h : L - 1 < 0 ∨ 60 < d ∨ Px.shp k l.length = false) : Px.ok (.node k f l) d L = false := by
  rw [← Bool.not_eq_true, Px.ok_iff, Px.wf_node]
  simp only [Rx.depth, Rx.size, Bool.and_eq_true]
  rintro ⟨⟨h1, _⟩, h2, h3⟩
  rcases h with h | h | h
  · omega
  · omega
  · rw [h] at h1; simp at h1
theorem Px.okL_cons (x : Rx) (r : List Rx) (d : Nat) (L : Int) : Px.okL (x :: r) d L = (Px.ok x d L && Px.okL r d (L - x.size)) := by
  rw [Bool.eq_iff_iff, Bool.and_eq_true, Px.ok_iff, Px.okL_iff, Px.okL_iff]
  simp only [Rx.wfL, Rx.depthL, Rx.sizeL, Bool.and_eq_true]
  constructor
  · rintro ⟨⟨h1, h2⟩, h3, h4⟩; exact ⟨⟨h1, by omega, by omega⟩, h2, by omega, by omega⟩
  · rintro ⟨⟨h1, h2, h3⟩, h4, h5, h6⟩; exact ⟨⟨h1, h4⟩, by omega, by omega⟩
def Px.RPost (w : World) (r : Nat) (b : Bool) (L : Int) (e : Ending) (w' : World) : Prop := e = .returned (.bool b) ∧ (∃ M, Px.Tal w' r M ∧ (b = true → M = L)) ∧ w.grownBy w' (some r)
set_option maxRecDepth 100000 in
set_option maxHeartbeats 1000000 in
theorem right_any (r : Nat) : ∀ (m : Nat) (x : Rx), x.size ≤ m → ∀ (v : Value) (d : Nat) (L : Int) (w : World), Rx.Is w x v → Px.Tal w r L → 0 ≤ L → L ≤ 400 → 1 ≤ d → d ≤ 61 → Calls Tryz.prog 60 #[.pointer (some ⟨r, 0, none⟩), v, .int .i64 d] w (Px.RPost w r (Px.ok x d L) (L - x.size)) := by
  intro m
  induction m with
  | zero => intro x h; have := x.size_pos; omega
  | succ m ih =>
    rintro ⟨k, f, l⟩ hm v d L w hx hT hL0 hL4 h1 h61
    obtain ⟨hk, a, cap, rfl, hl⟩ := hx
    simp only [Rx.size] at hm
    have IH := Lib.hid ih; clear ih
    obtain ⟨n, hn⟩ : ∃ n, l.length = n := ⟨_, rfl⟩
    have HN := Lib.hid hn
    unfold Rx.hdr
    rw [hn]
    clear hn
    have A := Bs.below1 w (.cells #[.int .u8 k, .int .u64 (Bs.word f 0), .int .u64 (Bs.word f 1), .int .u64 (Bs.word f 2), .int .u64 (Bs.word f 3), .slice a n cap] 57)
    have N := Rx.nod_new w k f a n cap
    have nr : w.heap.size ≠ r := by have := hT.lt; omega
    have HL := Lib.hid (hl.up A); clear hl
    replace hT := hT.up A
    have t0 := hT.cell
    have tz := hT.frz
    have w1 : IntKind.i64.wrap (L - 1) = L - 1 := IntWalk.i64_in _ (by omega)
    go_enter Tryz.func60, Tryz.ntmps60
    have GA := Lib.hid (Rx.grown_of r A)
    have HT := Lib.hid hT
    have HK := Lib.hid (show (Rx.node k f l).size = 1 + Rx.sizeL l from rfl)
    clear A N hT
    by_cases hz : L - 1 < 0
    · have HO := Lib.hid (Px.ok_no k f l d L (.inl hz))
      have e1 : decide (L - 1 < 0) = true := by simp only [decide_eq_true_eq]; exact hz
      generalize (Rx.node k f l).size = X at *
      generalize Px.ok (Rx.node k f l) d L = b at *
      clear hz
      go_wp2_with fail
      go_ret
      exact ⟨by rw [HO.out]; rfl, ⟨L - 1, HT.out.set _, by rw [HO.out]; simp⟩, Rx.grown_set GA.out _ _⟩
    have e1 : decide (L - 1 < 0) = false := by simp only [decide_eq_false_iff_not]; exact hz
    by_cases hd : 60 < d
    · have HO := Lib.hid (Px.ok_no k f l d L (.inr (.inl hd)))
      have e2 : decide ((60 : Int) < d) = true := by simp; omega
      generalize (Rx.node k f l).size = X at *
      generalize Px.ok (Rx.node k f l) d L = b at *
      clear hz hd
      go_wp2_with fail
      go_ret
      exact ⟨by rw [HO.out]; rfl, ⟨L - 1, HT.out.set _, by rw [HO.out]; simp⟩, Rx.grown_set GA.out _ _⟩
    have e2 : decide ((60 : Int) < d) = false := by simp; omega
    have SH := Lib.hid (fun w => shaped_any k f a n cap w)
    unfold Rx.hdr at SH
    have HO := Lib.hid (show Px.shp k n = false → Px.ok (Rx.node k f l) d L = false from fun h => Px.ok_no k f l d L (.inr (.inr (by rw [HN.out]; exact h))))
    have HY := Lib.hid (show Px.shp k n = true → Px.ok (Rx.node k f l) d L = Px.okL l (d + 1) (L - 1) from fun h => Px.ok_node k f l d L hz hd (by rw [HN.out]; exact h))
    generalize (Rx.node k f l).size = X at *
    generalize Px.ok (Rx.node k f l) d L = b at *
    have C := Rx.cell_new w k f a n cap 57
    obtain ⟨c0, c1, c2, c3, c4, c5⟩ := C
    simp only [Nat.zero_add] at c0 c1 c2 c3 c4 c5
    have HL1 := Lib.hid (HL.out.tal (fun j v h => by have := HT.out.only j v h; omega) (Rx.grown_set (Rx.grown_of r (Below.refl _ _)) 0 (.int .i64 (L - 1))))
    have HT1 := Lib.hid (HT.out.set (L - 1))
    have G1 := Lib.hid (Rx.grown_set GA.out 0 (.int .i64 (L - 1)))
    have d5 : ((w.alloc (.cells #[.int .u8 k, .int .u64 (Bs.word f 0), .int .u64 (Bs.word f 1), .int .u64 (Bs.word f 2), .int .u64 (Bs.word f 3), .slice a n cap] 57)).setCell ⟨r, 0, none⟩ (.int .i64 (L - 1))).cell? ⟨w.heap.size, 5, none⟩ = some (.slice a n cap) := Bs.cell_set c5 (Ne.symm nr)
    go_wp2_with fail
    generalize (w.alloc (.cells #[.int .u8 k, .int .u64 (Bs.word f 0), .int .u64 (Bs.word f 1), .int .u64 (Bs.word f 2), .int .u64 (Bs.word f 3), .slice a n cap] 57)).setCell ⟨r, 0, none⟩ (.int .i64 (L - 1)) = V at *
    clear c0 c1 c2 c3 c4 c5 t0 tz HL HT GA
    refine (SH.out V).mono ?_
    rintro e w2 ⟨rfl, hb⟩
    replace d5 := Bs.cell_up hb d5
    have HL := Lib.hid (HL1.out.up hb)
    have HT := Lib.hid (HT1.out.up hb)
    have G := Lib.hid (Px.grown_up G1.out hb)
    clear hb HL1 HT1 G1 SH
    cases hs : Px.shp k n
    · have HB := Lib.hid (HO.out hs)
      clear HO HY hs
      go_wp2_with fail
      go_ret
      exact ⟨by rw [HB.out]; rfl, ⟨L - 1, HT.out, by rw [HB.out]; simp⟩, G.out⟩
    have HB := Lib.hid (HY.out hs)
    clear HO HY hs
    go_wp2_with fail
    go_loopw [33] (fun i wr => ∃ q : Nat, q ≤ n ∧ i = .int .i64 q ∧ Rx.InL wr l a 0 ∧ ∃ M : Int, Px.Tal wr r M ∧ 0 ≤ M ∧ M ≤ 400 ∧ M = L - 1 - Rx.sizeL (l.take q) ∧ w.grownBy wr (some r) ∧ b = Px.okL (l.drop q) (d + 1) M) (fun i _ => n - (intOf i).toNat)
    case atStart => exact ⟨0, by omega, rfl, HL.out, L - 1, HT.out, by omega, by omega, by simp [Rx.sizeL], G.out, by rw [List.drop_zero]; exact HB.out⟩
    case round =>
      clear HL HT G HB d5
      obtain ⟨q, hq, rfl, HL, M, hT, hM0, hM4, hMs, G, hb⟩ := hrel
      have HB := Lib.hid hb
      have HM := Lib.hid hMs
      have HG := Lib.hid G
      have hq4 : q ≤ 400 := by
        have h1 := Rx.length_le (l.take q)
        rw [List.length_take, HN.out] at h1
        omega
      clear hb hMs G
      by_cases hlt : q < n
      · have hlt' : q < l.length := by rw [HN.out]; exact hlt
        have HLL := Lib.hid HL
        obtain ⟨p, rfl, hp⟩ := HL.get q hlt'
        clear HL
        rw [Nat.zero_add] at hp
        have hs : l[q].size ≤ m := by have := (Rx.part_le (List.getElem_mem hlt')).1; omega
        have HT1 := Lib.hid (show Rx.sizeL (l.take (q + 1)) = Rx.sizeL (l.take q) + l[q].size by
          rw [List.take_succ_eq_append_getElem hlt']
          generalize l.take q = t
          induction t with
          | nil => simp [Rx.sizeL]
          | cons y t ih => simp only [List.cons_append, Rx.sizeL, ih]; omega)
        have HD := Lib.hid (show Px.okL (l.drop q) (d + 1) M = (Px.ok l[q] (d + 1) M && Px.okL (l.drop (q + 1)) (d + 1) (M - l[q].size)) by rw [List.drop_eq_getElem_cons hlt', Px.okL_cons])
        have HZ := Lib.hid (show Px.ok l[q] (d + 1) M = true → (l[q].size : Int) ≤ M from fun h => (Px.ok_iff.1 h).2.2)
        have IQ := Lib.hid (fun v d L w => IH.out l[q] hs v d L w)
        generalize l[q] = y at *
        obtain ⟨k1, f1, a1, n1, cap1, ⟨x0, x1, x2, x3, x4, x5⟩, hi⟩ := hp.open
        clear hp
        have A := Bs.below1 wr (.cells #[.int .u8 k1, .int .u64 (Bs.word f1 0), .int .u64 (Bs.word f1 1), .int .u64 (Bs.word f1 2), .int .u64 (Bs.word f1 3), .slice a1 n1 cap1] 57)
        have HI := Lib.hid (hi.up A)
        unfold Rx.hdr at HI
        have HL2 := Lib.hid (HLL.out.up A)
        have HT2 := Lib.hid (hT.up A)
        have HG2 := Lib.hid (Px.grown_up HG.out A)
        clear hi HLL HG hT
        go_wp2_with fail
        have CQ := IQ.out _ (d + 1) M _ HI.out HT2.out hM0 hM4 (by omega) (by omega)
        rw [show ((d + 1 : Nat) : Int) = (d : Int) + 1 by simp] at CQ
        refine CQ.mono ?_
        rintro e w3 ⟨rfl, ⟨M', hT3, hM'⟩, g3⟩
        have HL3 := Lib.hid (HL2.out.tal (fun j v h => by have := HT2.out.only j v h; omega) g3)
        have HG3 := Lib.hid (HG2.out.trans g3)
        clear g3 CQ IQ HI HL2 HT2 HG2 x0 x1 x2 x3 x4 x5 A
        cases ho : Px.ok y (d + 1) M
        · have HB2 := Lib.hid (show b = false by rw [HB.out, HD.out, ho]; rfl)
          clear HB HD hM' HZ ho
          go_wp2_with fail
          go_ret
          exact ⟨by rw [HB2.out]; rfl, ⟨M', hT3, by rw [HB2.out]; simp⟩, HG3.out⟩
        · have HB2 := Lib.hid (show b = Px.okL (l.drop (q + 1)) (d + 1) (M - y.size) by rw [HB.out, HD.out, ho]; rfl)
          have hM2 := hM' ho
          have hM3 := HZ.out ho
          clear HB HD hM' HZ ho
          subst hM2
          have hT4 := Lib.hid hT3
          clear hT3
          go_wp2_with fail
          go_roundw
          case rel => exact ⟨q + 1, by omega, by go_num, HL3.out, _, hT4.out, by omega, by omega, by rw [HT1.out, HM.out]; omega, HG3.out, HB2.out⟩
          case measure => simp [intOf]; omega
      · have HQ := Lib.hid (show q = l.length by rw [HN.out]; omega)
        have HB2 := Lib.hid (show b = true by
          rw [HB.out, HQ.out, List.drop_length]
          rw [Px.okL_iff]
          exact ⟨rfl, by simp [Rx.depthL]; omega, by simp [Rx.sizeL]; omega⟩)
        have HM2 := Lib.hid (show M = L - X by rw [HM.out, HK.out, HQ.out, List.take_length]; omega)
        have hT4 := Lib.hid hT
        clear hT HB HL
        go_wp2_with fail
        go_ret
        exact ⟨by rw [HB2.out]; rfl, ⟨M, hT4.out, fun _ => HM2.out⟩, HG.out⟩
theorem Px.ok_may (x : Rx) : Px.ok x 1 400 = x.may 1 := by
  rw [Bool.eq_iff_iff, Px.ok_iff, Rx.may_iff]
  constructor
  · rintro ⟨h1, h2, h3⟩; exact ⟨h1, h2, by omega⟩
  · rintro ⟨h1, h2, h3⟩; exact ⟨h1, h2, by omega⟩
set_option maxRecDepth 100000 in
set_option maxHeartbeats 1000000 in
theorem Right_any (x : Rx) (v : Value) (w : World) (hx : Rx.Is w x v) : Calls Tryz.prog 28 #[v] w fun e w' => e = .returned (.bool (x.may 1)) ∧ Below w.heap.size w w' := by
  have hv : ∃ k f b n c, v = Rx.hdr k f b n c := by
    cases x
    obtain ⟨_, b, c, e, _⟩ := hx
    exact ⟨_, _, b, _, c, e⟩
  obtain ⟨k, f, b, n, c, rfl⟩ := hv
  have A := Bs.below2 w (.cells #[.int .u8 k, .int .u64 (Bs.word f 0), .int .u64 (Bs.word f 1), .int .u64 (Bs.word f 2), .int .u64 (Bs.word f 3), .slice b n c] 57) (.cells #[.int .i64 400] 127)
  have HX := Lib.hid (hx.up A)
  have T : Px.Tal ((w.alloc (.cells #[.int .u8 k, .int .u64 (Bs.word f 0), .int .u64 (Bs.word f 1), .int .u64 (Bs.word f 2), .int .u64 (Bs.word f 3), .slice b n c] 57)).alloc (.cells #[.int .i64 400] 127)) (w.heap.size + 1) 400 := by
    have hs : (w.alloc (.cells #[.int .u8 k, .int .u64 (Bs.word f 0), .int .u64 (Bs.word f 1), .int .u64 (Bs.word f 2), .int .u64 (Bs.word f 3), .slice b n c] 57)).heap.size = w.heap.size + 1 := by simp [go_sem]
    generalize w.alloc (.cells #[.int .u8 k, .int .u64 (Bs.word f 0), .int .u64 (Bs.word f 1), .int .u64 (Bs.word f 2), .int .u64 (Bs.word f 3), .slice b n c] 57) = W at *
    rw [← hs]
    refine ⟨by simp [go_sem], by simp [go_sem], fun j v hv => ?_⟩
    rw [cell_of_row _ _ j #[.int .i64 400] 127 (0, 0) (heap_alloc_new W _)] at hv
    have := (Array.getElem?_eq_some_iff.1 hv).1
    simpa using this
  have HT := Lib.hid T
  clear T hx
  unfold Rx.hdr at HX ⊢
  go_enter Tryz.func28, Tryz.ntmps28
  go_wp2_with fail
  generalize (w.alloc (.cells #[.int .u8 k, .int .u64 (Bs.word f 0), .int .u64 (Bs.word f 1), .int .u64 (Bs.word f 2), .int .u64 (Bs.word f 3), .slice b n c] 57)).alloc (.cells #[.int .i64 400] 127) = V at *
  have R := right_any (w.heap.size + 1) x.size x (Nat.le_refl _) _ 1 400 V HX.out HT.out (by omega) (by omega) (by omega) (by omega)
  rw [Px.ok_may] at R
  refine R.mono ?_
  rintro e w1 ⟨rfl, _, g⟩
  have B := Lib.hid (A.grown g A.size (fun j hj => by injection hj with hj; omega))
  clear R g A
  go_wp2_with fail
  go_ret
  exact ⟨rfl, B.out⟩
end Go.Proofs.YtndkgkokjjphlaaGreat
namespace Go.Proofs.YtndkgkokjjphlaaGreat
set_option linter.unusedVariables false
set_option linter.unusedSimpArgs false
open Go.RowKit
def Sr.cells (fs : List (Nat → Bool)) : List Value := fs.flatMap fun f => [.int .u64 (Bs.word f 0), .int .u64 (Bs.word f 1), .int .u64 (Bs.word f 2), .int .u64 (Bs.word f 3)]
theorem Sr.cells_append (a b : List (Nat → Bool)) : Sr.cells (a ++ b) = Sr.cells a ++ Sr.cells b := by simp [Sr.cells]
theorem Sr.cells_len : ∀ fs : List (Nat → Bool), (Sr.cells fs).length = fs.length * 4
  | [] => rfl
  | f :: r => by
    have := Sr.cells_len r
    simp only [Sr.cells, List.flatMap_cons, List.length_append, List.length_cons, List.length_nil] at this ⊢
    omega
theorem Sr.cells_at : ∀ (fs : List (Nat → Bool)) (k : Nat) (h : k < fs.length), (Sr.cells fs)[k * 4]? = some (.int .u64 (Bs.word fs[k] 0)) ∧ (Sr.cells fs)[k * 4 + 1]? = some (.int .u64 (Bs.word fs[k] 1)) ∧ (Sr.cells fs)[k * 4 + 2]? = some (.int .u64 (Bs.word fs[k] 2)) ∧ (Sr.cells fs)[k * 4 + 3]? = some (.int .u64 (Bs.word fs[k] 3))
  | f :: r, 0, h => ⟨rfl, rfl, rfl, rfl⟩
  | f :: r, k + 1, h => by
    have ih := Sr.cells_at r k (by simpa using h)
    have e0 : Sr.cells (f :: r) = [.int .u64 (Bs.word f 0), .int .u64 (Bs.word f 1), .int .u64 (Bs.word f 2), .int .u64 (Bs.word f 3)] ++ Sr.cells r := rfl
    rw [e0]
    have a0 : (k + 1) * 4 = 4 + k * 4 := by omega
    have a1 : (k + 1) * 4 + 1 = 4 + (k * 4 + 1) := by omega
    have a2 : (k + 1) * 4 + 2 = 4 + (k * 4 + 2) := by omega
    have a3 : (k + 1) * 4 + 3 = 4 + (k * 4 + 3) := by omega
    rw [a1, a2, a3, a0, List.getElem?_append_right (by simp), List.getElem?_append_right (by simp), List.getElem?_append_right (by simp), List.getElem?_append_right (by simp)]
    simpa using ih
def Sr.Own (base : Nat) (v : Value) (fs : List (Nat → Bool)) (w : World) : Prop := w.ownsRow base 55 4 v fs.length (Sr.cells fs) ∧ (fs = [] → v = .slice none 0 0)
theorem Sr.own_nil (base : Nat) (w : World) : Sr.Own base (.slice none 0 0) [] w := ⟨World.ownsRow_nil _ _ _ _, fun _ => rfl⟩
theorem Sr.Own.up {base : Nat} {v : Value} {fs : List (Nat → Bool)} {w w' : World} (h : Sr.Own base v fs w) (hb : Below w.heap.size w w') : Sr.Own base v fs w' := ⟨Bs.row_up h.1 hb, h.2⟩
theorem Sr.Own.slice {base : Nat} {v : Value} {fs : List (Nat → Bool)} {w : World} (h : Sr.Own base v fs w) : ∃ a cap, v = .slice a fs.length cap ∧ Bs.Row w a fs := by
  by_cases he : fs = []
  · subst he
    rw [h.2 rfl]
    exact ⟨none, 0, rfl, fun i hi => by simp at hi⟩
  · have hl : 0 < fs.length := List.length_pos_iff.2 he
    rcases h.1.2 with ⟨_, h0⟩ | ⟨g, cap, cur, rfl, _⟩
    · omega
    · refine ⟨_, cap, rfl, fun i hi => ⟨_, rfl, ?_⟩⟩
      have hc := h.1.cells (g := g) rfl
      obtain ⟨k0, k1, k2, k3⟩ := Sr.cells_at fs i hi
      have q0 := hc _ _ k0; have q1 := hc _ _ k1; have q2 := hc _ _ k2; have q3 := hc _ _ k3
      have e0 : ∀ j, (⟨g, 0, none⟩ : Addr).add j = ⟨g, j, none⟩ := fun j => by unfold Addr.add; split <;> simp_all
      rw [e0] at q0 q1 q2 q3 ⊢
      exact ⟨q0, q1, q2, q3⟩
theorem Sr.infoS : (Tryz.prog.info? 55).map (fun i => (i.zero, i.size, i.bytes)) = some (some (.agg #[.int .u64 0, .int .u64 0, .int .u64 0, .int .u64 0]), 4, 32) := by kernel_rfl
theorem Sr.append {ops : Array Oper} {rest : List Oper} {o : Oper} {a : Act} {Q : Exit → Act → World → Prop} {W : World} (hgd : o.guard = none) (s x : Operand)
    (ho : o.op = .call { callee := .builtin .append, args := #[s, x], argTypes := #[32, 32] })
    (base : Nat) (v : Value) (fs : List (Nat → Bool)) (hs : a.eval s = v) (O : Sr.Own base v fs W) (ad : Addr) (c : Nat) (gs : List (Nat → Bool)) (hx : a.eval x = .slice (some ad) gs.length c)
    (hnews : ∀ j u, (Sr.cells gs)[j]? = some u → W.cell? (ad.add j) = some u) (hg0 : gs ≠ []) (hl : fs.length + gs.length ≤ 1000000) (hbase : base ≤ W.heap.size)
    (h : ∀ v' w', Sr.Own base v' (fs ++ gs) w' → W.grownBy w' v.ownBlock → wpList Tryz.prog ops Q rest (a.put o.dst v') w') : wpList Tryz.prog ops Q (o :: rest) a W := by
  obtain ⟨iE, hiE⟩ : ∃ i, Tryz.prog.info? 55 = some i := by
    have := Sr.infoS
    cases h : Tryz.prog.info? 55 with
    | none => rw [h] at this; simp at this
    | some i => exact ⟨i, rfl⟩
  have hz := Sr.infoS
  rw [hiE] at hz
  simp at hz
  obtain ⟨hz0, hz1, hz2⟩ := hz
  refine wpList_append_own W hgd s x 32 ho base 55 iE _ 4 32 Tryz.underlying32 hiE hz0 hz1 hz2 rfl (by decide) v fs.length (Sr.cells fs) hs O.1 ad gs.length c (Sr.cells gs) hx (Sr.cells_len gs) hnews (by
    intro u hu
    simp only [Sr.cells, List.mem_flatMap] at hu
    obtain ⟨f, _, hu⟩ := hu
    simp at hu
    rcases hu with rfl | rfl | rfl | rfl <;> rfl) (by unfold maxLen; omega) (by omega) hbase ?_
  intro v' w' o1 o2 o3
  refine h _ _ ⟨by rw [List.length_append, Sr.cells_append]; exact o1, fun e => ?_⟩ o2
  have : gs = [] := by simp at e; exact e.2
  exact absurd this hg0
mutual
def Rx.sets : Rx → List (Nat → Bool)
  | .node k f l => if k = 1 then [f] else Rx.setsL l
def Rx.setsL : List Rx → List (Nat → Bool)
  | [] => []
  | x :: r => Rx.sets x ++ Rx.setsL r
end
theorem Rx.setsL_take : ∀ (l : List Rx) (q : Nat) (h : q < l.length), Rx.setsL (l.take (q + 1)) = Rx.setsL (l.take q) ++ Rx.sets l[q]
  | [], q, h => by simp at h
  | x :: r, 0, h => by simp [Rx.setsL]
  | x :: r, q + 1, h => by
    simp only [List.take_succ_cons, Rx.setsL, List.getElem_cons_succ]
    rw [Rx.setsL_take r q (by simpa using h), List.append_assoc]
mutual
theorem Rx.sets_le : ∀ x : Rx, x.sets.length ≤ x.size
  | .node k f l => by
    have := Rx.setsL_le l
    rw [Rx.sets]
    split
    · simp [Rx.size]
    · simp only [Rx.size]; omega
theorem Rx.setsL_le : ∀ l : List Rx, (Rx.setsL l).length ≤ Rx.sizeL l
  | [] => by simp [Rx.setsL]
  | x :: r => by
    have := Rx.sets_le x; have := Rx.setsL_le r
    simp only [Rx.setsL, Rx.sizeL, List.length_append]; omega
end
theorem Sr.sz (w : World) (o : Obj) : w.heap.size + 1 = (w.alloc o).heap.size := by simp
end Go.Proofs.YtndkgkokjjphlaaGreat
