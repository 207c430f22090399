/- The law BytesetsOf, walked. -/
import Derived.Test.YtaaialodlibhaaaDoorBsY
import Derived.Test.YtaaialodlibhaaaDoorBsN
import Derived.Deep.RegionHeld3
import Derived.Deep.DeepCutAuto
import Derived.Deep.CutBlock
import Derived.Laws.BytesArg
namespace Go.Proofs.YtaaialodlibhaaaDoor
set_option linter.unusedVariables false
set_option linter.unusedSimpArgs false
open Go.RowKit
theorem Bs.cell_dr2 {w : World} {a : Addr} {v : Value} (h : w.cell? a = some v) : w.drew.cell? a = some v := h
theorem Bs.below_dr2 {B : Nat} {w v : World} (h : Below B w v) : Below B w v.drew := h.drew
theorem Bs.Tab.drew {w : World} (h : Bs.Tab w) : Bs.Tab w.drew := h
theorem Bs.Tab.set {w : World} (h : Bs.Tab w) {b i : Nat} (hb : b ≠ 0) (v : Value) : Bs.Tab (w.setCell ⟨b, i, none⟩ v) := fun j hj => Bs.cell_set (h j hj) hb
/-- bytes as a text -/
def Bs.str (l : List Nat) : ByteArray := strOfNums (l.map fun (c : Nat) => (c : Int))
theorem Bs.conv {base : Nat} {v : Value} {l : List Nat} {W : World} (h : Bs.IsB base v l W) : (convert 22 9 v).run Tryd.prog W = .ok (.string (Bs.str l)) W := by
  rcases h.2 with ⟨rfl, h0⟩ | ⟨g, cap, cur, hv, _⟩
  · have hl : l = [] := List.eq_nil_of_length_eq_zero h0
    subst hl
    exact run_convert_bytes_nil (P := Tryd.prog) W 22 5 Tryd.underlying22 Tryd.underlying5 0 0 9 Tryd.underlying9
  · subst hv
    refine run_convert_bytes_arg (P := Tryd.prog) W 22 5 Tryd.underlying22 Tryd.underlying5 g 0 l.length cap (l.map fun (c : Nat) => (c : Int)) (by simp) (fun i hi => ?_) 9 Tryd.underlying9
    obtain ⟨g', cap', hv', _, _, _, hcells⟩ := Bs.row_cell h (by omega)
    simp only [Value.slice.injEq, Option.some.injEq, Addr.mk.injEq] at hv'
    obtain ⟨⟨rfl, _⟩, _⟩ := hv'
    rw [Nat.zero_add, hcells i (.int .u8 (l[i] : Nat)) (by simp [Bs.byts, hi])]
    simp [List.getD, hi]
theorem Bs.IsB.form {base : Nat} {v : Value} {l : List Nat} {W : World} (h : Bs.IsB base v l W) : ∃ a cap, v = .slice a l.length cap ∧ l.length ≤ maxLen := by
  rcases h.2 with ⟨rfl, h0⟩ | ⟨g, cap, cur, hv, _, _, hc, hm, _⟩
  · exact ⟨none, 0, by rw [h0], by rw [h0]; exact Nat.zero_le _⟩
  · exact ⟨_, cap, hv, by omega⟩
theorem Bs.cnt_all : Bs.cnt (fun _ => true) 256 = 256 := by decide +kernel
theorem len_256 (w : World) : Calls Tryd.prog 11 #[Bs.val (fun _ => true)] w fun e w' => e = .returned (.int .i64 256) ∧ Below w.heap.size w w' := by
  have h := lenB_any (fun _ => true) w
  rw [Bs.cnt_all] at h
  exact h
/-- what the loop keeps: the two sets, the third as far as it has come, the table -/
structure Bs.OInv (w : World) (s r t : Nat → Bool) (p q b : Nat) (wr : World) : Prop where
  one : Bs.Box wr p s
  two : Bs.Box wr q r
  thr : Bs.Box wr b t
  tab : Bs.Tab wr
  bel : Below w.heap.size w wr
theorem Bs.OInv.up {w wr wx : World} {s r t : Nat → Bool} {p q b : Nat} (h : Bs.OInv w s r t p q b wr) (hb : Below wr.heap.size wr wx) : Bs.OInv w s r t p q b wx :=
  ⟨h.one.up hb, h.two.up hb, h.thr.up hb, h.tab.up hb, Bs.below_up h.bel hb⟩
theorem Bs.OInv.drew {w wr : World} {s r t : Nat → Bool} {p q b : Nat} (h : Bs.OInv w s r t p q b wr) : Bs.OInv w s r t p q b wr.drew :=
  ⟨⟨h.one.cell, h.one.frz⟩, ⟨h.two.cell, h.two.frz⟩, ⟨h.thr.cell, h.thr.frz⟩, h.tab, h.bel.drew⟩
/-- four cells of a block -/
structure Bs.Four (v : World) (b : Nat) (f : Nat → Bool) : Prop where
  c0 : v.cell? ⟨b, 0, none⟩ = some (.int .u64 ↑(Bs.word f 0))
  c1 : v.cell? ⟨b, 1, none⟩ = some (.int .u64 ↑(Bs.word f 1))
  c2 : v.cell? ⟨b, 2, none⟩ = some (.int .u64 ↑(Bs.word f 2))
  c3 : v.cell? ⟨b, 3, none⟩ = some (.int .u64 ↑(Bs.word f 3))
theorem Bs.Box.four {v : World} {b : Nat} {f : Nat → Bool} (h : Bs.Box v b f) : Bs.Four v b f := ⟨h.cell 0 (by decide), h.cell 1 (by decide), h.cell 2 (by decide), h.cell 3 (by decide)⟩
/-- what holds while the great test is reckoned -/
structure Bs.S15 (w : World) (zs : List Nat) (lo hi M : Nat) (L : List Nat) (a16 : Option Addr) (cap16 b16 : Nat) (v : World) : Prop where
  s : Bs.Four v M (Bs.ofL zs)
  r : Bs.Four v (M + 1) (Bs.rng lo hi)
  t : Bs.Four v (M + 2) (Bs.ofL zs)
  cv : (convert 22 9 (.slice a16 L.length cap16)).run Tryd.prog v = .ok (.string (Bs.str L)) v
  ib : Bs.IsB b16 (.slice a16 L.length cap16) L v
  oi : Bs.OInv w (Bs.ofL zs) (Bs.rng lo hi) (Bs.ofL zs) M (M + 1) (M + 2) v
theorem Bs.S15.of {w : World} {zs : List Nat} {lo hi M : Nat} {L : List Nat} {a16 : Option Addr} {cap16 b16 : Nat} {v : World} (h : Bs.OInv w (Bs.ofL zs) (Bs.rng lo hi) (Bs.ofL zs) M (M + 1) (M + 2) v) (hI : Bs.IsB b16 (.slice a16 L.length cap16) L v) : Bs.S15 w zs lo hi M L a16 cap16 b16 v :=
  ⟨h.one.four, h.two.four, h.thr.four, Bs.conv hI, hI, h⟩
theorem Bs.IsB.drew {base : Nat} {v : Value} {l : List Nat} {w : World} (h : Bs.IsB base v l w) : Bs.IsB base v l w.drew := h
set_option maxRecDepth 100000 in
set_option maxHeartbeats 4000000 in
theorem ofLaw_any (a : Option Addr) (zs : List Nat) (cap lo hi c : Nat) (w : World) (hc : c < 256) (hT : Bs.Tab w) (hR : Bs.Byt w a zs) (hz : ∀ z ∈ zs, z < 256) (hn : zs.length ≤ maxLen) :
    Calls Tryd.prog 3 #[.slice a zs.length cap, .int .u8 lo, .int .u8 hi, .int .u8 c] w (Bs.BPost w true) := by
  unfold maxLen at hn
  have HR := Lib.hid hR; clear hR
  have HZ := Lib.hid hz; clear hz
  have HT := Lib.hid hT
  have h0w : 0 < w.heap.size := World.block_lt_of_cell? w _ (hT 0 (by decide))
  clear hT
  go_enter Tryd.func3, Tryd.ntmps3
  go_wp2_with fail
  refine (alive_any _).mono ?_
  rintro e v0 ⟨rfl, B⟩
  by_cases h30 : 300 < zs.length
  · have h30' : decide ((300 : Int) < (zs.length : Int)) = true := decide_eq_true (by omega)
    go_wp2_with fail
    go_ret
    exact ⟨rfl, B⟩
  have h30' : decide ((300 : Int) < (zs.length : Int)) = false := decide_eq_false (by omega)
  go_wp2_with fail
  clear h30'
  refine (ofB_any a zs cap _ (HR.out.up B) HZ.out (by omega)).mono ?_
  rintro e v1 ⟨rfl, hb⟩
  replace B := Bs.below_up B hb
  clear hb
  unfold Bs.val
  go_wp2_with fail
  refine (rangeB_any lo hi _).mono ?_
  rintro e v2 ⟨rfl, hb⟩
  replace B := Bs.below_up B hb
  clear hb
  unfold Bs.val
  go_wp2_with fail
  have I0 : Bs.OInv w (Bs.ofL zs) (Bs.rng lo hi) (Bs.ofL (zs.take 0)) v2.heap.size (v2.heap.size + 1) (v2.heap.size + 2) (((v2.alloc (.cells #[.int .u64 ↑(Bs.word (Bs.ofL zs) 0), .int .u64 ↑(Bs.word (Bs.ofL zs) 1), .int .u64 ↑(Bs.word (Bs.ofL zs) 2), .int .u64 ↑(Bs.word (Bs.ofL zs) 3)] 26)).alloc (.cells #[.int .u64 ↑(Bs.word (Bs.rng lo hi) 0), .int .u64 ↑(Bs.word (Bs.rng lo hi) 1), .int .u64 ↑(Bs.word (Bs.rng lo hi) 2), .int .u64 ↑(Bs.word (Bs.rng lo hi) 3)] 26)).alloc (.cells #[.int .u64 0, .int .u64 0, .int .u64 0, .int .u64 0] 26)) := by
    have e1 : (v2.alloc (.cells #[.int .u64 ↑(Bs.word (Bs.ofL zs) 0), .int .u64 ↑(Bs.word (Bs.ofL zs) 1), .int .u64 ↑(Bs.word (Bs.ofL zs) 2), .int .u64 ↑(Bs.word (Bs.ofL zs) 3)] 26)).heap.size = v2.heap.size + 1 := by simp [go_sem]
    have e2 : ((v2.alloc (.cells #[.int .u64 ↑(Bs.word (Bs.ofL zs) 0), .int .u64 ↑(Bs.word (Bs.ofL zs) 1), .int .u64 ↑(Bs.word (Bs.ofL zs) 2), .int .u64 ↑(Bs.word (Bs.ofL zs) 3)] 26)).alloc (.cells #[.int .u64 ↑(Bs.word (Bs.rng lo hi) 0), .int .u64 ↑(Bs.word (Bs.rng lo hi) 1), .int .u64 ↑(Bs.word (Bs.rng lo hi) 2), .int .u64 ↑(Bs.word (Bs.rng lo hi) 3)] 26)).heap.size = v2.heap.size + 2 := by simp [go_sem]
    refine ⟨((Bs.box_new v2 _ _).up (Bs.below1 _ _)).up (Bs.below1 _ _), ?_, ?_, HT.out.up (Bs.below_up B (Bs.below3 v2 _ _ _)), Bs.below_up B (Bs.below3 v2 _ _ _)⟩
    · have h := (Bs.box_new (v2.alloc (.cells #[.int .u64 ↑(Bs.word (Bs.ofL zs) 0), .int .u64 ↑(Bs.word (Bs.ofL zs) 1), .int .u64 ↑(Bs.word (Bs.ofL zs) 2), .int .u64 ↑(Bs.word (Bs.ofL zs) 3)] 26)) (Bs.rng lo hi) 26).up (Bs.below1 _ (.cells #[.int .u64 0, .int .u64 0, .int .u64 0, .int .u64 0] 26))
      rw [e1] at h; exact h
    · have h := Bs.box_zero ((v2.alloc (.cells #[.int .u64 ↑(Bs.word (Bs.ofL zs) 0), .int .u64 ↑(Bs.word (Bs.ofL zs) 1), .int .u64 ↑(Bs.word (Bs.ofL zs) 2), .int .u64 ↑(Bs.word (Bs.ofL zs) 3)] 26)).alloc (.cells #[.int .u64 ↑(Bs.word (Bs.rng lo hi) 0), .int .u64 ↑(Bs.word (Bs.rng lo hi) 1), .int .u64 ↑(Bs.word (Bs.rng lo hi) 2), .int .u64 ↑(Bs.word (Bs.rng lo hi) 3)] 26)) 26
      rw [e2] at h; exact h
  have hM : w.heap.size ≤ v2.heap.size := B.size
  clear B
  generalize ((v2.alloc (.cells #[.int .u64 ↑(Bs.word (Bs.ofL zs) 0), .int .u64 ↑(Bs.word (Bs.ofL zs) 1), .int .u64 ↑(Bs.word (Bs.ofL zs) 2), .int .u64 ↑(Bs.word (Bs.ofL zs) 3)] 26)).alloc (.cells #[.int .u64 ↑(Bs.word (Bs.rng lo hi) 0), .int .u64 ↑(Bs.word (Bs.rng lo hi) 1), .int .u64 ↑(Bs.word (Bs.rng lo hi) 2), .int .u64 ↑(Bs.word (Bs.rng lo hi) 3)] 26)).alloc (.cells #[.int .u64 0, .int .u64 0, .int .u64 0, .int .u64 0] 26) = W at *
  generalize v2.heap.size = M at *
  go_loopw [12, 13] (fun b i wr => ∃ k : Nat, k ≤ zs.length ∧ i = .int .i64 k ∧ b = .bool (Bs.ofL (zs.take k) c) ∧ Bs.OInv w (Bs.ofL zs) (Bs.rng lo hi) (Bs.ofL (zs.take k)) M (M + 1) (M + 2) wr) (fun _ i _ => zs.length - (intOf i).toNat)
  case atStart => exact ⟨0, Nat.zero_le _, rfl, rfl, I0⟩
  case round =>
    clear I0
    obtain ⟨k, hk, rfl, rfl, I⟩ := hrel
    by_cases hlt : k < zs.length
    · have hd1 : decide ((k : Int) < (zs.length : Int)) = true := decide_eq_true (by omega)
      have hd2 : decide (k < zs.length) = true := decide_eq_true hlt
      obtain ⟨x, rfl, hx⟩ := HR.out k hlt
      have hxb : x.block < w.heap.size := by
        have := World.block_lt_of_cell? w _ hx
        unfold Addr.add at this
        split at this <;> exact this
      have hxm : M + 2 ≠ (x.add k).block := by
        have : (x.add k).block = x.block := by unfold Addr.add; split <;> rfl
        omega
      have x0 := Bs.cell_up I.bel hx
      have HX := Lib.hid hx; clear hx
      have hzk := HZ.out zs[k] (List.getElem_mem hlt)
      have HSN := Lib.hid (Bs.ofL_snoc zs k hlt)
      have hk1 : (0 : Int) ≤ (k : Int) := by omega
      have hk2 : (k : Int) < (zs.length : Int) := by omega
      generalize zs[k] = z at *
      have n1 : M + 2 ≠ M := by omega
      have n2 : M + 2 ≠ M + 1 := by omega
      have n3 : M + 2 ≠ 0 := by omega
      have hMM : w.heap.size ≤ M + 2 := by omega
      obtain ⟨I1, I2, T, I4, B⟩ := I
      have t0 := T.cell 0 (by decide); have t1 := T.cell 1 (by decide); have t2 := T.cell 2 (by decide); have t3 := T.cell 3 (by decide)
      go_upto_region 11 with (fail)
      go_cut [] (fun wx => Bs.OInv w (Bs.ofL zs) (Bs.rng lo hi) (Bs.ofL (zs.take (k + 1))) M (M + 1) (M + 2) wx)
      case first =>
        go_region_with
          (go_at_call 7; refine (putB_any (Bs.ofL (zs.take k)) z hzk _).mono ?_; rintro r w2 ⟨rfl, hb1⟩; unfold Bs.val; have T2 := (Bs.Box.drew T).up hb1; have s0 := T2.cell 0 (by decide); have s1 := T2.cell 1 (by decide); have s2 := T2.cell 2 (by decide); have s3 := T2.cell 3 (by decide); have g0 := T2.frz 0 (by decide); have g1 := T2.frz 1 (by decide); have g2 := T2.frz 2 (by decide); have g3 := T2.frz 3 (by decide))
        all_goals
          go_wp2_with fail
          go_meet
          refine ⟨((Bs.Box.drew I1).up hb1).far4 n1 _ _ _ _, ((Bs.Box.drew I2).up hb1).far4 n2 _ _ _ _, ?_, ((((I4.drew.up hb1).set n3 _).set n3 _).set n3 _).set n3 _, Bs.set4 (Bs.below_up B.drew hb1) hMM _ _ _ _⟩
          rw [HSN.out]
          exact T2.write _
      case rest =>
        clear I1 I2 T I4 B t0 t1 t2 t3 x0
        rename_i I
        have x0 := Bs.cell_up hcut.bel HX.out
        rcases Bool.eq_false_or_eq_true (Bs.ofL (zs.take k) c) with hq | hq
        · have hnx : Bs.ofL (zs.take (k + 1)) c = true := by rw [HSN.out]; simp [hq]
          have HNX := Lib.hid hnx; clear hnx
          go_wp2_with fail
          go_roundw
          case rel => exact ⟨k + 1, by omega, by go_num, by rw [HNX.out], hcut⟩
          case measure => simp [intOf]; omega
        · have hnx : Bs.ofL (zs.take (k + 1)) c = ((z : Int) == (c : Int)) := by
            rw [HSN.out]
            simp only [hq, Bool.false_or]
            rw [Bool.eq_iff_iff]
            simp
            omega
          have HNX := Lib.hid hnx; clear hnx
          have HQ := Lib.hid hq
          go_wp2_with fail
          go_roundw
          case rel => exact ⟨k + 1, by omega, by go_num, by rw [HNX.out], hcut⟩
          case measure => simp [intOf]; omega
    · have hd1 : decide ((k : Int) < (zs.length : Int)) = false := decide_eq_false (by omega)
      have hd2 : decide (k < zs.length) = false := decide_eq_false hlt
      have e1 : zs.take k = zs := List.take_of_length_le (by omega)
      rw [e1] at I ⊢
      clear e1
      have p0 := I.one.cell 0 (by decide); have p1 := I.one.cell 1 (by decide); have p2 := I.one.cell 2 (by decide); have p3 := I.one.cell 3 (by decide)
      go_wp2_with fail
      clear p0 p1 p2 p3
      refine (firstB_any (Bs.ofL zs) _ I.tab).mono ?_
      rintro e v3 ⟨hF, hb⟩
      replace I := I.up hb
      clear hb
      obtain ⟨L, hL⟩ : ∃ L, L = Bs.lst (Bs.ofL zs) 256 := ⟨_, rfl⟩
      rw [← hL] at hF
      have hlen : Bs.cnt (Bs.ofL zs) 256 = L.length := by rw [hL, Bs.lst_len]
      have hLle : L.length ≤ 256 := by rw [hL]; exact Bs.lst_le _ _
      have hLEN := fun u => lenB_any (Bs.ofL zs) u
      rw [hlen] at hLEN
      have hB := fun u (h : Bs.OInv w (Bs.ofL zs) (Bs.rng lo hi) (Bs.ofL zs) M (M + 1) (M + 2) u) => bytesS_any (Bs.ofL zs) u h.tab
      have hRB := fun u => refBytesS_any (Bs.ofL zs) u
      rw [← hL] at hB hRB
      have HLEN := Lib.hid hLEN
      have HB := Lib.hid hB
      have HRB := Lib.hid hRB
      clear hlen hL hLEN hB hRB
      obtain ⟨fv, okv, rfl, HF⟩ : ∃ (fv : Int) (okv : Bool), e = .returned (.tuple #[.int .u8 fv, .bool okv]) ∧ Hid ((okv = true ∧ ∃ (c0 : Nat) (r : List Nat), L = c0 :: r ∧ fv = c0) ∨ (okv = false ∧ L = [] ∧ fv = 0)) := by
        rcases hF with ⟨c0, r, h1, h2, h3⟩ | ⟨h1, h2⟩
        · exact ⟨c0, true, h3, Lib.hid (.inl ⟨rfl, c0, r, h1, rfl⟩)⟩
        · exact ⟨0, false, h2, Lib.hid (.inr ⟨rfl, h1, rfl⟩)⟩
      clear hF
      have t0 := I.thr.cell 0 (by decide); have t1 := I.thr.cell 1 (by decide); have t2 := I.thr.cell 2 (by decide); have t3 := I.thr.cell 3 (by decide)
      go_wp2_with fail
      clear t0 t1 t2 t3
      refine (HRB.out _).mono ?_
      rintro e v4 ⟨v16, rfl, hI, hb⟩
      replace I := I.up hb
      clear hb
      obtain ⟨a16, cap16, rfl, hl16⟩ := hI.form
      clear hl16
      generalize v3.heap.size + 1 = b16 at *
      clear HR HZ HT HRB hM h30 hk hlt hd1 hd2 hn h0w
      go_upto_region 15 with (fail)
      have hE := fun u => Bs.eq_run (Bs.ofL zs) (Bs.ofL zs) u
      have hsm : Bs.same (Bs.ofL zs) (Bs.ofL zs) = true := Bs.same_iff.2 fun _ _ => rfl
      rw [hsm] at hE
      clear hsm
      go_cut [93] (fun y wx => y = .bool false ∧ Bs.OInv w (Bs.ofL zs) (Bs.rng lo hi) (Bs.ofL zs) M (M + 1) (M + 2) wx ∧ Bs.IsB b16 (.slice a16 L.length cap16) L wx)
      case first =>
        by_cases hlo : lo ≤ c
        · have hlo1 : decide ((lo : Int) ≤ (c : Int)) = true := decide_eq_true (by omega)
          have hlo2 : decide (lo ≤ c) = true := decide_eq_true hlo
          refine wp_region_noPanic ?_
          refine wp_region_held_drew (S := (fun v => Bs.S15 w zs lo hi M L a16 cap16 b16 v)) (by kernel_rfl) (Bs.S15.of I.drew hI.drew) (fun hH => ?_)
          refine wpAnyH_take (i := 0) (oi := { dst := some 55, op := Op.load 26 (Operand.tmp 9), type := 26, pos := "law.go:34", after := #[], guard := none }) (v := ?_) rfl (by kernel_rfl) (by kernel_rfl) (by kernel_rfl) (fun _ _ _ h => h) (Or.inl ⟨by rfl, ?_⟩) (by assumption) ?_
          rotate_left
          · intro u hu; obtain ⟨⟨_, _, _, _⟩, ⟨_, _, _, _⟩, ⟨_, _, _, _⟩, _, _, _⟩ := hu; go_simp; try with_reducible rfl
          try simp only [Act.put, List.setIfInBounds_toArray, List.set_cons_zero, List.set_cons_succ]
          refine wpAnyH_take (i := 1) (oi := { dst := some 56, op := Op.load 26 (Operand.tmp 11), type := 26, pos := "law.go:34", after := #[], guard := none }) (v := ?_) rfl (by kernel_rfl) (by kernel_rfl) (by kernel_rfl) (fun _ _ _ h => h) (Or.inl ⟨by rfl, ?_⟩) (by assumption) ?_
          rotate_left
          · intro u hu; obtain ⟨⟨_, _, _, _⟩, ⟨_, _, _, _⟩, ⟨_, _, _, _⟩, _, _, _⟩ := hu; go_simp; try with_reducible rfl
          try simp only [Act.put, List.setIfInBounds_toArray, List.set_cons_zero, List.set_cons_succ]
          refine wpAnyH_take (i := 2) (oi := { dst := some 57, op := Op.binOp BinOp.neq 26 (Operand.tmp 55) (Operand.tmp 56) 26, type := 4, pos := "law.go:34", after := #[{ on := 0, ground := Ground.data }, { on := 1, ground := Ground.data }], guard := none }) (v := ?_) rfl (by kernel_rfl) (by kernel_rfl) (by kernel_rfl) (fun _ _ _ h => h) (Or.inl ⟨by rfl, ?_⟩) (by assumption) ?_
          rotate_left
          · intro u hu; obtain ⟨⟨_, _, _, _⟩, ⟨_, _, _, _⟩, ⟨_, _, _, _⟩, _, _, _⟩ := hu; go_simp; try with_reducible rfl
          try simp only [Act.put, List.setIfInBounds_toArray, List.set_cons_zero, List.set_cons_succ]
          refine wpAnyH_take (i := 3) (oi := { dst := some 58, op := Op.move (Operand.tmp 57), type := 4, pos := "law.go:34", after := #[{ on := 2, ground := Ground.data }], guard := none }) (v := ?_) rfl (by kernel_rfl) (by kernel_rfl) (by kernel_rfl) (fun _ _ _ h => h) (Or.inl ⟨by rfl, ?_⟩) (by assumption) ?_
          rotate_left
          · intro u hu; obtain ⟨⟨_, _, _, _⟩, ⟨_, _, _, _⟩, ⟨_, _, _, _⟩, _, _, _⟩ := hu; go_simp; try with_reducible rfl
          try simp only [Act.put, List.setIfInBounds_toArray, List.set_cons_zero, List.set_cons_succ]
          refine wpAnyH_take (i := 4) (oi := { dst := some 59, op := Op.load 26 (Operand.tmp 9), type := 26, pos := "law.go:34", after := #[{ on := 3, ground := Ground.guard }], guard := some (3, false) }) (v := ?_) rfl (by kernel_rfl) (by kernel_rfl) (by kernel_rfl) (fun _ _ _ h => h) (Or.inl ⟨by rfl, ?_⟩) (by assumption) ?_
          rotate_left
          · intro u hu; obtain ⟨⟨_, _, _, _⟩, ⟨_, _, _, _⟩, ⟨_, _, _, _⟩, _, _, _⟩ := hu; go_simp; try with_reducible rfl
          try simp only [Act.put, List.setIfInBounds_toArray, List.set_cons_zero, List.set_cons_succ]
          refine wpAnyH_take (i := 7) (oi := { dst := some 62, op := Op.move (Operand.tmp 16), type := 22, pos := "law.go:34", after := #[{ on := 3, ground := Ground.guard }], guard := some (3, false) }) (v := ?_) rfl (by kernel_rfl) (by kernel_rfl) (by kernel_rfl) (fun _ _ _ h => h) (Or.inl ⟨by rfl, ?_⟩) (by assumption) ?_
          rotate_left
          · intro u hu; obtain ⟨⟨_, _, _, _⟩, ⟨_, _, _, _⟩, ⟨_, _, _, _⟩, _, _, _⟩ := hu; go_simp; try with_reducible rfl
          try simp only [Act.put, List.setIfInBounds_toArray, List.set_cons_zero, List.set_cons_succ]
          refine wpAnyH_take (i := 8) (oi := { dst := some 63, op := Op.convert 22 9 (Operand.tmp 62), type := 9, pos := "law.go:34", after := #[{ on := 7, ground := Ground.data }, { on := 3, ground := Ground.guard }], guard := some (3, false) }) (v := ?_) rfl (by kernel_rfl) (by kernel_rfl) (by kernel_rfl) (fun _ _ _ h => h) (Or.inl ⟨by rfl, ?_⟩) (by assumption) ?_
          rotate_left
          · intro u hu; obtain ⟨⟨_, _, _, _⟩, ⟨_, _, _, _⟩, ⟨_, _, _, _⟩, _, _, _⟩ := hu; go_simp; try with_reducible rfl
          try simp only [Act.put, List.setIfInBounds_toArray, List.set_cons_zero, List.set_cons_succ]
          refine wpAnyH_ready (rs := [5]) (by kernel_rfl) (by simp) ?_
          refine AllReadyH.cons (o := { dst := some 60, op := Op.call { callee := Callee.value (Operand.func 10), args := #[Operand.tmp 59], argTypes := #[26] }, type := 22, pos := "law.go:34", after := #[{ on := 4, ground := Ground.data }, { on := 3, ground := Ground.chain }, { on := 3, ground := Ground.guard }], guard := some (3, false) }) rfl (fun K hK => ?_) AllReadyH.nil
          go_simp
          refine (HB.out _ hH.oi).mono ?_
          rintro r w1 ⟨v60, rfl, hI60, hb1⟩
          obtain ⟨a60, cap60, rfl, hl60⟩ := hI60.form
          have hc60 := Bs.conv hI60
          clear hl60
          refine hK.out _ _ (Bs.S15.of (hH.oi.up hb1) (hH.ib.up hb1)) (fun hH => ?_)
          clear hK K
          try simp only [Act.put, List.setIfInBounds_toArray, List.set_cons_zero, List.set_cons_succ]
          refine wpAnyH_ready (rs := [6]) (by kernel_rfl) (by simp) ?_
          refine AllReadyH.cons (o := { dst := some 61, op := Op.convert 22 9 (Operand.tmp 60), type := 9, pos := "law.go:34", after := #[{ on := 5, ground := Ground.data }, { on := 3, ground := Ground.guard }], guard := some (3, false) }) rfl (fun K hK => ?_) AllReadyH.nil
          go_simp
          refine hK.out _ _ hH (fun hH => ?_)
          clear hc60 hI60
          clear hK K
          try simp only [Act.put, List.setIfInBounds_toArray, List.set_cons_zero, List.set_cons_succ]
          refine wpAnyH_take (i := 9) (oi := { dst := some 64, op := Op.binOp BinOp.neq 9 (Operand.tmp 61) (Operand.tmp 63) 9, type := 4, pos := "law.go:34", after := #[{ on := 6, ground := Ground.data }, { on := 8, ground := Ground.data }, { on := 3, ground := Ground.guard }], guard := some (3, false) }) (v := ?_) rfl (by kernel_rfl) (by kernel_rfl) (by kernel_rfl) (fun _ _ _ h => h) (Or.inl ⟨by rfl, ?_⟩) (by assumption) ?_
          rotate_left
          · intro u hu; obtain ⟨⟨_, _, _, _⟩, ⟨_, _, _, _⟩, ⟨_, _, _, _⟩, _, _, _⟩ := hu; go_simp; try with_reducible rfl
          try simp only [Act.put, List.setIfInBounds_toArray, List.set_cons_zero, List.set_cons_succ]
          refine wpAnyH_take (i := 10) (oi := { dst := some 65, op := Op.pick (Operand.tmp 58) (Operand.const (Value.bool true)) (Operand.tmp 64), type := 4, pos := "law.go:34", after := #[{ on := 3, ground := Ground.data }, { on := 9, ground := Ground.data }], guard := none }) (v := ?_) rfl (by kernel_rfl) (by kernel_rfl) (by kernel_rfl) (fun _ _ _ h => h) (Or.inl ⟨by rfl, ?_⟩) (by assumption) ?_
          rotate_left
          · intro u hu; obtain ⟨⟨_, _, _, _⟩, ⟨_, _, _, _⟩, ⟨_, _, _, _⟩, _, _, _⟩ := hu; go_simp; try with_reducible rfl
          try simp only [Act.put, List.setIfInBounds_toArray, List.set_cons_zero, List.set_cons_succ]
          refine wpAnyH_take (i := 11) (oi := { dst := some 66, op := Op.move (Operand.tmp 65), type := 4, pos := "law.go:34", after := #[{ on := 10, ground := Ground.data }, { on := 5, ground := Ground.chain }], guard := none }) (v := ?_) rfl (by kernel_rfl) (by kernel_rfl) (by kernel_rfl) (fun _ _ _ h => h) (Or.inl ⟨by rfl, ?_⟩) (by assumption) ?_
          rotate_left
          · intro u hu; obtain ⟨⟨_, _, _, _⟩, ⟨_, _, _, _⟩, ⟨_, _, _, _⟩, _, _, _⟩ := hu; go_simp; try with_reducible rfl
          try simp only [Act.put, List.setIfInBounds_toArray, List.set_cons_zero, List.set_cons_succ]
          refine wpAnyH_take (i := 12) (oi := { dst := some 67, op := Op.load 26 (Operand.tmp 9), type := 26, pos := "law.go:34", after := #[{ on := 11, ground := Ground.guard }], guard := some (11, false) }) (v := ?_) rfl (by kernel_rfl) (by kernel_rfl) (by kernel_rfl) (fun _ _ _ h => h) (Or.inl ⟨by rfl, ?_⟩) (by assumption) ?_
          rotate_left
          · intro u hu; obtain ⟨⟨_, _, _, _⟩, ⟨_, _, _, _⟩, ⟨_, _, _, _⟩, _, _, _⟩ := hu; go_simp; try with_reducible rfl
          try simp only [Act.put, List.setIfInBounds_toArray, List.set_cons_zero, List.set_cons_succ]
          refine wpAnyH_take (i := 14) (oi := { dst := some 69, op := Op.move (Operand.tmp 16), type := 22, pos := "law.go:34", after := #[{ on := 11, ground := Ground.guard }], guard := some (11, false) }) (v := ?_) rfl (by kernel_rfl) (by kernel_rfl) (by kernel_rfl) (fun _ _ _ h => h) (Or.inl ⟨by rfl, ?_⟩) (by assumption) ?_
          rotate_left
          · intro u hu; obtain ⟨⟨_, _, _, _⟩, ⟨_, _, _, _⟩, ⟨_, _, _, _⟩, _, _, _⟩ := hu; go_simp; try with_reducible rfl
          try simp only [Act.put, List.setIfInBounds_toArray, List.set_cons_zero, List.set_cons_succ]
          refine wpAnyH_take (i := 15) (oi := { dst := some 70, op := Op.call { callee := Callee.builtin Builtin.len, args := #[Operand.tmp 69], argTypes := #[22] }, type := 3, pos := "law.go:34", after := #[{ on := 14, ground := Ground.data }, { on := 11, ground := Ground.guard }], guard := some (11, false) }) (v := ?_) rfl (by kernel_rfl) (by kernel_rfl) (by kernel_rfl) (fun _ _ _ h => h) (Or.inl ⟨by rfl, ?_⟩) (by assumption) ?_
          rotate_left
          · intro u hu; obtain ⟨⟨_, _, _, _⟩, ⟨_, _, _, _⟩, ⟨_, _, _, _⟩, _, _, _⟩ := hu; go_simp; try with_reducible rfl
          try simp only [Act.put, List.setIfInBounds_toArray, List.set_cons_zero, List.set_cons_succ]
          refine wpAnyH_ready (rs := [13]) (by kernel_rfl) (by simp) ?_
          refine AllReadyH.cons (o := { dst := some 68, op := Op.call { callee := Callee.value (Operand.func 11), args := #[Operand.tmp 67], argTypes := #[26] }, type := 3, pos := "law.go:34", after := #[{ on := 12, ground := Ground.data }, { on := 11, ground := Ground.chain }, { on := 11, ground := Ground.guard }], guard := some (11, false) }) rfl (fun K hK => ?_) AllReadyH.nil
          go_simp
          refine (HLEN.out _).mono ?_
          rintro r w2 ⟨rfl, hb2⟩
          refine hK.out _ _ (Bs.S15.of (hH.oi.up hb2) (hH.ib.up hb2)) (fun hH => ?_)
          clear hK K
          try simp only [Act.put, List.setIfInBounds_toArray, List.set_cons_zero, List.set_cons_succ]
          refine wpAnyH_take (i := 16) (oi := { dst := some 71, op := Op.binOp BinOp.neq 3 (Operand.tmp 68) (Operand.tmp 70) 3, type := 4, pos := "law.go:34", after := #[{ on := 13, ground := Ground.data }, { on := 15, ground := Ground.data }, { on := 11, ground := Ground.guard }], guard := some (11, false) }) (v := ?_) rfl (by kernel_rfl) (by kernel_rfl) (by kernel_rfl) (fun _ _ _ h => h) (Or.inl ⟨by rfl, ?_⟩) (by assumption) ?_
          rotate_left
          · intro u hu; obtain ⟨⟨_, _, _, _⟩, ⟨_, _, _, _⟩, ⟨_, _, _, _⟩, _, _, _⟩ := hu; go_simp; try with_reducible rfl
          try simp only [Act.put, List.setIfInBounds_toArray, List.set_cons_zero, List.set_cons_succ]
          refine wpAnyH_take (i := 17) (oi := { dst := some 72, op := Op.pick (Operand.tmp 66) (Operand.const (Value.bool true)) (Operand.tmp 71), type := 4, pos := "law.go:34", after := #[{ on := 11, ground := Ground.data }, { on := 16, ground := Ground.data }], guard := none }) (v := ?_) rfl (by kernel_rfl) (by kernel_rfl) (by kernel_rfl) (fun _ _ _ h => h) (Or.inl ⟨by rfl, ?_⟩) (by assumption) ?_
          rotate_left
          · intro u hu; obtain ⟨⟨_, _, _, _⟩, ⟨_, _, _, _⟩, ⟨_, _, _, _⟩, _, _, _⟩ := hu; go_simp; try with_reducible rfl
          try simp only [Act.put, List.setIfInBounds_toArray, List.set_cons_zero, List.set_cons_succ]
          refine wpAnyH_take (i := 18) (oi := { dst := some 73, op := Op.move (Operand.tmp 72), type := 4, pos := "law.go:34", after := #[{ on := 17, ground := Ground.data }, { on := 13, ground := Ground.chain }], guard := none }) (v := ?_) rfl (by kernel_rfl) (by kernel_rfl) (by kernel_rfl) (fun _ _ _ h => h) (Or.inl ⟨by rfl, ?_⟩) (by assumption) ?_
          rotate_left
          · intro u hu; obtain ⟨⟨_, _, _, _⟩, ⟨_, _, _, _⟩, ⟨_, _, _, _⟩, _, _, _⟩ := hu; go_simp; try with_reducible rfl
          try simp only [Act.put, List.setIfInBounds_toArray, List.set_cons_zero, List.set_cons_succ]
          refine wpAnyH_take (i := 19) (oi := { dst := some 74, op := Op.load 26 (Operand.tmp 9), type := 26, pos := "law.go:34", after := #[{ on := 18, ground := Ground.guard }], guard := some (18, false) }) (v := ?_) rfl (by kernel_rfl) (by kernel_rfl) (by kernel_rfl) (fun _ _ _ h => h) (Or.inl ⟨by rfl, ?_⟩) (by assumption) ?_
          rotate_left
          · intro u hu; obtain ⟨⟨_, _, _, _⟩, ⟨_, _, _, _⟩, ⟨_, _, _, _⟩, _, _, _⟩ := hu; go_simp; try with_reducible rfl
          try simp only [Act.put, List.setIfInBounds_toArray, List.set_cons_zero, List.set_cons_succ]
          refine wpAnyH_take (i := 20) (oi := { dst := some 75, op := Op.move (Operand.tmp 3), type := 5, pos := "law.go:34", after := #[{ on := 18, ground := Ground.guard }], guard := some (18, false) }) (v := ?_) rfl (by kernel_rfl) (by kernel_rfl) (by kernel_rfl) (fun _ _ _ h => h) (Or.inl ⟨by rfl, ?_⟩) (by assumption) ?_
          rotate_left
          · intro u hu; obtain ⟨⟨_, _, _, _⟩, ⟨_, _, _, _⟩, ⟨_, _, _, _⟩, _, _, _⟩ := hu; go_simp; try with_reducible rfl
          try simp only [Act.put, List.setIfInBounds_toArray, List.set_cons_zero, List.set_cons_succ]
          refine wpAnyH_take (i := 22) (oi := { dst := some 77, op := Op.move (Operand.tmp 12), type := 4, pos := "law.go:34", after := #[{ on := 18, ground := Ground.guard }], guard := some (18, false) }) (v := ?_) rfl (by kernel_rfl) (by kernel_rfl) (by kernel_rfl) (fun _ _ _ h => h) (Or.inl ⟨by rfl, ?_⟩) (by assumption) ?_
          rotate_left
          · intro u hu; obtain ⟨⟨_, _, _, _⟩, ⟨_, _, _, _⟩, ⟨_, _, _, _⟩, _, _, _⟩ := hu; go_simp; try with_reducible rfl
          try simp only [Act.put, List.setIfInBounds_toArray, List.set_cons_zero, List.set_cons_succ]
          refine wpAnyH_ready (rs := [21]) (by kernel_rfl) (by simp) ?_
          refine AllReadyH.cons (o := { dst := some 76, op := Op.call { callee := Callee.value (Operand.func 12), args := #[Operand.tmp 74, Operand.tmp 75], argTypes := #[26, 5] }, type := 4, pos := "law.go:34", after := #[{ on := 19, ground := Ground.data }, { on := 20, ground := Ground.data }, { on := 18, ground := Ground.chain }, { on := 18, ground := Ground.guard }], guard := some (18, false) }) rfl (fun K hK => ?_) AllReadyH.nil
          go_simp
          refine (hasB_any (Bs.ofL zs) c hc _).mono ?_
          rintro r w3 ⟨rfl, hb3⟩
          refine hK.out _ _ (Bs.S15.of (hH.oi.up hb3) (hH.ib.up hb3)) (fun hH => ?_)
          clear hK K
          try simp only [Act.put, List.setIfInBounds_toArray, List.set_cons_zero, List.set_cons_succ]
          refine wpAnyH_take (i := 23) (oi := { dst := some 78, op := Op.binOp BinOp.neq 4 (Operand.tmp 76) (Operand.tmp 77) 4, type := 4, pos := "law.go:34", after := #[{ on := 21, ground := Ground.data }, { on := 22, ground := Ground.data }, { on := 18, ground := Ground.guard }], guard := some (18, false) }) (v := ?_) rfl (by kernel_rfl) (by kernel_rfl) (by kernel_rfl) (fun _ _ _ h => h) (Or.inl ⟨by rfl, ?_⟩) (by assumption) ?_
          rotate_left
          · intro u hu; obtain ⟨⟨_, _, _, _⟩, ⟨_, _, _, _⟩, ⟨_, _, _, _⟩, _, _, _⟩ := hu; go_simp; try with_reducible rfl
          try simp only [Act.put, List.setIfInBounds_toArray, List.set_cons_zero, List.set_cons_succ]
          refine wpAnyH_take (i := 24) (oi := { dst := some 79, op := Op.pick (Operand.tmp 73) (Operand.const (Value.bool true)) (Operand.tmp 78), type := 4, pos := "law.go:34", after := #[{ on := 18, ground := Ground.data }, { on := 23, ground := Ground.data }], guard := none }) (v := ?_) rfl (by kernel_rfl) (by kernel_rfl) (by kernel_rfl) (fun _ _ _ h => h) (Or.inl ⟨by rfl, ?_⟩) (by assumption) ?_
          rotate_left
          · intro u hu; obtain ⟨⟨_, _, _, _⟩, ⟨_, _, _, _⟩, ⟨_, _, _, _⟩, _, _, _⟩ := hu; go_simp; try with_reducible rfl
          try simp only [Act.put, List.setIfInBounds_toArray, List.set_cons_zero, List.set_cons_succ]
          refine wpAnyH_take (i := 25) (oi := { dst := some 80, op := Op.move (Operand.tmp 79), type := 4, pos := "law.go:34", after := #[{ on := 24, ground := Ground.data }, { on := 21, ground := Ground.chain }], guard := none }) (v := ?_) rfl (by kernel_rfl) (by kernel_rfl) (by kernel_rfl) (fun _ _ _ h => h) (Or.inl ⟨by rfl, ?_⟩) (by assumption) ?_
          rotate_left
          · intro u hu; obtain ⟨⟨_, _, _, _⟩, ⟨_, _, _, _⟩, ⟨_, _, _, _⟩, _, _, _⟩ := hu; go_simp; try with_reducible rfl
          try simp only [Act.put, List.setIfInBounds_toArray, List.set_cons_zero, List.set_cons_succ]
          refine wpAnyH_take (i := 26) (oi := { dst := some 81, op := Op.load 26 (Operand.tmp 10), type := 26, pos := "law.go:34", after := #[{ on := 25, ground := Ground.guard }], guard := some (25, false) }) (v := ?_) rfl (by kernel_rfl) (by kernel_rfl) (by kernel_rfl) (fun _ _ _ h => h) (Or.inl ⟨by rfl, ?_⟩) (by assumption) ?_
          rotate_left
          · intro u hu; obtain ⟨⟨_, _, _, _⟩, ⟨_, _, _, _⟩, ⟨_, _, _, _⟩, _, _, _⟩ := hu; go_simp; try with_reducible rfl
          try simp only [Act.put, List.setIfInBounds_toArray, List.set_cons_zero, List.set_cons_succ]
          refine wpAnyH_take (i := 27) (oi := { dst := some 82, op := Op.move (Operand.tmp 3), type := 5, pos := "law.go:34", after := #[{ on := 25, ground := Ground.guard }], guard := some (25, false) }) (v := ?_) rfl (by kernel_rfl) (by kernel_rfl) (by kernel_rfl) (fun _ _ _ h => h) (Or.inl ⟨by rfl, ?_⟩) (by assumption) ?_
          rotate_left
          · intro u hu; obtain ⟨⟨_, _, _, _⟩, ⟨_, _, _, _⟩, ⟨_, _, _, _⟩, _, _, _⟩ := hu; go_simp; try with_reducible rfl
          try simp only [Act.put, List.setIfInBounds_toArray, List.set_cons_zero, List.set_cons_succ]
          refine wpAnyH_take (i := 29) (oi := { dst := some 84, op := Op.move (Operand.tmp 3), type := 5, pos := "law.go:34", after := #[{ on := 25, ground := Ground.guard }], guard := some (25, false) }) (v := ?_) rfl (by kernel_rfl) (by kernel_rfl) (by kernel_rfl) (fun _ _ _ h => h) (Or.inl ⟨by rfl, ?_⟩) (by assumption) ?_
          rotate_left
          · intro u hu; obtain ⟨⟨_, _, _, _⟩, ⟨_, _, _, _⟩, ⟨_, _, _, _⟩, _, _, _⟩ := hu; go_simp; try with_reducible rfl
          try simp only [Act.put, List.setIfInBounds_toArray, List.set_cons_zero, List.set_cons_succ]
          refine wpAnyH_take (i := 30) (oi := { dst := some 85, op := Op.move (Operand.tmp 1), type := 5, pos := "law.go:34", after := #[{ on := 25, ground := Ground.guard }], guard := some (25, false) }) (v := ?_) rfl (by kernel_rfl) (by kernel_rfl) (by kernel_rfl) (fun _ _ _ h => h) (Or.inl ⟨by rfl, ?_⟩) (by assumption) ?_
          rotate_left
          · intro u hu; obtain ⟨⟨_, _, _, _⟩, ⟨_, _, _, _⟩, ⟨_, _, _, _⟩, _, _, _⟩ := hu; go_simp; try with_reducible rfl
          try simp only [Act.put, List.setIfInBounds_toArray, List.set_cons_zero, List.set_cons_succ]
          refine wpAnyH_take (i := 31) (oi := { dst := some 86, op := Op.binOp BinOp.geq 5 (Operand.tmp 84) (Operand.tmp 85) 5, type := 4, pos := "law.go:34", after := #[{ on := 29, ground := Ground.data }, { on := 30, ground := Ground.data }, { on := 25, ground := Ground.guard }], guard := some (25, false) }) (v := ?_) rfl (by kernel_rfl) (by kernel_rfl) (by kernel_rfl) (fun _ _ _ h => h) (Or.inl ⟨by rfl, ?_⟩) (by assumption) ?_
          rotate_left
          · intro u hu; obtain ⟨⟨_, _, _, _⟩, ⟨_, _, _, _⟩, ⟨_, _, _, _⟩, _, _, _⟩ := hu; go_simp; try with_reducible rfl
          try simp only [Act.put, List.setIfInBounds_toArray, List.set_cons_zero, List.set_cons_succ]
          refine wpAnyH_ready (rs := [28]) (by kernel_rfl) (by simp) ?_
          refine AllReadyH.cons (o := { dst := some 83, op := Op.call { callee := Callee.value (Operand.func 12), args := #[Operand.tmp 81, Operand.tmp 82], argTypes := #[26, 5] }, type := 4, pos := "law.go:34", after := #[{ on := 26, ground := Ground.data }, { on := 27, ground := Ground.data }, { on := 25, ground := Ground.chain }, { on := 25, ground := Ground.guard }], guard := some (25, false) }) rfl (fun K hK => ?_) AllReadyH.nil
          go_simp
          refine (hasB_any (Bs.rng lo hi) c hc _).mono ?_
          rintro r w4 ⟨rfl, hb4⟩
          refine hK.out _ _ (Bs.S15.of (hH.oi.up hb4) (hH.ib.up hb4)) (fun hH => ?_)
          clear hK K
          try simp only [Act.put, List.setIfInBounds_toArray, List.set_cons_zero, List.set_cons_succ]
          refine wpAnyH_take (i := 32) (oi := { dst := some 87, op := Op.move (Operand.tmp 86), type := 4, pos := "law.go:34", after := #[{ on := 31, ground := Ground.data }, { on := 28, ground := Ground.chain }, { on := 25, ground := Ground.guard }], guard := some (25, false) }) (v := ?_) rfl (by kernel_rfl) (by kernel_rfl) (by kernel_rfl) (fun _ _ _ h => h) (Or.inl ⟨by rfl, ?_⟩) (by assumption) ?_
          rotate_left
          · intro u hu; obtain ⟨⟨_, _, _, _⟩, ⟨_, _, _, _⟩, ⟨_, _, _, _⟩, _, _, _⟩ := hu; go_simp; try with_reducible rfl
          try simp only [Act.put, List.setIfInBounds_toArray, List.set_cons_zero, List.set_cons_succ]
          refine wpAnyH_take (i := 33) (oi := { dst := some 88, op := Op.move (Operand.tmp 3), type := 5, pos := "law.go:34", after := #[{ on := 32, ground := Ground.guard }], guard := some (32, true) }) (v := ?_) rfl (by kernel_rfl) (by kernel_rfl) (by kernel_rfl) (fun _ _ _ h => h) (Or.inl ⟨by rfl, ?_⟩) (by assumption) ?_
          rotate_left
          · intro u hu; obtain ⟨⟨_, _, _, _⟩, ⟨_, _, _, _⟩, ⟨_, _, _, _⟩, _, _, _⟩ := hu; go_simp; try with_reducible rfl
          try simp only [Act.put, List.setIfInBounds_toArray, List.set_cons_zero, List.set_cons_succ]
          refine wpAnyH_take (i := 34) (oi := { dst := some 89, op := Op.move (Operand.tmp 2), type := 5, pos := "law.go:34", after := #[{ on := 32, ground := Ground.guard }], guard := some (32, true) }) (v := ?_) rfl (by kernel_rfl) (by kernel_rfl) (by kernel_rfl) (fun _ _ _ h => h) (Or.inl ⟨by rfl, ?_⟩) (by assumption) ?_
          rotate_left
          · intro u hu; obtain ⟨⟨_, _, _, _⟩, ⟨_, _, _, _⟩, ⟨_, _, _, _⟩, _, _, _⟩ := hu; go_simp; try with_reducible rfl
          try simp only [Act.put, List.setIfInBounds_toArray, List.set_cons_zero, List.set_cons_succ]
          refine wpAnyH_take (i := 35) (oi := { dst := some 90, op := Op.binOp BinOp.leq 5 (Operand.tmp 88) (Operand.tmp 89) 5, type := 4, pos := "law.go:34", after := #[{ on := 33, ground := Ground.data }, { on := 34, ground := Ground.data }, { on := 32, ground := Ground.guard }], guard := some (32, true) }) (v := ?_) rfl (by kernel_rfl) (by kernel_rfl) (by kernel_rfl) (fun _ _ _ h => h) (Or.inl ⟨by rfl, ?_⟩) (by assumption) ?_
          rotate_left
          · intro u hu; obtain ⟨⟨_, _, _, _⟩, ⟨_, _, _, _⟩, ⟨_, _, _, _⟩, _, _, _⟩ := hu; go_simp; try with_reducible rfl
          try simp only [Act.put, List.setIfInBounds_toArray, List.set_cons_zero, List.set_cons_succ]
          refine wpAnyH_take (i := 36) (oi := { dst := some 91, op := Op.pick (Operand.tmp 87) (Operand.tmp 90) (Operand.const (Value.bool false)), type := 4, pos := "law.go:34", after := #[{ on := 32, ground := Ground.data }, { on := 35, ground := Ground.data }, { on := 25, ground := Ground.guard }], guard := some (25, false) }) (v := ?_) rfl (by kernel_rfl) (by kernel_rfl) (by kernel_rfl) (fun _ _ _ h => h) (Or.inl ⟨by rfl, ?_⟩) (by assumption) ?_
          rotate_left
          · intro u hu; obtain ⟨⟨_, _, _, _⟩, ⟨_, _, _, _⟩, ⟨_, _, _, _⟩, _, _, _⟩ := hu; go_simp; try with_reducible rfl
          try simp only [Act.put, List.setIfInBounds_toArray, List.set_cons_zero, List.set_cons_succ]
          refine wpAnyH_take (i := 37) (oi := { dst := some 92, op := Op.binOp BinOp.neq 4 (Operand.tmp 83) (Operand.tmp 91) 4, type := 4, pos := "law.go:34", after := #[{ on := 28, ground := Ground.data }, { on := 36, ground := Ground.data }, { on := 25, ground := Ground.guard }], guard := some (25, false) }) (v := ?_) rfl (by kernel_rfl) (by kernel_rfl) (by kernel_rfl) (fun _ _ _ h => h) (Or.inl ⟨by rfl, ?_⟩) (by assumption) ?_
          rotate_left
          · intro u hu; obtain ⟨⟨_, _, _, _⟩, ⟨_, _, _, _⟩, ⟨_, _, _, _⟩, _, _, _⟩ := hu; go_simp; try with_reducible rfl
          try simp only [Act.put, List.setIfInBounds_toArray, List.set_cons_zero, List.set_cons_succ]
          refine wpAnyH_take (i := 38) (oi := { dst := some 93, op := Op.pick (Operand.tmp 80) (Operand.const (Value.bool true)) (Operand.tmp 92), type := 4, pos := "law.go:34", after := #[{ on := 25, ground := Ground.data }, { on := 37, ground := Ground.data }], guard := none }) (v := ?_) rfl (by kernel_rfl) (by kernel_rfl) (by kernel_rfl) (fun _ _ _ h => h) (Or.inl ⟨by rfl, ?_⟩) (by assumption) ?_
          rotate_left
          · intro u hu; obtain ⟨⟨_, _, _, _⟩, ⟨_, _, _, _⟩, ⟨_, _, _, _⟩, _, _, _⟩ := hu; go_simp; try with_reducible rfl
          try simp only [Act.put, List.setIfInBounds_toArray, List.set_cons_zero, List.set_cons_succ]
          refine wpAnyH_done (by kernel_rfl) ?_ _
          have hv : (!(Bs.rng lo hi c == decide (c ≤ hi))) = false := by unfold Bs.rng; simp [hlo]
          rw [hv]
          refine NoPanic.normal ?_
          go_wp2_with fail
          go_meet
          exact ⟨rfl, hH.oi, hH.ib⟩
        · have hlo1 : decide ((lo : Int) ≤ (c : Int)) = false := decide_eq_false (by omega)
          have hlo2 : decide (lo ≤ c) = false := decide_eq_false hlo
          refine wp_region_noPanic ?_
          refine wp_region_held_drew (S := (fun v => Bs.S15 w zs lo hi M L a16 cap16 b16 v)) (by kernel_rfl) (Bs.S15.of I.drew hI.drew) (fun hH => ?_)
          refine wpAnyH_take (i := 0) (oi := { dst := some 55, op := Op.load 26 (Operand.tmp 9), type := 26, pos := "law.go:34", after := #[], guard := none }) (v := ?_) rfl (by kernel_rfl) (by kernel_rfl) (by kernel_rfl) (fun _ _ _ h => h) (Or.inl ⟨by rfl, ?_⟩) (by assumption) ?_
          rotate_left
          · intro u hu; obtain ⟨⟨_, _, _, _⟩, ⟨_, _, _, _⟩, ⟨_, _, _, _⟩, _, _, _⟩ := hu; go_simp; try with_reducible rfl
          try simp only [Act.put, List.setIfInBounds_toArray, List.set_cons_zero, List.set_cons_succ]
          refine wpAnyH_take (i := 1) (oi := { dst := some 56, op := Op.load 26 (Operand.tmp 11), type := 26, pos := "law.go:34", after := #[], guard := none }) (v := ?_) rfl (by kernel_rfl) (by kernel_rfl) (by kernel_rfl) (fun _ _ _ h => h) (Or.inl ⟨by rfl, ?_⟩) (by assumption) ?_
          rotate_left
          · intro u hu; obtain ⟨⟨_, _, _, _⟩, ⟨_, _, _, _⟩, ⟨_, _, _, _⟩, _, _, _⟩ := hu; go_simp; try with_reducible rfl
          try simp only [Act.put, List.setIfInBounds_toArray, List.set_cons_zero, List.set_cons_succ]
          refine wpAnyH_take (i := 2) (oi := { dst := some 57, op := Op.binOp BinOp.neq 26 (Operand.tmp 55) (Operand.tmp 56) 26, type := 4, pos := "law.go:34", after := #[{ on := 0, ground := Ground.data }, { on := 1, ground := Ground.data }], guard := none }) (v := ?_) rfl (by kernel_rfl) (by kernel_rfl) (by kernel_rfl) (fun _ _ _ h => h) (Or.inl ⟨by rfl, ?_⟩) (by assumption) ?_
          rotate_left
          · intro u hu; obtain ⟨⟨_, _, _, _⟩, ⟨_, _, _, _⟩, ⟨_, _, _, _⟩, _, _, _⟩ := hu; go_simp; try with_reducible rfl
          try simp only [Act.put, List.setIfInBounds_toArray, List.set_cons_zero, List.set_cons_succ]
          refine wpAnyH_take (i := 3) (oi := { dst := some 58, op := Op.move (Operand.tmp 57), type := 4, pos := "law.go:34", after := #[{ on := 2, ground := Ground.data }], guard := none }) (v := ?_) rfl (by kernel_rfl) (by kernel_rfl) (by kernel_rfl) (fun _ _ _ h => h) (Or.inl ⟨by rfl, ?_⟩) (by assumption) ?_
          rotate_left
          · intro u hu; obtain ⟨⟨_, _, _, _⟩, ⟨_, _, _, _⟩, ⟨_, _, _, _⟩, _, _, _⟩ := hu; go_simp; try with_reducible rfl
          try simp only [Act.put, List.setIfInBounds_toArray, List.set_cons_zero, List.set_cons_succ]
          refine wpAnyH_take (i := 4) (oi := { dst := some 59, op := Op.load 26 (Operand.tmp 9), type := 26, pos := "law.go:34", after := #[{ on := 3, ground := Ground.guard }], guard := some (3, false) }) (v := ?_) rfl (by kernel_rfl) (by kernel_rfl) (by kernel_rfl) (fun _ _ _ h => h) (Or.inl ⟨by rfl, ?_⟩) (by assumption) ?_
          rotate_left
          · intro u hu; obtain ⟨⟨_, _, _, _⟩, ⟨_, _, _, _⟩, ⟨_, _, _, _⟩, _, _, _⟩ := hu; go_simp; try with_reducible rfl
          try simp only [Act.put, List.setIfInBounds_toArray, List.set_cons_zero, List.set_cons_succ]
          refine wpAnyH_take (i := 7) (oi := { dst := some 62, op := Op.move (Operand.tmp 16), type := 22, pos := "law.go:34", after := #[{ on := 3, ground := Ground.guard }], guard := some (3, false) }) (v := ?_) rfl (by kernel_rfl) (by kernel_rfl) (by kernel_rfl) (fun _ _ _ h => h) (Or.inl ⟨by rfl, ?_⟩) (by assumption) ?_
          rotate_left
          · intro u hu; obtain ⟨⟨_, _, _, _⟩, ⟨_, _, _, _⟩, ⟨_, _, _, _⟩, _, _, _⟩ := hu; go_simp; try with_reducible rfl
          try simp only [Act.put, List.setIfInBounds_toArray, List.set_cons_zero, List.set_cons_succ]
          refine wpAnyH_take (i := 8) (oi := { dst := some 63, op := Op.convert 22 9 (Operand.tmp 62), type := 9, pos := "law.go:34", after := #[{ on := 7, ground := Ground.data }, { on := 3, ground := Ground.guard }], guard := some (3, false) }) (v := ?_) rfl (by kernel_rfl) (by kernel_rfl) (by kernel_rfl) (fun _ _ _ h => h) (Or.inl ⟨by rfl, ?_⟩) (by assumption) ?_
          rotate_left
          · intro u hu; obtain ⟨⟨_, _, _, _⟩, ⟨_, _, _, _⟩, ⟨_, _, _, _⟩, _, _, _⟩ := hu; go_simp; try with_reducible rfl
          try simp only [Act.put, List.setIfInBounds_toArray, List.set_cons_zero, List.set_cons_succ]
          refine wpAnyH_ready (rs := [5]) (by kernel_rfl) (by simp) ?_
          refine AllReadyH.cons (o := { dst := some 60, op := Op.call { callee := Callee.value (Operand.func 10), args := #[Operand.tmp 59], argTypes := #[26] }, type := 22, pos := "law.go:34", after := #[{ on := 4, ground := Ground.data }, { on := 3, ground := Ground.chain }, { on := 3, ground := Ground.guard }], guard := some (3, false) }) rfl (fun K hK => ?_) AllReadyH.nil
          go_simp
          refine (HB.out _ hH.oi).mono ?_
          rintro r w1 ⟨v60, rfl, hI60, hb1⟩
          obtain ⟨a60, cap60, rfl, hl60⟩ := hI60.form
          have hc60 := Bs.conv hI60
          clear hl60
          refine hK.out _ _ (Bs.S15.of (hH.oi.up hb1) (hH.ib.up hb1)) (fun hH => ?_)
          clear hK K
          try simp only [Act.put, List.setIfInBounds_toArray, List.set_cons_zero, List.set_cons_succ]
          refine wpAnyH_ready (rs := [6]) (by kernel_rfl) (by simp) ?_
          refine AllReadyH.cons (o := { dst := some 61, op := Op.convert 22 9 (Operand.tmp 60), type := 9, pos := "law.go:34", after := #[{ on := 5, ground := Ground.data }, { on := 3, ground := Ground.guard }], guard := some (3, false) }) rfl (fun K hK => ?_) AllReadyH.nil
          go_simp
          refine hK.out _ _ hH (fun hH => ?_)
          clear hc60 hI60
          clear hK K
          try simp only [Act.put, List.setIfInBounds_toArray, List.set_cons_zero, List.set_cons_succ]
          refine wpAnyH_take (i := 9) (oi := { dst := some 64, op := Op.binOp BinOp.neq 9 (Operand.tmp 61) (Operand.tmp 63) 9, type := 4, pos := "law.go:34", after := #[{ on := 6, ground := Ground.data }, { on := 8, ground := Ground.data }, { on := 3, ground := Ground.guard }], guard := some (3, false) }) (v := ?_) rfl (by kernel_rfl) (by kernel_rfl) (by kernel_rfl) (fun _ _ _ h => h) (Or.inl ⟨by rfl, ?_⟩) (by assumption) ?_
          rotate_left
          · intro u hu; obtain ⟨⟨_, _, _, _⟩, ⟨_, _, _, _⟩, ⟨_, _, _, _⟩, _, _, _⟩ := hu; go_simp; try with_reducible rfl
          try simp only [Act.put, List.setIfInBounds_toArray, List.set_cons_zero, List.set_cons_succ]
          refine wpAnyH_take (i := 10) (oi := { dst := some 65, op := Op.pick (Operand.tmp 58) (Operand.const (Value.bool true)) (Operand.tmp 64), type := 4, pos := "law.go:34", after := #[{ on := 3, ground := Ground.data }, { on := 9, ground := Ground.data }], guard := none }) (v := ?_) rfl (by kernel_rfl) (by kernel_rfl) (by kernel_rfl) (fun _ _ _ h => h) (Or.inl ⟨by rfl, ?_⟩) (by assumption) ?_
          rotate_left
          · intro u hu; obtain ⟨⟨_, _, _, _⟩, ⟨_, _, _, _⟩, ⟨_, _, _, _⟩, _, _, _⟩ := hu; go_simp; try with_reducible rfl
          try simp only [Act.put, List.setIfInBounds_toArray, List.set_cons_zero, List.set_cons_succ]
          refine wpAnyH_take (i := 11) (oi := { dst := some 66, op := Op.move (Operand.tmp 65), type := 4, pos := "law.go:34", after := #[{ on := 10, ground := Ground.data }, { on := 5, ground := Ground.chain }], guard := none }) (v := ?_) rfl (by kernel_rfl) (by kernel_rfl) (by kernel_rfl) (fun _ _ _ h => h) (Or.inl ⟨by rfl, ?_⟩) (by assumption) ?_
          rotate_left
          · intro u hu; obtain ⟨⟨_, _, _, _⟩, ⟨_, _, _, _⟩, ⟨_, _, _, _⟩, _, _, _⟩ := hu; go_simp; try with_reducible rfl
          try simp only [Act.put, List.setIfInBounds_toArray, List.set_cons_zero, List.set_cons_succ]
          refine wpAnyH_take (i := 12) (oi := { dst := some 67, op := Op.load 26 (Operand.tmp 9), type := 26, pos := "law.go:34", after := #[{ on := 11, ground := Ground.guard }], guard := some (11, false) }) (v := ?_) rfl (by kernel_rfl) (by kernel_rfl) (by kernel_rfl) (fun _ _ _ h => h) (Or.inl ⟨by rfl, ?_⟩) (by assumption) ?_
          rotate_left
          · intro u hu; obtain ⟨⟨_, _, _, _⟩, ⟨_, _, _, _⟩, ⟨_, _, _, _⟩, _, _, _⟩ := hu; go_simp; try with_reducible rfl
          try simp only [Act.put, List.setIfInBounds_toArray, List.set_cons_zero, List.set_cons_succ]
          refine wpAnyH_take (i := 14) (oi := { dst := some 69, op := Op.move (Operand.tmp 16), type := 22, pos := "law.go:34", after := #[{ on := 11, ground := Ground.guard }], guard := some (11, false) }) (v := ?_) rfl (by kernel_rfl) (by kernel_rfl) (by kernel_rfl) (fun _ _ _ h => h) (Or.inl ⟨by rfl, ?_⟩) (by assumption) ?_
          rotate_left
          · intro u hu; obtain ⟨⟨_, _, _, _⟩, ⟨_, _, _, _⟩, ⟨_, _, _, _⟩, _, _, _⟩ := hu; go_simp; try with_reducible rfl
          try simp only [Act.put, List.setIfInBounds_toArray, List.set_cons_zero, List.set_cons_succ]
          refine wpAnyH_take (i := 15) (oi := { dst := some 70, op := Op.call { callee := Callee.builtin Builtin.len, args := #[Operand.tmp 69], argTypes := #[22] }, type := 3, pos := "law.go:34", after := #[{ on := 14, ground := Ground.data }, { on := 11, ground := Ground.guard }], guard := some (11, false) }) (v := ?_) rfl (by kernel_rfl) (by kernel_rfl) (by kernel_rfl) (fun _ _ _ h => h) (Or.inl ⟨by rfl, ?_⟩) (by assumption) ?_
          rotate_left
          · intro u hu; obtain ⟨⟨_, _, _, _⟩, ⟨_, _, _, _⟩, ⟨_, _, _, _⟩, _, _, _⟩ := hu; go_simp; try with_reducible rfl
          try simp only [Act.put, List.setIfInBounds_toArray, List.set_cons_zero, List.set_cons_succ]
          refine wpAnyH_ready (rs := [13]) (by kernel_rfl) (by simp) ?_
          refine AllReadyH.cons (o := { dst := some 68, op := Op.call { callee := Callee.value (Operand.func 11), args := #[Operand.tmp 67], argTypes := #[26] }, type := 3, pos := "law.go:34", after := #[{ on := 12, ground := Ground.data }, { on := 11, ground := Ground.chain }, { on := 11, ground := Ground.guard }], guard := some (11, false) }) rfl (fun K hK => ?_) AllReadyH.nil
          go_simp
          refine (HLEN.out _).mono ?_
          rintro r w2 ⟨rfl, hb2⟩
          refine hK.out _ _ (Bs.S15.of (hH.oi.up hb2) (hH.ib.up hb2)) (fun hH => ?_)
          clear hK K
          try simp only [Act.put, List.setIfInBounds_toArray, List.set_cons_zero, List.set_cons_succ]
          refine wpAnyH_take (i := 16) (oi := { dst := some 71, op := Op.binOp BinOp.neq 3 (Operand.tmp 68) (Operand.tmp 70) 3, type := 4, pos := "law.go:34", after := #[{ on := 13, ground := Ground.data }, { on := 15, ground := Ground.data }, { on := 11, ground := Ground.guard }], guard := some (11, false) }) (v := ?_) rfl (by kernel_rfl) (by kernel_rfl) (by kernel_rfl) (fun _ _ _ h => h) (Or.inl ⟨by rfl, ?_⟩) (by assumption) ?_
          rotate_left
          · intro u hu; obtain ⟨⟨_, _, _, _⟩, ⟨_, _, _, _⟩, ⟨_, _, _, _⟩, _, _, _⟩ := hu; go_simp; try with_reducible rfl
          try simp only [Act.put, List.setIfInBounds_toArray, List.set_cons_zero, List.set_cons_succ]
          refine wpAnyH_take (i := 17) (oi := { dst := some 72, op := Op.pick (Operand.tmp 66) (Operand.const (Value.bool true)) (Operand.tmp 71), type := 4, pos := "law.go:34", after := #[{ on := 11, ground := Ground.data }, { on := 16, ground := Ground.data }], guard := none }) (v := ?_) rfl (by kernel_rfl) (by kernel_rfl) (by kernel_rfl) (fun _ _ _ h => h) (Or.inl ⟨by rfl, ?_⟩) (by assumption) ?_
          rotate_left
          · intro u hu; obtain ⟨⟨_, _, _, _⟩, ⟨_, _, _, _⟩, ⟨_, _, _, _⟩, _, _, _⟩ := hu; go_simp; try with_reducible rfl
          try simp only [Act.put, List.setIfInBounds_toArray, List.set_cons_zero, List.set_cons_succ]
          refine wpAnyH_take (i := 18) (oi := { dst := some 73, op := Op.move (Operand.tmp 72), type := 4, pos := "law.go:34", after := #[{ on := 17, ground := Ground.data }, { on := 13, ground := Ground.chain }], guard := none }) (v := ?_) rfl (by kernel_rfl) (by kernel_rfl) (by kernel_rfl) (fun _ _ _ h => h) (Or.inl ⟨by rfl, ?_⟩) (by assumption) ?_
          rotate_left
          · intro u hu; obtain ⟨⟨_, _, _, _⟩, ⟨_, _, _, _⟩, ⟨_, _, _, _⟩, _, _, _⟩ := hu; go_simp; try with_reducible rfl
          try simp only [Act.put, List.setIfInBounds_toArray, List.set_cons_zero, List.set_cons_succ]
          refine wpAnyH_take (i := 19) (oi := { dst := some 74, op := Op.load 26 (Operand.tmp 9), type := 26, pos := "law.go:34", after := #[{ on := 18, ground := Ground.guard }], guard := some (18, false) }) (v := ?_) rfl (by kernel_rfl) (by kernel_rfl) (by kernel_rfl) (fun _ _ _ h => h) (Or.inl ⟨by rfl, ?_⟩) (by assumption) ?_
          rotate_left
          · intro u hu; obtain ⟨⟨_, _, _, _⟩, ⟨_, _, _, _⟩, ⟨_, _, _, _⟩, _, _, _⟩ := hu; go_simp; try with_reducible rfl
          try simp only [Act.put, List.setIfInBounds_toArray, List.set_cons_zero, List.set_cons_succ]
          refine wpAnyH_take (i := 20) (oi := { dst := some 75, op := Op.move (Operand.tmp 3), type := 5, pos := "law.go:34", after := #[{ on := 18, ground := Ground.guard }], guard := some (18, false) }) (v := ?_) rfl (by kernel_rfl) (by kernel_rfl) (by kernel_rfl) (fun _ _ _ h => h) (Or.inl ⟨by rfl, ?_⟩) (by assumption) ?_
          rotate_left
          · intro u hu; obtain ⟨⟨_, _, _, _⟩, ⟨_, _, _, _⟩, ⟨_, _, _, _⟩, _, _, _⟩ := hu; go_simp; try with_reducible rfl
          try simp only [Act.put, List.setIfInBounds_toArray, List.set_cons_zero, List.set_cons_succ]
          refine wpAnyH_take (i := 22) (oi := { dst := some 77, op := Op.move (Operand.tmp 12), type := 4, pos := "law.go:34", after := #[{ on := 18, ground := Ground.guard }], guard := some (18, false) }) (v := ?_) rfl (by kernel_rfl) (by kernel_rfl) (by kernel_rfl) (fun _ _ _ h => h) (Or.inl ⟨by rfl, ?_⟩) (by assumption) ?_
          rotate_left
          · intro u hu; obtain ⟨⟨_, _, _, _⟩, ⟨_, _, _, _⟩, ⟨_, _, _, _⟩, _, _, _⟩ := hu; go_simp; try with_reducible rfl
          try simp only [Act.put, List.setIfInBounds_toArray, List.set_cons_zero, List.set_cons_succ]
          refine wpAnyH_ready (rs := [21]) (by kernel_rfl) (by simp) ?_
          refine AllReadyH.cons (o := { dst := some 76, op := Op.call { callee := Callee.value (Operand.func 12), args := #[Operand.tmp 74, Operand.tmp 75], argTypes := #[26, 5] }, type := 4, pos := "law.go:34", after := #[{ on := 19, ground := Ground.data }, { on := 20, ground := Ground.data }, { on := 18, ground := Ground.chain }, { on := 18, ground := Ground.guard }], guard := some (18, false) }) rfl (fun K hK => ?_) AllReadyH.nil
          go_simp
          refine (hasB_any (Bs.ofL zs) c hc _).mono ?_
          rintro r w3 ⟨rfl, hb3⟩
          refine hK.out _ _ (Bs.S15.of (hH.oi.up hb3) (hH.ib.up hb3)) (fun hH => ?_)
          clear hK K
          try simp only [Act.put, List.setIfInBounds_toArray, List.set_cons_zero, List.set_cons_succ]
          refine wpAnyH_take (i := 23) (oi := { dst := some 78, op := Op.binOp BinOp.neq 4 (Operand.tmp 76) (Operand.tmp 77) 4, type := 4, pos := "law.go:34", after := #[{ on := 21, ground := Ground.data }, { on := 22, ground := Ground.data }, { on := 18, ground := Ground.guard }], guard := some (18, false) }) (v := ?_) rfl (by kernel_rfl) (by kernel_rfl) (by kernel_rfl) (fun _ _ _ h => h) (Or.inl ⟨by rfl, ?_⟩) (by assumption) ?_
          rotate_left
          · intro u hu; obtain ⟨⟨_, _, _, _⟩, ⟨_, _, _, _⟩, ⟨_, _, _, _⟩, _, _, _⟩ := hu; go_simp; try with_reducible rfl
          try simp only [Act.put, List.setIfInBounds_toArray, List.set_cons_zero, List.set_cons_succ]
          refine wpAnyH_take (i := 24) (oi := { dst := some 79, op := Op.pick (Operand.tmp 73) (Operand.const (Value.bool true)) (Operand.tmp 78), type := 4, pos := "law.go:34", after := #[{ on := 18, ground := Ground.data }, { on := 23, ground := Ground.data }], guard := none }) (v := ?_) rfl (by kernel_rfl) (by kernel_rfl) (by kernel_rfl) (fun _ _ _ h => h) (Or.inl ⟨by rfl, ?_⟩) (by assumption) ?_
          rotate_left
          · intro u hu; obtain ⟨⟨_, _, _, _⟩, ⟨_, _, _, _⟩, ⟨_, _, _, _⟩, _, _, _⟩ := hu; go_simp; try with_reducible rfl
          try simp only [Act.put, List.setIfInBounds_toArray, List.set_cons_zero, List.set_cons_succ]
          refine wpAnyH_take (i := 25) (oi := { dst := some 80, op := Op.move (Operand.tmp 79), type := 4, pos := "law.go:34", after := #[{ on := 24, ground := Ground.data }, { on := 21, ground := Ground.chain }], guard := none }) (v := ?_) rfl (by kernel_rfl) (by kernel_rfl) (by kernel_rfl) (fun _ _ _ h => h) (Or.inl ⟨by rfl, ?_⟩) (by assumption) ?_
          rotate_left
          · intro u hu; obtain ⟨⟨_, _, _, _⟩, ⟨_, _, _, _⟩, ⟨_, _, _, _⟩, _, _, _⟩ := hu; go_simp; try with_reducible rfl
          try simp only [Act.put, List.setIfInBounds_toArray, List.set_cons_zero, List.set_cons_succ]
          refine wpAnyH_take (i := 26) (oi := { dst := some 81, op := Op.load 26 (Operand.tmp 10), type := 26, pos := "law.go:34", after := #[{ on := 25, ground := Ground.guard }], guard := some (25, false) }) (v := ?_) rfl (by kernel_rfl) (by kernel_rfl) (by kernel_rfl) (fun _ _ _ h => h) (Or.inl ⟨by rfl, ?_⟩) (by assumption) ?_
          rotate_left
          · intro u hu; obtain ⟨⟨_, _, _, _⟩, ⟨_, _, _, _⟩, ⟨_, _, _, _⟩, _, _, _⟩ := hu; go_simp; try with_reducible rfl
          try simp only [Act.put, List.setIfInBounds_toArray, List.set_cons_zero, List.set_cons_succ]
          refine wpAnyH_take (i := 27) (oi := { dst := some 82, op := Op.move (Operand.tmp 3), type := 5, pos := "law.go:34", after := #[{ on := 25, ground := Ground.guard }], guard := some (25, false) }) (v := ?_) rfl (by kernel_rfl) (by kernel_rfl) (by kernel_rfl) (fun _ _ _ h => h) (Or.inl ⟨by rfl, ?_⟩) (by assumption) ?_
          rotate_left
          · intro u hu; obtain ⟨⟨_, _, _, _⟩, ⟨_, _, _, _⟩, ⟨_, _, _, _⟩, _, _, _⟩ := hu; go_simp; try with_reducible rfl
          try simp only [Act.put, List.setIfInBounds_toArray, List.set_cons_zero, List.set_cons_succ]
          refine wpAnyH_take (i := 29) (oi := { dst := some 84, op := Op.move (Operand.tmp 3), type := 5, pos := "law.go:34", after := #[{ on := 25, ground := Ground.guard }], guard := some (25, false) }) (v := ?_) rfl (by kernel_rfl) (by kernel_rfl) (by kernel_rfl) (fun _ _ _ h => h) (Or.inl ⟨by rfl, ?_⟩) (by assumption) ?_
          rotate_left
          · intro u hu; obtain ⟨⟨_, _, _, _⟩, ⟨_, _, _, _⟩, ⟨_, _, _, _⟩, _, _, _⟩ := hu; go_simp; try with_reducible rfl
          try simp only [Act.put, List.setIfInBounds_toArray, List.set_cons_zero, List.set_cons_succ]
          refine wpAnyH_take (i := 30) (oi := { dst := some 85, op := Op.move (Operand.tmp 1), type := 5, pos := "law.go:34", after := #[{ on := 25, ground := Ground.guard }], guard := some (25, false) }) (v := ?_) rfl (by kernel_rfl) (by kernel_rfl) (by kernel_rfl) (fun _ _ _ h => h) (Or.inl ⟨by rfl, ?_⟩) (by assumption) ?_
          rotate_left
          · intro u hu; obtain ⟨⟨_, _, _, _⟩, ⟨_, _, _, _⟩, ⟨_, _, _, _⟩, _, _, _⟩ := hu; go_simp; try with_reducible rfl
          try simp only [Act.put, List.setIfInBounds_toArray, List.set_cons_zero, List.set_cons_succ]
          refine wpAnyH_take (i := 31) (oi := { dst := some 86, op := Op.binOp BinOp.geq 5 (Operand.tmp 84) (Operand.tmp 85) 5, type := 4, pos := "law.go:34", after := #[{ on := 29, ground := Ground.data }, { on := 30, ground := Ground.data }, { on := 25, ground := Ground.guard }], guard := some (25, false) }) (v := ?_) rfl (by kernel_rfl) (by kernel_rfl) (by kernel_rfl) (fun _ _ _ h => h) (Or.inl ⟨by rfl, ?_⟩) (by assumption) ?_
          rotate_left
          · intro u hu; obtain ⟨⟨_, _, _, _⟩, ⟨_, _, _, _⟩, ⟨_, _, _, _⟩, _, _, _⟩ := hu; go_simp; try with_reducible rfl
          try simp only [Act.put, List.setIfInBounds_toArray, List.set_cons_zero, List.set_cons_succ]
          refine wpAnyH_ready (rs := [28]) (by kernel_rfl) (by simp) ?_
          refine AllReadyH.cons (o := { dst := some 83, op := Op.call { callee := Callee.value (Operand.func 12), args := #[Operand.tmp 81, Operand.tmp 82], argTypes := #[26, 5] }, type := 4, pos := "law.go:34", after := #[{ on := 26, ground := Ground.data }, { on := 27, ground := Ground.data }, { on := 25, ground := Ground.chain }, { on := 25, ground := Ground.guard }], guard := some (25, false) }) rfl (fun K hK => ?_) AllReadyH.nil
          go_simp
          refine (hasB_any (Bs.rng lo hi) c hc _).mono ?_
          rintro r w4 ⟨rfl, hb4⟩
          refine hK.out _ _ (Bs.S15.of (hH.oi.up hb4) (hH.ib.up hb4)) (fun hH => ?_)
          clear hK K
          try simp only [Act.put, List.setIfInBounds_toArray, List.set_cons_zero, List.set_cons_succ]
          refine wpAnyH_take (i := 32) (oi := { dst := some 87, op := Op.move (Operand.tmp 86), type := 4, pos := "law.go:34", after := #[{ on := 31, ground := Ground.data }, { on := 28, ground := Ground.chain }, { on := 25, ground := Ground.guard }], guard := some (25, false) }) (v := ?_) rfl (by kernel_rfl) (by kernel_rfl) (by kernel_rfl) (fun _ _ _ h => h) (Or.inl ⟨by rfl, ?_⟩) (by assumption) ?_
          rotate_left
          · intro u hu; obtain ⟨⟨_, _, _, _⟩, ⟨_, _, _, _⟩, ⟨_, _, _, _⟩, _, _, _⟩ := hu; go_simp; try with_reducible rfl
          try simp only [Act.put, List.setIfInBounds_toArray, List.set_cons_zero, List.set_cons_succ]
          refine wpAnyH_take (i := 33) (oi := { dst := some 88, op := Op.move (Operand.tmp 3), type := 5, pos := "law.go:34", after := #[{ on := 32, ground := Ground.guard }], guard := some (32, true) }) (v := undef) rfl (by kernel_rfl) (by kernel_rfl) (by kernel_rfl) (fun _ _ _ h => h) (Or.inr ⟨by rfl, rfl⟩) (by assumption) ?_
          try simp only [Act.put, List.setIfInBounds_toArray, List.set_cons_zero, List.set_cons_succ]
          refine wpAnyH_take (i := 34) (oi := { dst := some 89, op := Op.move (Operand.tmp 2), type := 5, pos := "law.go:34", after := #[{ on := 32, ground := Ground.guard }], guard := some (32, true) }) (v := undef) rfl (by kernel_rfl) (by kernel_rfl) (by kernel_rfl) (fun _ _ _ h => h) (Or.inr ⟨by rfl, rfl⟩) (by assumption) ?_
          try simp only [Act.put, List.setIfInBounds_toArray, List.set_cons_zero, List.set_cons_succ]
          refine wpAnyH_take (i := 35) (oi := { dst := some 90, op := Op.binOp BinOp.leq 5 (Operand.tmp 88) (Operand.tmp 89) 5, type := 4, pos := "law.go:34", after := #[{ on := 33, ground := Ground.data }, { on := 34, ground := Ground.data }, { on := 32, ground := Ground.guard }], guard := some (32, true) }) (v := undef) rfl (by kernel_rfl) (by kernel_rfl) (by kernel_rfl) (fun _ _ _ h => h) (Or.inr ⟨by rfl, rfl⟩) (by assumption) ?_
          try simp only [Act.put, List.setIfInBounds_toArray, List.set_cons_zero, List.set_cons_succ]
          refine wpAnyH_take (i := 36) (oi := { dst := some 91, op := Op.pick (Operand.tmp 87) (Operand.tmp 90) (Operand.const (Value.bool false)), type := 4, pos := "law.go:34", after := #[{ on := 32, ground := Ground.data }, { on := 35, ground := Ground.data }, { on := 25, ground := Ground.guard }], guard := some (25, false) }) (v := ?_) rfl (by kernel_rfl) (by kernel_rfl) (by kernel_rfl) (fun _ _ _ h => h) (Or.inl ⟨by rfl, ?_⟩) (by assumption) ?_
          rotate_left
          · intro u hu; obtain ⟨⟨_, _, _, _⟩, ⟨_, _, _, _⟩, ⟨_, _, _, _⟩, _, _, _⟩ := hu; go_simp; try with_reducible rfl
          try simp only [Act.put, List.setIfInBounds_toArray, List.set_cons_zero, List.set_cons_succ]
          refine wpAnyH_take (i := 37) (oi := { dst := some 92, op := Op.binOp BinOp.neq 4 (Operand.tmp 83) (Operand.tmp 91) 4, type := 4, pos := "law.go:34", after := #[{ on := 28, ground := Ground.data }, { on := 36, ground := Ground.data }, { on := 25, ground := Ground.guard }], guard := some (25, false) }) (v := ?_) rfl (by kernel_rfl) (by kernel_rfl) (by kernel_rfl) (fun _ _ _ h => h) (Or.inl ⟨by rfl, ?_⟩) (by assumption) ?_
          rotate_left
          · intro u hu; obtain ⟨⟨_, _, _, _⟩, ⟨_, _, _, _⟩, ⟨_, _, _, _⟩, _, _, _⟩ := hu; go_simp; try with_reducible rfl
          try simp only [Act.put, List.setIfInBounds_toArray, List.set_cons_zero, List.set_cons_succ]
          refine wpAnyH_take (i := 38) (oi := { dst := some 93, op := Op.pick (Operand.tmp 80) (Operand.const (Value.bool true)) (Operand.tmp 92), type := 4, pos := "law.go:34", after := #[{ on := 25, ground := Ground.data }, { on := 37, ground := Ground.data }], guard := none }) (v := ?_) rfl (by kernel_rfl) (by kernel_rfl) (by kernel_rfl) (fun _ _ _ h => h) (Or.inl ⟨by rfl, ?_⟩) (by assumption) ?_
          rotate_left
          · intro u hu; obtain ⟨⟨_, _, _, _⟩, ⟨_, _, _, _⟩, ⟨_, _, _, _⟩, _, _, _⟩ := hu; go_simp; try with_reducible rfl
          try simp only [Act.put, List.setIfInBounds_toArray, List.set_cons_zero, List.set_cons_succ]
          refine wpAnyH_done (by kernel_rfl) ?_ _
          have hv : Bs.rng lo hi c = false := by unfold Bs.rng; simp [hlo]
          rw [hv]
          refine NoPanic.normal ?_
          go_wp2_with fail
          go_meet
          exact ⟨rfl, hH.oi, hH.ib⟩
      case rest =>
        clear I hI hE
        obtain ⟨rfl, I, hI⟩ := hcut
        have B := I.bel
        rcases HF.out with ⟨rfl, c0, r, rfl, rfl⟩ | ⟨rfl, rfl, rfl⟩
        · obtain ⟨g, cap', hv, _, _, _, hcells⟩ := Bs.row_cell hI (by simp)
          simp only [Value.slice.injEq] at hv
          obtain ⟨rfl, _, rfl⟩ := hv
          have c0c := hcells 0 (.int .u8 (c0 : Nat)) (by simp [Bs.byts])
          have d1 : decide ((0 : Int) < (((c0 :: r).length : Nat) : Int)) = true := decide_eq_true (by simp)
          have d2 : decide (0 < (c0 :: r).length) = true := decide_eq_true (by simp)
          have d3 : (0 : Int) < (((c0 :: r).length : Nat) : Int) := by simp
          have d4 : 0 < (c0 :: r).length := by simp
          clear hcells hI HF HLEN HB I
          generalize (c0 :: r).length = n at *
          go_wp2_with fail
          refine (allB_any _).mono ?_
          rintro e v5 ⟨rfl, hb⟩
          replace B := Bs.below_up B hb
          clear hb c0c
          go_wp2_with fail
          refine (len_256 _).mono ?_
          rintro e v6 ⟨rfl, hb⟩
          replace B := Bs.below_up B hb
          go_wp2_with fail
          go_ret
          exact ⟨rfl, B⟩
        · clear hI HF HLEN HB I
          go_wp2_with fail
          refine (allB_any _).mono ?_
          rintro e v5 ⟨rfl, hb⟩
          replace B := Bs.below_up B hb
          clear hb
          go_wp2_with fail
          refine (len_256 _).mono ?_
          rintro e v6 ⟨rfl, hb⟩
          replace B := Bs.below_up B hb
          go_wp2_with fail
          go_ret
          exact ⟨rfl, B⟩
end Go.Proofs.YtaaialodlibhaaaDoor
