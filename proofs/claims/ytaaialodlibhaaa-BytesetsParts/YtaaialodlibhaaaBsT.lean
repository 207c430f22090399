/- The law BytesetsParts, walked. -/
import Derived.Test.YtaaialodlibhaaaBsS
namespace Go.Proofs.Ytaaialodlibhaaa
set_option linter.unusedVariables false
set_option linter.unusedSimpArgs false
open Go.RowKit
/-- do two sets have the same bytes? -/
def Bs.same (f g : Nat → Bool) : Bool := (List.range 256).all fun c => f c == g c
theorem Bs.same_iff {f g : Nat → Bool} : Bs.same f g = true ↔ ∀ c, c < 256 → f c = g c := by simp [Bs.same]
theorem Bs.eq_run (f g : Nat → Bool) (w : World) : (Op.equalIn 10000 25 (.agg #[.int .u64 (Bs.word f 0), .int .u64 (Bs.word f 1), .int .u64 (Bs.word f 2), .int .u64 (Bs.word f 3)]) (.agg #[.int .u64 (Bs.word g 0), .int .u64 (Bs.word g 1), .int .u64 (Bs.word g 2), .int .u64 (Bs.word g 3)])).run Try.prog w = .ok (Bs.same f g) w := by
  obtain ⟨r, hr, hiff⟩ := run_equal_deep (P := Try.prog) w (m := 2) (by omega) (k := 25) (by kernel_rfl) Bs.wideSet (Bs.keyOf_val f) (Bs.keyOf_val g)
  have e : r = Bs.same f g := by
    rw [Bool.eq_iff_iff, hiff, Bs.same_iff]
    exact ⟨fun h c hc => Bs.val_inj (Bs.key_inj h) c hc, fun h => Bs.key_congr (Bs.val_congr h)⟩
  rw [← e]
  exact hr
theorem Bs.eq_none (f : Nat → Bool) (w : World) : (Op.equalIn 10000 25 (.agg #[.int .u64 (Bs.word f 0), .int .u64 (Bs.word f 1), .int .u64 (Bs.word f 2), .int .u64 (Bs.word f 3)]) (.agg #[.int .u64 0, .int .u64 0, .int .u64 0, .int .u64 0])).run Try.prog w = .ok (Bs.same f fun _ => false) w := by
  have h := Bs.eq_run f (fun _ => false) w
  simp only [Bs.word_none] at h
  exact h
theorem Bs.Box.congr {w : World} {b : Nat} {f g : Nat → Bool} (h : Bs.Box w b f) (e : ∀ c, c < 256 → f c = g c) : Bs.Box w b g :=
  ⟨fun i hi => by rw [h.cell i hi, Bs.word_congr fun k hk => e _ (by omega)], h.frz⟩
/-- of a set's bytes those of the first k classes -/
def Bs.tog (fs : List (Nat → Bool)) (f : Nat → Bool) (k : Nat) : Nat → Bool := fun c => decide (Bs.kls fs c < k) && f c
theorem Bs.tog_zero (fs : List (Nat → Bool)) (f : Nat → Bool) : Bs.tog fs f 0 = fun _ => false := by funext c; simp [Bs.tog]
theorem Bs.tog_all (fs : List (Nat → Bool)) (f : Nat → Bool) (c : Nat) (hc : c < 256) : Bs.tog fs f (Bs.ncl fs 256) c = f c := by
  have := Bs.kls_lt fs hc
  simp [Bs.tog, this]
/-- the class k has no byte of f -/
theorem Bs.tog_no {fs : List (Nat → Bool)} {f : Nat → Bool} {k : Nat} (h : Bs.same (fun c => Bs.cls fs k c && f c) (fun _ => false) = true) (c : Nat) (hc : c < 256) : Bs.tog fs f k c = Bs.tog fs f (k + 1) c := by
  have h1 := Bs.same_iff.1 h c hc
  unfold Bs.tog
  by_cases hk : Bs.kls fs c = k
  · have hf : f c = false := by
      unfold Bs.cls at h1; rw [hk] at h1; simpa using h1
    simp [hf]
  · have : (Bs.kls fs c < k + 1) = (Bs.kls fs c < k) := propext (by omega)
    simp [this]
/-- the class k has some byte of f, and so all its bytes are f's -/
theorem Bs.tog_yes {fs : List (Nat → Bool)} {f : Nat → Bool} (hf : f ∈ fs) {k : Nat} (h : Bs.same (fun c => Bs.cls fs k c && f c) (fun _ => false) = false) (c : Nat) (hc : c < 256) : Bs.orL [Bs.tog fs f k, Bs.cls fs k] c = Bs.tog fs f (k + 1) c := by
  have he : ∃ d, d < 256 ∧ Bs.kls fs d = k ∧ f d = true := by
    apply Classical.byContradiction
    intro hn
    have : Bs.same (fun c => Bs.cls fs k c && f c) (fun _ => false) = true := Bs.same_iff.2 fun d hd => by
      cases h1 : f d
      · simp
      · have : Bs.kls fs d ≠ k := fun e => hn ⟨d, hd, e, h1⟩
        unfold Bs.cls
        simp; omega
    rw [this] at h; cases h
  obtain ⟨d, hd, hk, hfd⟩ := he
  unfold Bs.orL Bs.tog Bs.cls
  by_cases hkc : Bs.kls fs c = k
  · have ha := (Bs.kls_iff fs c d).1 (by rw [hkc, hk])
    have hfc : f c = true := by rw [Bs.alike_iff.1 ha f hf]; exact hfd
    simp [hkc, hfc]
  · have h1 : (Bs.kls fs c < k + 1) = (Bs.kls fs c < k) := propext (by omega)
    have h2 : ((Bs.kls fs c : Int) == (k : Int)) = false := by simp; omega
    simp [h1, h2]
set_option maxRecDepth 100000 in
set_option maxHeartbeats 2000000 in
theorem partsLaw_any (a : Option Addr) (fs : List (Nat → Bool)) (cap c d : Nat) (w : World) (hc : c < 256) (hd : d < 256) (hR : Bs.Row w a fs) (hn : fs.length ≤ maxLen) :
    Calls Try.prog 5 #[.slice a fs.length cap, .int .u8 c, .int .u8 d] w (Bs.BPost w true) := by
  unfold maxLen at hn
  have HR := Lib.hid hR; clear hR
  go_enter Try.func5, Try.ntmps5
  go_wp2_with fail
  refine (alive_any _).mono ?_
  rintro e v0 ⟨rfl, B⟩
  by_cases h30 : 30 < fs.length
  · have h30' : decide ((30 : Int) < (fs.length : Int)) = true := decide_eq_true (by omega)
    go_wp2_with fail
    go_ret
    exact ⟨rfl, B⟩
  have h30' : decide ((30 : Int) < (fs.length : Int)) = false := decide_eq_false (by omega)
  go_wp2_with fail
  clear h30'
  refine (classes_any a fs cap _ (HR.out.up B) (by omega)).mono ?_
  rintro e v ⟨rfl, hb⟩
  replace B := Bs.below_up B hb
  clear hb
  have zz := Bs.zero256.1
  obtain ⟨A, hA⟩ : ∃ A, A = Bs.arr (Bs.kls fs) := ⟨_, rfl⟩
  obtain ⟨Z, hZ⟩ : ∃ Z, Z = Bs.zeros := ⟨_, rfl⟩
  rw [← hA]
  rw [← hZ] at zz
  have hAs : A.size = 256 := by rw [hA, Bs.arr_size]
  have hsc := run_storeCells_new (P := Try.prog) v 32 Z A (by rw [hAs]; exact Bs.zero256.2) (by rw [hAs, hZ]; exact Bs.arr_size _) (by rw [hA]; exact Bs.arr_one _)
  have HA := Lib.hid hA; clear hA hZ
  have C0 : Bs.Arr (v.alloc (.cells A 32)) v.heap.size (Bs.kls fs) := by rw [HA.out]; exact heap_alloc_last _ _
  replace B := Bs.below_up B (Bs.below1 v (.cells A 32))
  go_upto_region 6 with (fail)
  clear zz hsc
  generalize v.alloc (.cells A 32) = V at *
  generalize v.heap.size = P at *
  have c0 := C0.cell c hc
  have d0 := C0.cell d hd
  have kc := Bs.kls_le fs c
  have kd := Bs.kls_le fs d
  have kn := Bs.kls_lt fs hc
  have hN := Bs.ncl_le fs 256
  have hiff := Bs.kls_iff fs c d
  have AL := fun (u : World) (h : Below w.heap.size w u) => refAlike_any a fs cap c d u hc hd (HR.out.up h) (by omega)
  clear C0
  generalize hM : Bs.ncl fs 256 = M at *
  generalize Bs.kls fs c = X at *
  generalize Bs.kls fs d = Y at *
  have HM := Lib.hid hM; clear hM
  go_cut [42] (fun x wx => x = .bool false ∧ Below w.heap.size w wx)
  case first =>
    have k1 : (0 : Int) ≤ (c : Int) := by omega
    have k2 : (c : Int) < 256 := by omega
    have k3 : (0 : Int) ≤ (d : Int) := by omega
    have k4 : (d : Int) < 256 := by omega
    have k5 : IntKind.i64.wrap (X : Int) = X := IntWalk.i64_in _ (by omega)
    have k6 : decide ((M : Int) ≤ (X : Int)) = false := decide_eq_false (by omega)
    have k7 : decide (M ≤ X) = false := decide_eq_false (by omega)
    rcases Bool.eq_false_or_eq_true (Bs.alike fs c d) with hq | hq
    · have hxy := hiff.2 hq
      subst hxy
      rw [hq] at AL
      have HAL := Lib.hid AL
      clear AL hiff hq
      go_region_held3 (fun v => v.cell? ⟨P, c, none⟩ = some (.int .u8 ↑X) ∧ v.cell? ⟨P, d, none⟩ = some (.int .u8 ↑X) ∧ Below w.heap.size w v)
        (first
          | (refine ⟨?_, ?_, ?_⟩ <;> with_reducible (first | (refine Bs.cell_dr ?_; assumption) | (refine Bs.below_dr ?_; assumption)))
          | (go_split_ands; refine ⟨?_, ?_, ?_⟩ <;> with_reducible (first | (refine Bs.cell_up hb1 ?_; assumption) | (refine Bs.below_up ?_ hb1; assumption))))
        (first
          | (go_at_call 15; go_split_ands; refine (HAL.out _ (by assumption)).mono ?_; rintro r w2 ⟨rfl, hb1⟩))
      all_goals
        rename_i hH
        obtain ⟨_, _, B2⟩ := hH
        go_wp2_with fail
        go_meet
        exact ⟨rfl, B2⟩
    · have hxy : X ≠ Y := fun e => by rw [hiff.1 e] at hq; cases hq
      have k8 : ((X : Int) == (Y : Int)) = false := by simp; omega
      rw [hq] at AL
      have HAL := Lib.hid AL
      clear AL hiff hq
      go_region_held3 (fun v => v.cell? ⟨P, c, none⟩ = some (.int .u8 ↑X) ∧ v.cell? ⟨P, d, none⟩ = some (.int .u8 ↑Y) ∧ Below w.heap.size w v)
        (first
          | (refine ⟨?_, ?_, ?_⟩ <;> with_reducible (first | (refine Bs.cell_dr ?_; assumption) | (refine Bs.below_dr ?_; assumption)))
          | (go_split_ands; refine ⟨?_, ?_, ?_⟩ <;> with_reducible (first | (refine Bs.cell_up hb1 ?_; assumption) | (refine Bs.below_up ?_ hb1; assumption))))
        (first
          | (go_at_call 15; go_split_ands; refine (HAL.out _ (by assumption)).mono ?_; rintro r w2 ⟨rfl, hb1⟩))
      all_goals
        rename_i hH
        obtain ⟨_, _, B2⟩ := hH
        go_wp2_with fail
        go_meet
        exact ⟨rfl, B2⟩
  case rest =>
    clear B c0 d0 AL hiff
    obtain ⟨rfl, B⟩ := hcut
    go_wp2_with fail
    go_loopw [9] (fun s wr => ∃ i : Nat, i ≤ fs.length ∧ s = .int .i64 i ∧ Below w.heap.size w wr) (fun s _ => fs.length - (intOf s).toNat)
    case atStart => exact ⟨0, Nat.zero_le _, rfl, B⟩
    case round =>
      clear B
      obtain ⟨i, hi, rfl, B⟩ := hrel
      by_cases hlt : i < fs.length
      · have hd1 : decide ((i : Int) < (fs.length : Int)) = true := decide_eq_true (by omega)
        have hd2 : decide (i < fs.length) = true := decide_eq_true hlt
        obtain ⟨x, rfl, hx⟩ := HR.out i hlt
        have HX := Lib.hid hx; clear hx
        have hmem := List.getElem_mem hlt
        have hi1 : (0 : Int) ≤ (i : Int) := by omega
        have hi2 : (i : Int) < (fs.length : Int) := by omega
        generalize fs[i] = F at *
        have T0 := Bs.box_zero wr 25
        rw [← Bs.tog_zero fs F] at T0
        have hbq : w.heap.size ≤ wr.heap.size := B.size
        replace B := Bs.below_up B (Bs.below1 wr (.cells #[.int .u64 0, .int .u64 0, .int .u64 0, .int .u64 0] 25))
        go_wp2_with fail
        generalize wr.alloc (.cells #[.int .u64 0, .int .u64 0, .int .u64 0, .int .u64 0] 25) = W1 at *
        generalize wr.heap.size = b at *
        go_loopw [11] (fun s wq => ∃ k : Nat, k ≤ M ∧ s = .int .i64 k ∧ Bs.Box wq b (Bs.tog fs F k) ∧ Below w.heap.size w wq) (fun s _ => M - (intOf s).toNat)
        case atStart => exact ⟨0, Nat.zero_le _, rfl, T0, B⟩
        case round =>
          clear T0 B
          obtain ⟨k, hk, rfl, T, B⟩ := hrel
          by_cases hkl : k < M
          · have he1 : decide ((k : Int) < (M : Int)) = true := decide_eq_true (by omega)
            have he2 : decide (k < M) = true := decide_eq_true hkl
            go_wp2_with fail
            refine (class_any (some x) fs cap k _ (HR.out.up B) (by omega)).mono ?_
            rintro e v1 ⟨rfl, hb1⟩
            unfold Bs.val
            replace T := (T.up hb1).up (Bs.below1 v1 (.cells #[.int .u64 ↑(Bs.word (Bs.cls fs k) 0), .int .u64 ↑(Bs.word (Bs.cls fs k) 1), .int .u64 ↑(Bs.word (Bs.cls fs k) 2), .int .u64 ↑(Bs.word (Bs.cls fs k) 3)] 25))
            replace B := Bs.below_up (Bs.below_up B hb1) (Bs.below1 v1 (.cells #[.int .u64 ↑(Bs.word (Bs.cls fs k) 0), .int .u64 ↑(Bs.word (Bs.cls fs k) 1), .int .u64 ↑(Bs.word (Bs.cls fs k) 2), .int .u64 ↑(Bs.word (Bs.cls fs k) 3)] 25))
            have Cb := Bs.box_new v1 (Bs.cls fs k) 25
            clear hb1
            go_upto_region 16 with (fail)
            generalize v1.alloc (.cells #[.int .u64 ↑(Bs.word (Bs.cls fs k) 0), .int .u64 ↑(Bs.word (Bs.cls fs k) 1), .int .u64 ↑(Bs.word (Bs.cls fs k) 2), .int .u64 ↑(Bs.word (Bs.cls fs k) 3)] 25) = V1 at *
            generalize v1.heap.size = Q at *
            have hE := Bs.eq_none (fun c => Bs.cls fs k c && F c)
            go_cut [64] (fun y wx => y = .bool (!Bs.same (fun c => Bs.cls fs k c && F c) fun _ => false) ∧ Bs.Box wx b (Bs.tog fs F k) ∧ Bs.Box wx Q (Bs.cls fs k) ∧ Below w.heap.size w wx)
            case first =>
              have X := HX.out.up B
              obtain ⟨x0, x1, x2, x3⟩ := X
              have q0 := Cb.cell 0 (by decide); have q1 := Cb.cell 1 (by decide); have q2 := Cb.cell 2 (by decide); have q3 := Cb.cell 3 (by decide)
              go_region_held3 (fun v => v.cell? ⟨Q, 0, none⟩ = some (.int .u64 ↑(Bs.word (Bs.cls fs k) 0)) ∧ v.cell? ⟨Q, 1, none⟩ = some (.int .u64 ↑(Bs.word (Bs.cls fs k) 1)) ∧ v.cell? ⟨Q, 2, none⟩ = some (.int .u64 ↑(Bs.word (Bs.cls fs k) 2)) ∧ v.cell? ⟨Q, 3, none⟩ = some (.int .u64 ↑(Bs.word (Bs.cls fs k) 3)) ∧ v.cell? (x.add (i * 4)) = some (.int .u64 ↑(Bs.word F 0)) ∧ v.cell? ⟨(x.add (i * 4)).block, (x.add (i * 4)).off + 1, none⟩ = some (.int .u64 ↑(Bs.word F 1)) ∧ v.cell? ⟨(x.add (i * 4)).block, (x.add (i * 4)).off + 2, none⟩ = some (.int .u64 ↑(Bs.word F 2)) ∧ v.cell? ⟨(x.add (i * 4)).block, (x.add (i * 4)).off + 3, none⟩ = some (.int .u64 ↑(Bs.word F 3)) ∧ Bs.Box v b (Bs.tog fs F k) ∧ Bs.Box v Q (Bs.cls fs k) ∧ Below w.heap.size w v)
                (first
                  | (refine ⟨?_, ?_, ?_, ?_, ?_, ?_, ?_, ?_, ?_, ?_, ?_⟩ <;> with_reducible (first | (refine Bs.cell_dr ?_; assumption) | (refine Bs.Box.drew ?_; assumption) | (refine Bs.below_dr ?_; assumption)))
                  | (go_split_ands; refine ⟨?_, ?_, ?_, ?_, ?_, ?_, ?_, ?_, ?_, ?_, ?_⟩ <;> with_reducible (first | (refine Bs.cell_up hb2 ?_; assumption) | (refine Bs.Box.up ?_ hb2; assumption) | (refine Bs.below_up ?_ hb2; assumption))))
                (first
                  | (go_at_call 9; go_split_ands; refine (andB_any (Bs.cls fs k) F _).mono ?_; rintro r w2 ⟨rfl, hb2⟩; unfold Bs.val))
              all_goals
                rename_i hH
                obtain ⟨_, _, _, _, _, _, _, _, T2, C2, B2⟩ := hH
                go_wp2_with fail
                go_meet
                exact ⟨rfl, T2, C2, B2⟩
            case rest =>
              clear T Cb B hE
              obtain ⟨rfl, T, Cb, B⟩ := hcut
              rcases Bool.eq_false_or_eq_true (Bs.same (fun c => Bs.cls fs k c && F c) fun _ => false) with hq | hq
              · rw [hq]
                have HQ := Lib.hid hq; clear hq
                go_wp2_with fail
                go_roundw
                case rel => exact ⟨k + 1, by omega, by go_num, T.congr (Bs.tog_no HQ.out), B⟩
                case measure => simp [intOf]; omega
              · rw [hq]
                have HQ := Lib.hid hq; clear hq
                have t0 := T.cell 0 (by decide); have t1 := T.cell 1 (by decide); have t2 := T.cell 2 (by decide); have t3 := T.cell 3 (by decide)
                have q0 := Cb.cell 0 (by decide); have q1 := Cb.cell 1 (by decide); have q2 := Cb.cell 2 (by decide); have q3 := Cb.cell 3 (by decide)
                go_wp2_with fail
                clear t0 t1 t2 t3 q0 q1 q2 q3
                refine (orB_any (some ⟨wc.heap.size, 0, none⟩) [Bs.tog fs F k, Bs.cls fs k] 2 _ (Bs.row_new wc _ _ _) (by simp)).mono ?_
                rintro e v3 ⟨rfl, hb3⟩
                unfold Bs.val
                replace T := (T.up (Bs.below1 wc _)).up hb3
                replace B := Bs.below_up (Bs.below_up B (Bs.below1 wc _)) hb3
                clear hb3 Cb
                have t0 := T.cell 0 (by decide); have t1 := T.cell 1 (by decide); have t2 := T.cell 2 (by decide); have t3 := T.cell 3 (by decide)
                have g0 := T.frz 0 (by decide); have g1 := T.frz 1 (by decide); have g2 := T.frz 2 (by decide); have g3 := T.frz 3 (by decide)
                go_wp2_with fail
                go_roundw
                case rel => exact ⟨k + 1, by omega, by go_num, (T.write _).congr (Bs.tog_yes hmem HQ.out), Bs.set4 B hbq _ _ _ _⟩
                case measure => simp [intOf]; omega
          · have he1 : decide ((k : Int) < (M : Int)) = false := decide_eq_false (by omega)
            have he2 : decide (k < M) = false := decide_eq_false hkl
            obtain rfl : k = M := by omega
            have hE := fun u => Bs.eq_run (Bs.tog fs F k) F u
            have hsm : Bs.same (Bs.tog fs F k) F = true := Bs.same_iff.2 fun c hc => by rw [← HM.out]; exact Bs.tog_all fs F c hc
            rw [hsm] at hE
            clear hsm
            go_upto_region 18 with (fail)
            go_cut [78] (fun y wx => y = .bool false ∧ Below w.heap.size w wx)
            case first =>
              by_cases h3 : i < 3
              · have h3a : decide ((i : Int) < 3) = true := decide_eq_true (by omega)
                have X := HX.out.up B
                obtain ⟨x0, x1, x2, x3⟩ := X
                have t0 := T.cell 0 (by decide); have t1 := T.cell 1 (by decide); have t2 := T.cell 2 (by decide); have t3 := T.cell 3 (by decide)
                go_quiet (fail)
                go_wp2_with fail
                go_meet
                exact ⟨rfl, Bs.below_up B (Bs.below_drewN _)⟩
              · have h3a : decide ((i : Int) < 3) = false := decide_eq_false (by omega)
                go_quiet (fail)
                go_wp2_with fail
                go_meet
                exact ⟨rfl, Bs.below_up B (Bs.below_drewN _)⟩
            case rest =>
              clear T B hE
              obtain ⟨rfl, B⟩ := hcut
              go_wp2_with fail
              go_roundw
              case rel => exact ⟨i + 1, by omega, by go_num, B⟩
              case measure => simp [intOf]; omega
      · have hd1 : decide ((i : Int) < (fs.length : Int)) = false := decide_eq_false (by omega)
        have hd2 : decide (i < fs.length) = false := decide_eq_false hlt
        go_wp2_with fail
        go_ret
        exact ⟨rfl, B⟩
end Go.Proofs.Ytaaialodlibhaaa
