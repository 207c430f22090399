/- The law BytesetsJoin, walked. -/
import Derived.Test.YtaaialodlibhaaaBsQ
import Derived.Deep.RegionHeld3
import Derived.Deep.DeepCutAuto
import Derived.Deep.CutBlock
namespace Go.Proofs.Ytaaialodlibhaaa
set_option linter.unusedVariables false
set_option linter.unusedSimpArgs false
open Go.RowKit
theorem Bs.cell_dr1 {w : World} {a : Addr} {v : Value} (h : w.cell? a = some v) : w.drew.cell? a = some v := h
theorem Bs.below_dr1 {B : Nat} {w v : World} (h : Below B w v) : Below B w v.drew := h.drew
set_option maxRecDepth 100000 in
set_option maxHeartbeats 2000000 in
theorem joinLaw_any (a : Option Addr) (fs : List (Nat → Bool)) (cap : Nat) (f g : Nat → Bool) (c : Nat) (w : World) (hc : c < 256) (hR : Bs.Row w a fs) (hn : fs.length ≤ maxLen) :
    Calls Try.prog 3 #[.slice a fs.length cap, Bs.val f, Bs.val g, .int .u8 c] w (Bs.BPost w true) := by
  unfold maxLen at hn
  have HR := Lib.hid hR; clear hR
  unfold Bs.val
  go_enter Try.func3, Try.ntmps3
  go_wp2_with fail
  have F := (Bs.box_new w f 25).up (Bs.below1 _ (.cells #[.int .u64 ↑(Bs.word g 0), .int .u64 ↑(Bs.word g 1), .int .u64 ↑(Bs.word g 2), .int .u64 ↑(Bs.word g 3)] 25))
  have G := Bs.box_new (w.alloc (.cells #[.int .u64 ↑(Bs.word f 0), .int .u64 ↑(Bs.word f 1), .int .u64 ↑(Bs.word f 2), .int .u64 ↑(Bs.word f 3)] 25)) g 25
  have eN : (w.alloc (.cells #[.int .u64 ↑(Bs.word f 0), .int .u64 ↑(Bs.word f 1), .int .u64 ↑(Bs.word f 2), .int .u64 ↑(Bs.word f 3)] 25)).heap.size = w.heap.size + 1 := by simp [go_sem]
  rw [eN] at G
  clear eN
  have B := Bs.below2 w (.cells #[.int .u64 ↑(Bs.word f 0), .int .u64 ↑(Bs.word f 1), .int .u64 ↑(Bs.word f 2), .int .u64 ↑(Bs.word f 3)] 25) (.cells #[.int .u64 ↑(Bs.word g 0), .int .u64 ↑(Bs.word g 1), .int .u64 ↑(Bs.word g 2), .int .u64 ↑(Bs.word g 3)] 25)
  generalize (w.alloc (.cells #[.int .u64 ↑(Bs.word f 0), .int .u64 ↑(Bs.word f 1), .int .u64 ↑(Bs.word f 2), .int .u64 ↑(Bs.word f 3)] 25)).alloc (.cells #[.int .u64 ↑(Bs.word g 0), .int .u64 ↑(Bs.word g 1), .int .u64 ↑(Bs.word g 2), .int .u64 ↑(Bs.word g 3)] 25) = W at *
  refine (alive_any _).mono ?_
  rintro e v ⟨rfl, hb⟩
  replace F := F.up hb
  replace G := G.up hb
  replace B := Bs.below_up B hb
  clear hb
  by_cases h30 : 30 < fs.length
  · have h30' : decide ((30 : Int) < (fs.length : Int)) = true := decide_eq_true (by omega)
    go_wp2_with fail
    go_ret
    exact ⟨rfl, B⟩
  have h30' : decide ((30 : Int) < (fs.length : Int)) = false := decide_eq_false (by omega)
  go_wp2_with fail
  clear h30'
  go_loopw [9, 10] (fun b i wr => ∃ k : Nat, k ≤ fs.length ∧ i = .int .i64 k ∧ b = .bool (Bs.orL (fs.take k) c) ∧ Bs.Box wr w.heap.size f ∧ Bs.Box wr (w.heap.size + 1) g ∧ Below w.heap.size w wr) (fun _ i _ => fs.length - (intOf i).toNat)
  case atStart => exact ⟨0, Nat.zero_le _, rfl, rfl, F, G, B⟩
  case round =>
    clear F G B
    obtain ⟨k, hk, rfl, rfl, F, G, B⟩ := hrel
    by_cases hlt : k < fs.length
    · have HSN := Lib.hid (congrFun (Bs.orL_snoc fs k hlt) c)
      rcases Bool.eq_false_or_eq_true (Bs.orL (fs.take k) c) with hq | hq
      · go_wp2_with fail
        go_roundw
        case rel => exact ⟨k + 1, by omega, by go_num, by rw [HSN.out, hq]; rfl, F, G, B⟩
        case measure => simp [intOf]; omega
      · obtain ⟨x, rfl, hx⟩ := HR.out k hlt
        replace hx := hx.up B
        obtain ⟨x0, x1, x2, x3⟩ := hx
        go_wp2_with fail
        refine (refHas_any fs[k] c hc _).mono ?_
        rintro e v1 ⟨rfl, hb1⟩
        clear x0 x1 x2 x3
        replace F := F.up hb1
        replace G := G.up hb1
        replace B := Bs.below_up B hb1
        have HQ := Lib.hid hq; clear hq
        go_wp2_with fail
        go_roundw
        case rel => exact ⟨k + 1, by omega, by go_num, by rw [HSN.out, HQ.out]; rfl, F, G, B⟩
        case measure => simp [intOf]; omega
    · have e1 : fs.take k = fs := List.take_of_length_le (by omega)
      rw [e1]
      clear e1
      go_upto_region 10 with (fail)
      go_cut [11, 12] (fun x y wx => x = .bool (f c) ∧ y = .bool (g c) ∧ Bs.Box wx w.heap.size f ∧ Bs.Box wx (w.heap.size + 1) g ∧ Below w.heap.size w wx)
      case first =>
        have f0 := F.cell 0 (by decide); have f1 := F.cell 1 (by decide); have f2 := F.cell 2 (by decide); have f3 := F.cell 3 (by decide)
        have g0 := G.cell 0 (by decide); have g1 := G.cell 1 (by decide); have g2 := G.cell 2 (by decide); have g3 := G.cell 3 (by decide)
        go_region_held3 (fun v => v.cell? ⟨w.heap.size, 0, none⟩ = some (.int .u64 ↑(Bs.word f 0)) ∧ v.cell? ⟨w.heap.size, 1, none⟩ = some (.int .u64 ↑(Bs.word f 1)) ∧ v.cell? ⟨w.heap.size, 2, none⟩ = some (.int .u64 ↑(Bs.word f 2)) ∧ v.cell? ⟨w.heap.size, 3, none⟩ = some (.int .u64 ↑(Bs.word f 3)) ∧ v.cell? ⟨w.heap.size + 1, 0, none⟩ = some (.int .u64 ↑(Bs.word g 0)) ∧ v.cell? ⟨w.heap.size + 1, 1, none⟩ = some (.int .u64 ↑(Bs.word g 1)) ∧ v.cell? ⟨w.heap.size + 1, 2, none⟩ = some (.int .u64 ↑(Bs.word g 2)) ∧ v.cell? ⟨w.heap.size + 1, 3, none⟩ = some (.int .u64 ↑(Bs.word g 3)) ∧ Bs.Box v w.heap.size f ∧ Bs.Box v (w.heap.size + 1) g ∧ Below w.heap.size w v)
          (first
            | (refine ⟨?_, ?_, ?_, ?_, ?_, ?_, ?_, ?_, ?_, ?_, ?_⟩ <;> with_reducible (first | (refine Bs.cell_dr1 ?_; assumption) | (refine Bs.Box.drew ?_; assumption) | (refine Bs.below_dr1 ?_; assumption)))
            | (go_split_ands; refine ⟨?_, ?_, ?_, ?_, ?_, ?_, ?_, ?_, ?_, ?_, ?_⟩ <;> with_reducible (first | (refine Bs.cell_up hb1 ?_; assumption) | (refine Bs.Box.up ?_ hb1; assumption) | (refine Bs.below_up ?_ hb1; assumption))))
          (first
            | (go_at_call 7; go_split_ands; refine (refHas_any _ c hc _).mono ?_; rintro r w2 ⟨rfl, hb1⟩))
        all_goals
          rename_i hH
          obtain ⟨_, _, _, _, _, _, _, _, F2, G2, B2⟩ := hH
          go_wp2_with fail
          go_meet
          exact ⟨rfl, rfl, F2, G2, B2⟩
      case rest =>
        clear F G B
        obtain ⟨rfl, rfl, F, G, B⟩ := hcut
        rcases Bool.eq_false_or_eq_true (f c) with hf | hf <;> rcases Bool.eq_false_or_eq_true (g c) with hg | hg
        all_goals
          rw [hf, hg]
          go_wp2_with fail
          refine (orB_any a fs cap _ (HR.out.up B) (by omega)).mono ?_
          rintro e v1 ⟨rfl, hb⟩
          replace F := F.up hb
          replace G := G.up hb
          replace B := Bs.below_up B hb
          clear hb
          unfold Bs.val
          go_wp2_with fail
          refine (refHas_any (Bs.orL fs) c hc _).mono ?_
          rintro e v2 ⟨rfl, hb⟩
          replace F := F.up hb
          replace G := G.up hb
          replace B := Bs.below_up B hb
          clear hb
          have f0 := F.cell 0 (by decide); have f1 := F.cell 1 (by decide); have f2 := F.cell 2 (by decide); have f3 := F.cell 3 (by decide)
          have g0 := G.cell 0 (by decide); have g1 := G.cell 1 (by decide); have g2 := G.cell 2 (by decide); have g3 := G.cell 3 (by decide)
          go_wp2_with fail
          clear f0 f1 f2 f3 g0 g1 g2 g3
          refine (andB_any f g _).mono ?_
          rintro e v3 ⟨rfl, hb⟩
          replace F := F.up hb
          replace G := G.up hb
          replace B := Bs.below_up B hb
          clear hb
          unfold Bs.val
          go_wp2_with fail
          refine (refHas_any (fun c => f c && g c) c hc _).mono ?_
          rintro e v4 ⟨rfl, hb⟩
          replace F := F.up hb
          replace G := G.up hb
          replace B := Bs.below_up B hb
          clear hb
          have f0 := F.cell 0 (by decide); have f1 := F.cell 1 (by decide); have f2 := F.cell 2 (by decide); have f3 := F.cell 3 (by decide)
          have g0 := G.cell 0 (by decide); have g1 := G.cell 1 (by decide); have g2 := G.cell 2 (by decide); have g3 := G.cell 3 (by decide)
          rw [hf, hg]
          go_wp2_with fail
          clear f0 f1 f2 f3 g0 g1 g2 g3
          refine (notB_any f _).mono ?_
          rintro e v5 ⟨rfl, hb⟩
          replace F := F.up hb
          replace G := G.up hb
          replace B := Bs.below_up B hb
          clear hb
          unfold Bs.val
          go_wp2_with fail
          refine (refHas_any (fun c => !f c) c hc _).mono ?_
          rintro e v6 ⟨rfl, hb⟩
          replace F := F.up hb
          replace G := G.up hb
          replace B := Bs.below_up B hb
          clear hb
          have f0 := F.cell 0 (by decide); have f1 := F.cell 1 (by decide); have f2 := F.cell 2 (by decide); have f3 := F.cell 3 (by decide)
          have g0 := G.cell 0 (by decide); have g1 := G.cell 1 (by decide); have g2 := G.cell 2 (by decide); have g3 := G.cell 3 (by decide)
          rw [hf]
          go_wp2_with fail
          clear f0 f1 f2 f3 g0 g1 g2 g3
          refine (lessB_any f g _).mono ?_
          rintro e v7 ⟨rfl, hb⟩
          replace F := F.up hb
          replace G := G.up hb
          replace B := Bs.below_up B hb
          clear hb
          unfold Bs.val
          go_wp2_with fail
          refine (refHas_any (fun c => f c && !g c) c hc _).mono ?_
          rintro e v8 ⟨rfl, hb⟩
          replace F := F.up hb
          replace G := G.up hb
          replace B := Bs.below_up B hb
          clear hb
          rw [hf, hg]
          go_wp2_with fail
          go_ret
          exact ⟨rfl, B⟩
end Go.Proofs.Ytaaialodlibhaaa
