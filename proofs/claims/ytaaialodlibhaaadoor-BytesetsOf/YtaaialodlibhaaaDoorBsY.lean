/- What Bytes answers, the document's too, walked. -/
import Derived.Test.YtaaialodlibhaaaDoorBsX
import Derived.Test.YtaaialodlibhaaaDoorBsO
import Derived.Deep.AppendLies
namespace Go.Proofs.YtaaialodlibhaaaDoor
set_option linter.unusedVariables false
set_option linter.unusedSimpArgs false
open Go.RowKit
/-- bytes, as values -/
def Bs.byts (l : List Nat) : List Value := l.map fun (c : Nat) => .int .u8 (c : Int)
theorem Bs.byts_snoc (l : List Nat) (c : Nat) : Bs.byts (l ++ [c]) = Bs.byts l ++ [.int .u8 c] := by simp [Bs.byts]
/-- v is a slice of one's own with these bytes -/
def Bs.IsB (base : Nat) (v : Value) (l : List Nat) (w : World) : Prop := w.ownsRow base 5 1 v l.length (Bs.byts l)
theorem Bs.IsB.up {base : Nat} {v : Value} {l : List Nat} {w w' : World} (h : Bs.IsB base v l w) (hb : Below w.heap.size w w') : Bs.IsB base v l w' := Bs.row_up h hb
/-- what is answered -/
def Bs.LPost (w : World) (l : List Nat) (e : Ending) (w' : World) : Prop := ∃ v, e = .returned v ∧ Bs.IsB (w.heap.size + 1) v l w' ∧ Below w.heap.size w w'
theorem Bs.infoByte : (Tryd.prog.info? 5).map (fun i => (i.zero, i.size, i.bytes)) = some (some (.int .u8 0), 1, 1) := by kernel_rfl
theorem Bs.Box.grown {w w1 : World} {b : Nat} {row : Option Nat} {f : Nat → Bool} (h : Bs.Box w b f) (hg : w.grownBy w1 row) (hn : some b ≠ row) : Bs.Box w1 b f := by
  have hl := h.lt
  refine ⟨fun i hi => hg.cell (h.cell i hi) hn, fun i hi => ?_⟩
  rw [World.frozen?_of_block (w := w) (hg.block b hl hn)]
  exact h.frz i hi
set_option maxRecDepth 100000 in
set_option maxHeartbeats 1000000 in
theorem refBytesS_any (f : Nat → Bool) (w : World) : Calls Tryd.prog 9 #[Bs.val f] w (Bs.LPost w (Bs.lst f 256)) := by
  obtain ⟨iI, hiI, hz0, hz1, hz2⟩ := info_parts Bs.infoByte
  unfold Bs.val
  go_enter Tryd.func9, Tryd.ntmps9
  go_wp2_with fail
  have F0 := Bs.box_new w f 26
  have B := Bs.below1 w (.cells #[.int .u64 ↑(Bs.word f 0), .int .u64 ↑(Bs.word f 1), .int .u64 ↑(Bs.word f 2), .int .u64 ↑(Bs.word f 3)] 26)
  have hsz : w.heap.size + 1 ≤ (w.alloc (.cells #[.int .u64 ↑(Bs.word f 0), .int .u64 ↑(Bs.word f 1), .int .u64 ↑(Bs.word f 2), .int .u64 ↑(Bs.word f 3)] 26)).heap.size := F0.lt
  generalize w.alloc (.cells #[.int .u64 ↑(Bs.word f 0), .int .u64 ↑(Bs.word f 1), .int .u64 ↑(Bs.word f 2), .int .u64 ↑(Bs.word f 3)] 26) = W at *
  go_loopw [3, 4] (fun v i wr => ∃ c : Nat, c ≤ 256 ∧ i = .int .i64 c ∧ Bs.IsB (w.heap.size + 1) v (Bs.lst f c) wr ∧ Bs.Box wr w.heap.size f ∧ Below w.heap.size w wr) (fun _ i _ => 256 - (intOf i).toNat)
  case atStart => exact ⟨0, by omega, rfl, World.ownsRow_nil _ _ _ _, F0, B⟩
  case round =>
    clear F0 B hsz
    obtain ⟨c, hc, rfl, R, F0, B⟩ := hrel
    by_cases hlt : c < 256
    · have hd : decide ((c : Int) < 256) = true := decide_eq_true (by omega)
      have f0 := F0.cell 0 (by decide); have f1 := F0.cell 1 (by decide); have f2 := F0.cell 2 (by decide); have f3 := F0.cell 3 (by decide)
      go_wp2_with fail
      refine (refHas_any f c hlt _).mono ?_
      rintro e v ⟨rfl, hb⟩
      clear f0 f1 f2 f3
      replace R := R.up hb
      replace F0 := F0.up hb
      replace B := Bs.below_up B hb
      clear hb
      rcases Bool.eq_false_or_eq_true (f c) with hf | hf
      · have HL := Lib.hid (Bs.lst_yes hf)
        have hle := Bs.lst_le f c
        have A := Bs.below1 v (.cells #[.int .u8 (c : Int)] 5)
        have R1 := R.up A
        have F1 := F0.up A
        have B1 := Bs.below_up B A
        have hbs : w.heap.size + 1 ≤ (v.alloc (.cells #[.int .u8 (c : Int)] 5)).heap.size := F1.lt
        have nw : ∀ j u, [Value.int .u8 (c : Int)][j]? = some u → (v.alloc (.cells #[.int .u8 (c : Int)] 5)).cell? ((⟨v.heap.size, 0, none⟩ : Addr).add j) = some u := World.news_of_block (cs := #[.int .u8 (c : Int)]) (t := 5) (fr := (0, 0)) (heap_alloc_new v _)
        go_wp2_with (at_builtin; refine wpList_append_own _ rfl _ _ 22 rfl (w.heap.size + 1) 5 iI _ 1 1 Tryd.underlying22 hiI hz0 hz1 hz2 rfl (by decide) _ _ _ rfl R1 ⟨v.heap.size, 0, none⟩ 1 1 [.int .u8 (c : Int)] rfl rfl nw (by simp [Value.oneCell']) (by unfold maxLen; omega) (by omega) hbs ?_; intro v7 w4 o7 g7 n7)
        have hg : (v.alloc (.cells #[.int .u8 (c : Int)] 5)).grownBy w4 u3.ownBlock := g7
        clear g7 n7
        go_roundw
        case rel =>
          refine ⟨c + 1, by omega, by go_num, ?_, F1.grown hg (fun e => by have := (R1.lt _ e.symm).1; omega), B1.grown hg B1.size (fun k hk => by have := (R1.lt k hk).1; omega)⟩
          unfold Bs.IsB
          rw [HL.out, Bs.byts_snoc, List.length_append]
          exact o7
        case measure => simp [intOf]; omega
      · have HL := Lib.hid (Bs.lst_no hf)
        go_wp2_with fail
        go_roundw
        case rel => exact ⟨c + 1, by omega, by go_num, by rw [HL.out]; exact R, F0, B⟩
        case measure => simp [intOf]; omega
    · obtain rfl : c = 256 := by omega
      go_wp2_with fail
      go_ret
      exact ⟨_, rfl, R, B⟩
theorem Bs.clear_i (f : Nat → Bool) (i p : Nat) (h : Bs.rest f i p ≠ 0) : bits .and .u64 (Bs.rest f i p) (IntKind.u64.wrap ((Bs.rest f i p : Int) - 1)) = ((Bs.rest f i p &&& (Bs.rest f i p - 1) : Nat) : Int) := by
  have hl := Bs.rest_lt f i p
  have e : IntKind.u64.wrap ((Bs.rest f i p : Int) - 1) = ((Bs.rest f i p - 1 : Nat) : Int) := by rw [IntKind.wrap_u64]; omega
  rw [e, u64_and_nat _ _ hl (by omega)]
theorem Bs.clear_i' (f : Nat → Bool) (i p : Nat) (h : Bs.rest f i p ≠ 0) : bits .and .u64 (Bs.rest f i p) ((Bs.rest f i p : Int) - 1) = ((Bs.rest f i p &&& (Bs.rest f i p - 1) : Nat) : Int) := by
  have hl := Bs.rest_lt f i p
  have e : ((Bs.rest f i p : Int) - 1) = ((Bs.rest f i p - 1 : Nat) : Int) := by omega
  rw [e, u64_and_nat _ _ hl (by omega)]
theorem Bs.index_any (f : Nat → Bool) (i : Nat) (hi : i < 4) (w : World) : (Instr.index 26 (.agg #[.int .u64 ↑(Bs.word f 0), .int .u64 ↑(Bs.word f 1), .int .u64 ↑(Bs.word f 2), .int .u64 ↑(Bs.word f 3)]) (.int .i64 i)).run Tryd.prog w = .ok (.int .u64 ↑(Bs.word f i)) w := by
  rcases Bs.four hi with rfl | rfl | rfl | rfl
  · exact Bs.idx0 _ _ _ _ w
  · exact Bs.idx1 _ _ _ _ w
  · exact Bs.idx2 _ _ _ _ w
  · exact Bs.idx3 _ _ _ _ w
set_option maxRecDepth 100000 in
set_option maxHeartbeats 1000000 in
theorem bytesS_any (f : Nat → Bool) (w : World) (hT : Bs.Tab w) : Calls Tryd.prog 10 #[Bs.val f] w (Bs.LPost w (Bs.lst f 256)) := by
  obtain ⟨iI, hiI, hz0, hz1, hz2⟩ := info_parts Bs.infoByte
  have HT := Lib.hid hT; clear hT
  unfold Bs.val
  go_enter Tryd.func10, Tryd.ntmps10
  go_wp2_with fail
  have F0 := Bs.box_new w f 26
  have B := Bs.below1 w (.cells #[.int .u64 ↑(Bs.word f 0), .int .u64 ↑(Bs.word f 1), .int .u64 ↑(Bs.word f 2), .int .u64 ↑(Bs.word f 3)] 26)
  have hsz : w.heap.size + 1 ≤ (w.alloc (.cells #[.int .u64 ↑(Bs.word f 0), .int .u64 ↑(Bs.word f 1), .int .u64 ↑(Bs.word f 2), .int .u64 ↑(Bs.word f 3)] 26)).heap.size := F0.lt
  clear F0
  generalize w.alloc (.cells #[.int .u64 ↑(Bs.word f 0), .int .u64 ↑(Bs.word f 1), .int .u64 ↑(Bs.word f 2), .int .u64 ↑(Bs.word f 3)] 26) = W at *
  go_loopw [3, 7] (fun v s wr => ∃ i : Nat, i ≤ 4 ∧ s = .int .i64 i ∧ Bs.IsB (w.heap.size + 1) v (Bs.lst f (64 * i)) wr ∧ w.heap.size + 1 ≤ wr.heap.size ∧ Below w.heap.size w wr) (fun _ s _ => 4 - (intOf s).toNat)
  case atStart => exact ⟨0, by omega, rfl, World.ownsRow_nil _ _ _ _, hsz, B⟩
  case round =>
    clear B hsz
    obtain ⟨i, hi, rfl, R, hsz, B⟩ := hrel
    by_cases hlt : i < 4
    · have hd : decide ((i : Int) < 4) = true := decide_eq_true (by omega)
      have hix := Bs.index_any f i hlt
      go_wp2_with fail
      clear hix
      go_loopg [3, 5] 64 (fun g v x wr => ∃ p : Nat, p + g = 64 ∧ x = .int .u64 ↑(Bs.rest f i p) ∧ Bs.IsB (w.heap.size + 1) v (Bs.lst f (64 * i + p)) wr ∧ w.heap.size + 1 ≤ wr.heap.size ∧ Below w.heap.size w wr)
      case atStart => exact ⟨0, by omega, by rw [Bs.rest_zero], R, hsz, B⟩
      case round =>
        clear B hsz R
        obtain ⟨p, hp, rfl, R, hsz, B⟩ := hrel
        by_cases h0 : Bs.rest f i p = 0
        · have HL := Lib.hid (Bs.rest_none h0 (by omega))
          have hnz : ((Bs.rest f i p : Int) != 0) = false := by rw [h0]; rfl
          clear h0
          go_wp2_with fail
          go_roundw
          case rel => exact ⟨i + 1, by omega, by go_num, by rw [HL.out]; exact R, hsz, B⟩
          case measure => simp [intOf]; omega
        · obtain ⟨k, hk, hpk, hk64, hf, hcl, hls⟩ := Bs.rest_step h0
          have hnz : ((Bs.rest f i p : Int) != 0) = true := by simp; omega
          have hc1 := Bs.clear_i f i p h0
          have hc2 := Bs.clear_i' f i p h0
          rw [hcl] at hc1 hc2
          have C := fun u (h : Below w.heap.size w u) => tzB_any (Bs.rest f i p) h0 (Bs.rest_lt f i p) u (HT.out.up h)
          rw [hk] at C
          have HC := Lib.hid C
          have HLS := Lib.hid hls
          have hle := Bs.lst_le f (64 * i + p)
          clear C hls hcl hk h0 hf
          have A := Bs.below1 wr (.cells #[.int .u8 ((64 * i + k : Nat) : Int)] 5)
          have R1 := R.up A
          have B1 := Bs.below_up B A
          have hbs : w.heap.size + 1 ≤ (wr.alloc (.cells #[.int .u8 ((64 * i + k : Nat) : Int)] 5)).heap.size := Nat.le_trans hsz A.size
          have nw : ∀ j u, [Value.int .u8 ((64 * i + k : Nat) : Int)][j]? = some u → (wr.alloc (.cells #[.int .u8 ((64 * i + k : Nat) : Int)] 5)).cell? ((⟨wr.heap.size, 0, none⟩ : Addr).add j) = some u := World.news_of_block (cs := #[.int .u8 ((64 * i + k : Nat) : Int)]) (t := 5) (fr := (0, 0)) (heap_alloc_new wr _)
          have hcast : ((64 * i + k : Nat) : Int) = 64 * (i : Int) + (k : Int) := by simp
          rw [hcast] at A R1 B1 hbs nw
          go_wp2_with fail
          refine (HC.out _ B).mono ?_
          rintro e v ⟨rfl, rfl⟩
          go_wp2_with (at_builtin; refine wpList_append_own _ rfl _ _ 22 rfl (w.heap.size + 1) 5 iI _ 1 1 Tryd.underlying22 hiI hz0 hz1 hz2 rfl (by decide) _ _ _ rfl R1 ⟨wr.heap.size, 0, none⟩ 1 1 [.int .u8 (64 * (i : Int) + (k : Int))] rfl rfl nw (by simp [Value.oneCell']) (by unfold maxLen; omega) (by omega) hbs ?_; intro v7 w4 o7 g7 n7)
          have hg : (wr.alloc (.cells #[.int .u8 (64 * (i : Int) + (k : Int))] 5)).grownBy w4 u3.ownBlock := g7
          clear g7 n7
          go_roundg (63 - k)
          case measure => omega
          case rel =>
            refine ⟨k + 1, by omega, rfl, ?_, Nat.le_trans hbs hg.size, B1.grown hg B1.size (fun j hj => by have := (R1.lt j hj).1; omega)⟩
            unfold Bs.IsB
            rw [HLS.out, Bs.byts_snoc, List.length_append, hcast]
            exact o7
    · obtain rfl : i = 4 := by omega
      go_wp2_with fail
      go_ret
      exact ⟨_, rfl, R, B⟩
end Go.Proofs.YtaaialodlibhaaaDoor
