/- What the document's Classes answers, walked. -/
import Derived.Test.YtaaialodlibhaaaBsI
import Derived.Laws.AppendOwn
import Derived.OwnWalk
import Derived.Deep.AppendLies
namespace Go.Proofs.Ytaaialodlibhaaa
set_option linter.unusedVariables false
set_option linter.unusedSimpArgs false
open Go.RowKit
theorem Bs.grown_of_below {w w' : World} (h : Below w.heap.size w w') : w.grownBy w' none := ⟨h.os, h.tape, h.output, h.size, fun k hk _ => h.block k hk⟩
theorem Bs.row_up {w w' : World} {base : Nat} {e : TypeId} {size : Nat} {v : Value} {n : Nat} {xs : List Value} (h : w.ownsRow base e size v n xs) (hb : Below w.heap.size w w') : w'.ownsRow base e size v n xs := by
  refine h.kept (Bs.grown_of_below hb) ?_
  cases v.ownBlock
  · exact .inl rfl
  · exact .inr (by simp)
theorem Bs.row_cell {w : World} {base : Nat} {e : TypeId} {v : Value} {n : Nat} {xs : List Value} (h : w.ownsRow base e 1 v n xs) (hn : 0 < n) : ∃ g cap, v = .slice (some ⟨g, 0, none⟩) n cap ∧ base ≤ g ∧ g < w.heap.size ∧ n ≤ cap ∧ ∀ j u, xs[j]? = some u → w.cell? ⟨g, j, none⟩ = some u := by
  have h' := h
  rcases h'.2 with ⟨_, h0⟩ | ⟨g, cap, cur, hv, hb, hh, hc, _, _, _⟩
  · omega
  · have hlt := h.lt g (by rw [hv]; rfl)
    refine ⟨g, cap, hv, hb, hlt.2, hc, fun j u hu => ?_⟩
    have := h.cells (g := g) (by rw [hv]; rfl) j u hu
    unfold Addr.add at this
    split at this
    · rename_i hj; subst hj; exact this
    · simpa using this
/-- the classes of the first c bytes, as values -/
def Bs.vals (fs : List (Nat → Bool)) (c : Nat) : List Value := (List.range c).map fun d => .int .i64 (Bs.kls fs d)
theorem Bs.vals_succ (fs : List (Nat → Bool)) (c : Nat) : Bs.vals fs (c + 1) = Bs.vals fs c ++ [.int .i64 (Bs.kls fs c)] := by simp [Bs.vals, List.range_succ]
theorem Bs.vals_at (fs : List (Nat → Bool)) {c d : Nat} (h : d < c) : (Bs.vals fs c)[d]? = some (.int .i64 (Bs.kls fs d)) := by simp [Bs.vals, h]
/-- a row of classes of one's own -/
structure Bs.Own (w : World) (fs : List (Nat → Bool)) (c : Nat) (v : Value) (wr : World) : Prop where
  row : wr.ownsRow w.heap.size 3 1 v c (Bs.vals fs c)
  bel : Below w.heap.size w wr
theorem Bs.Own.up {w wr wx : World} {fs : List (Nat → Bool)} {c : Nat} {v : Value} (h : Bs.Own w fs c v wr) (hb : Below wr.heap.size wr wx) : Bs.Own w fs c v wx := ⟨Bs.row_up h.row hb, Bs.below_up h.bel hb⟩
theorem Bs.Own.at {w wr : World} {fs : List (Nat → Bool)} {c d : Nat} {v : Value} (h : Bs.Own w fs c v wr) (hd : d < c) : ∃ g cap, v = .slice (some ⟨g, 0, none⟩) c cap ∧ wr.cell? ⟨g, d, none⟩ = some (.int .i64 (Bs.kls fs d)) := by
  obtain ⟨g, cap, h1, _, _, _, h5⟩ := Bs.row_cell h.row (by omega)
  exact ⟨g, cap, h1, h5 d _ (Bs.vals_at fs hd)⟩
/-- what the inner loop knows -/
def Bs.Seek (fs : List (Nat → Bool)) (c d : Nat) (k : Int) : Prop := (k = -1 ∧ ∀ e, e < d → Bs.alike fs c e = false) ∨ (∃ e, e < c ∧ Bs.alike fs c e = true ∧ k = Bs.kls fs e)
/-- what is answered -/
def Bs.RPost (w : World) (fs : List (Nat → Bool)) (e : Ending) (w' : World) : Prop :=
  ∃ g cap, e = .returned (.tuple #[.slice (some ⟨g, 0, none⟩) 256 cap, .int .i64 (Bs.ncl fs 256)]) ∧ (∀ c, c < 256 → w'.cell? ⟨g, c, none⟩ = some (.int .i64 (Bs.kls fs c))) ∧ 256 ≤ cap ∧ Below w.heap.size w w'
theorem Bs.infoInt : (Try.prog.info? 3).map (fun i => (i.zero, i.size, i.bytes)) = some (some (.int .i64 0), 1, 8) := by kernel_rfl
set_option maxRecDepth 100000 in
set_option maxHeartbeats 2000000 in
theorem refClasses_any (a : Option Addr) (fs : List (Nat → Bool)) (cap : Nat) (w : World) (hR : Bs.Row w a fs) (hn : fs.length ≤ 1000000) :
    Calls Try.prog 13 #[.slice a fs.length cap] w (Bs.RPost w fs) := by
  have HR := Lib.hid hR; clear hR
  obtain ⟨iI, hiI, hz0, hz1, hz2⟩ := info_parts Bs.infoInt
  go_enter Try.func13, Try.ntmps13
  go_wp2_with fail
  go_loopw [4, 5, 6] (fun v n i wr => ∃ c : Nat, c ≤ 256 ∧ i = .int .i64 c ∧ n = .int .i64 (Bs.ncl fs c : Nat) ∧ Bs.Own w fs c v wr) (fun _ _ i _ => 256 - (intOf i).toNat)
  case atStart => exact ⟨0, by omega, rfl, rfl, ⟨World.ownsRow_nil _ _ _ _, Below.refl _ _⟩⟩
  case round =>
    obtain ⟨c, hc, rfl, rfl, O⟩ := hrel
    have hle := Bs.ncl_le fs c
    by_cases hlt : c < 256
    · have hd : decide ((c : Int) < 256) = true := decide_eq_true (by omega)
      go_wp2_with fail
      go_loopw [7, 8] (fun k i wr => ∃ (d : Nat) (k' : Int), d ≤ c ∧ k = .int .i64 k' ∧ i = .int .i64 d ∧ Bs.Seek fs c d k' ∧ Bs.Own w fs c u4 wr) (fun k i _ => c - (intOf i).toNat)
      case atStart => exact ⟨0, -1, by omega, rfl, rfl, .inl ⟨rfl, fun e he => by omega⟩, O⟩
      case round =>
        clear O
        obtain ⟨d, k', hdc, rfl, rfl, hS, O⟩ := hrel
        rcases hS with ⟨rfl, hS⟩ | ⟨e, he, ha, rfl⟩
        · have HS := Lib.hid hS; clear hS
          by_cases hdl : d < c
          · have hd1 : decide ((d : Int) < (c : Int)) = true := decide_eq_true (by omega)
            have hd2 : decide (d < c) = true := decide_eq_true (by omega)
            go_wp2_with fail
            refine (refAlike_any a fs cap c d _ hlt (by omega) (HR.out.up O.bel) hn).mono ?_
            rintro e v ⟨rfl, hb⟩
            replace O := O.up hb
            clear hb
            rcases Bool.eq_false_or_eq_true (Bs.alike fs c d) with hq | hq
            · obtain ⟨g, cap', rfl, hcell⟩ := O.at hdl
              have hkl := Bs.kls_le fs d
              go_wp2_with fail
              go_roundw
              case rel => exact ⟨d + 1, _, by omega, rfl, by go_num, .inr ⟨d, hdl, hq, rfl⟩, O⟩
              case measure => simp [intOf]; omega
            · go_wp2_with fail
              go_roundw
              case rel =>
                refine ⟨d + 1, -1, by omega, rfl, by go_num, .inl ⟨rfl, fun e he => ?_⟩, O⟩
                by_cases hed : e = d
                · rw [hed]; exact hq
                · exact HS.out e (by omega)
              case measure => simp [intOf]; omega
          · have hd1 : decide ((d : Int) < (c : Int)) = false := decide_eq_false (by omega)
            have hd2 : decide (d < c) = false := decide_eq_false (by omega)
            obtain rfl : d = c := by omega
            obtain ⟨hk1, hk2⟩ := Bs.kls_new HS.out
            have HK1 := Lib.hid hk1; have HK2 := Lib.hid hk2; clear hk1 hk2
            have R1 := (O.up (Bs.below1 wr (.cells #[.int .i64 ↑(Bs.ncl fs d)] 3))).row
            have B1 := (O.up (Bs.below1 wr (.cells #[.int .i64 ↑(Bs.ncl fs d)] 3))).bel
            have nw : ∀ j u, [Value.int .i64 ↑(Bs.ncl fs d)][j]? = some u → (wr.alloc (.cells #[.int .i64 ↑(Bs.ncl fs d)] 3)).cell? ((⟨wr.heap.size, 0, none⟩ : Addr).add j) = some u := World.news_of_block (cs := #[.int .i64 ↑(Bs.ncl fs d)]) (t := 3) (fr := (0, 0)) (heap_alloc_new wr _)
            go_wp2_with (at_builtin; refine wpList_append_own _ rfl _ _ 35 rfl w.heap.size 3 iI _ 1 8 Try.underlying35 hiI hz0 hz1 hz2 rfl (by decide) _ _ _ rfl R1 ⟨wr.heap.size, 0, none⟩ 1 1 [.int .i64 ↑(Bs.ncl fs d)] rfl rfl nw (by simp [Value.oneCell']) (by unfold maxLen; omega) (by omega) B1.size ?_; intro v7 w4 o7 g7 n7)
            have hg : (wr.alloc (.cells #[.int .i64 ↑(Bs.ncl fs d)] 3)).grownBy w4 u4.ownBlock := g7
            clear g7 n7
            go_roundw
            case rel =>
              refine ⟨d + 1, by omega, by go_num, by rw [HK2.out]; go_num, ⟨?_, B1.grown hg B1.size (fun k hk => (R1.lt k hk).1)⟩⟩
              rw [Bs.vals_succ, HK1.out]
              exact o7
            case measure => simp [intOf]; omega
        · obtain ⟨hk1, hk2⟩ := Bs.kls_old he ha
          have HK1 := Lib.hid hk1; have HK2 := Lib.hid hk2; clear hk1 hk2
          have hkn : decide ((Bs.kls fs e : Int) < 0) = false := decide_eq_false (by omega)
          have R1 := (O.up (Bs.below1 wr (.cells #[.int .i64 ↑(Bs.kls fs e)] 3))).row
          have B1 := (O.up (Bs.below1 wr (.cells #[.int .i64 ↑(Bs.kls fs e)] 3))).bel
          have nw : ∀ j u, [Value.int .i64 ↑(Bs.kls fs e)][j]? = some u → (wr.alloc (.cells #[.int .i64 ↑(Bs.kls fs e)] 3)).cell? ((⟨wr.heap.size, 0, none⟩ : Addr).add j) = some u := World.news_of_block (cs := #[.int .i64 ↑(Bs.kls fs e)]) (t := 3) (fr := (0, 0)) (heap_alloc_new wr _)
          by_cases hdl : d < c
          all_goals
            first
              | (have hd1 : decide ((d : Int) < (c : Int)) = true := decide_eq_true (by omega); have hd2 : decide (d < c) = true := decide_eq_true (by omega))
              | (have hd1 : decide ((d : Int) < (c : Int)) = false := decide_eq_false (by omega); have hd2 : decide (d < c) = false := decide_eq_false (by omega))
            go_wp2_with (at_builtin; refine wpList_append_own _ rfl _ _ 35 rfl w.heap.size 3 iI _ 1 8 Try.underlying35 hiI hz0 hz1 hz2 rfl (by decide) _ _ _ rfl R1 ⟨wr.heap.size, 0, none⟩ 1 1 [.int .i64 ↑(Bs.kls fs e)] rfl rfl nw (by simp [Value.oneCell']) (by unfold maxLen; omega) (by omega) B1.size ?_; intro v7 w4 o7 g7 n7)
            have hg : (wr.alloc (.cells #[.int .i64 ↑(Bs.kls fs e)] 3)).grownBy w4 u4.ownBlock := g7
            clear g7 n7
            go_roundw
            case rel =>
              refine ⟨c + 1, by omega, by go_num, by rw [HK2.out], ⟨?_, B1.grown hg B1.size (fun k hk => (R1.lt k hk).1)⟩⟩
              rw [Bs.vals_succ, HK1.out]
              exact o7
            case measure => simp [intOf]; omega
    · obtain rfl : c = 256 := by omega
      obtain ⟨g, cap', rfl, _, _, hcap, hcells⟩ := Bs.row_cell O.row (by omega)
      have HC := Lib.hid hcells; clear hcells
      have B := O.bel
      clear O hlt hc
      go_wp2_with fail
      go_ret2
      exact ⟨g, cap', rfl, fun c hc => HC.out c _ (Bs.vals_at fs hc), hcap, B⟩
end Go.Proofs.Ytaaialodlibhaaa
