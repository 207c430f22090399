/- Arrays of 256 bytes and maps of sets in memory; what Classes answers, walked. -/
import Derived.Test.YtaaialodlibhaaaDoorBsE
import Derived.Maps.OwnSet
import Derived.DeepKeys4
import Derived.WideKeyPair
import Derived.Deep.WholeRow
import Derived.Laws.ResultCell
namespace Go.Proofs.YtaaialodlibhaaaDoor
set_option linter.unusedVariables false
set_option linter.unusedSimpArgs false
open Go.RowKit
open Go.Maps (Keyed)
theorem Bs.laidOut : laidOutB Tryd.prog = true := by kernel_rfl
theorem Bs.rowSet : (26 : TypeId) < Tryd.prog.types.size := of_decide_eq_true (by kernel_rfl)
theorem Bs.wideSet : (match Tryd.prog.underlying 26 with | some (.array _ _) | some (.struct _) => true | _ => false) = true := by rw [Tryd.underlying26]
theorem Bs.keyed : Keyed Tryd.prog 26 := Keyed.of_law (deep_law_laid Bs.laidOut (m := 2) (by omega) Bs.rowSet (by kernel_rfl) Bs.wideSet)
theorem Bs.arrKey : WideMaps.ArrKey Tryd.prog 26 24 4 := ⟨Tryd.underlying26, by kernel_rfl, by kernel_rfl, by kernel_rfl⟩
/-- the key that a set is told as -/
def Bs.key (f : Nat → Bool) : Lit := .string (keyBytes [.int .u64 (Bs.word f 0), .int .u64 (Bs.word f 1), .int .u64 (Bs.word f 2), .int .u64 (Bs.word f 3)])
theorem Bs.wf_word (f : Nat → Bool) (i : Nat) : (Lit.int .u64 (Bs.word f i)).wf = true := by
  have := Bs.word_lt f i
  simp [Lit.wf, IntKind.min, IntKind.max, IntKind.signed, IntKind.bits]
  omega
theorem Bs.keyOf_val (f : Nat → Bool) : keyOf Tryd.prog 26 (.agg #[.int .u64 (Bs.word f 0), .int .u64 (Bs.word f 1), .int .u64 (Bs.word f 2), .int .u64 (Bs.word f 3)]) = some (Bs.key f) := by
  have A := Bs.arrKey
  have hsz : ∃ m, Tryd.prog.types.size = m + 1 := ⟨Tryd.prog.types.size - 1, (Nat.succ_pred_eq_of_pos (Nat.lt_of_le_of_lt (Nat.zero_le _) Bs.rowSet)).symm⟩
  have hkt := A.keyType hsz
  have he := Tryd.underlying24
  have w0 := Bs.wf_word f 0; have w1 := Bs.wf_word f 1; have w2 := Bs.wf_word f 2; have w3 := Bs.wf_word f 3
  obtain ⟨m, hm⟩ := hsz
  unfold keyOf
  simp only [A.hu]
  rw [if_pos (by simp [hkt, Value.formed, A.hu, A.size]), hm]
  unfold Program.keyLits
  simp only [A.hu, Value.cells]
  rw [if_pos (by rw [A.size]; rfl), show List.range 4 = [0, 1, 2, 3] from rfl, List.mapM_cons, List.mapM_cons, List.mapM_cons, List.mapM_cons, List.mapM_nil]
  simp [A.one, Program.keyLits, he, w0, w1, w2, w3, Bs.key]
theorem Bs.key_is (f : Nat → Bool) : WideAt.IsKeyLit (Bs.key f) := Bs.keyed.key (Bs.keyOf_val f)
theorem Bs.key_inj {f g : Nat → Bool} (h : Bs.key f = Bs.key g) : Bs.val f = Bs.val g := Bs.keyed.inj (Bs.keyOf_val f) (by rw [h]; exact Bs.keyOf_val g)
theorem Bs.key_congr {f g : Nat → Bool} (h : Bs.val f = Bs.val g) : Bs.key f = Bs.key g := by
  have a := Bs.keyOf_val f
  have b := Bs.keyOf_val g
  unfold Bs.val at h
  rw [h, b] at a
  exact (Option.some.inj a).symm
/-- the key of a byte's class -/
def Bs.kk (fs : List (Nat → Bool)) (c : Nat) : Lit := Bs.key fun d => Bs.alike fs c d
theorem Bs.kk_iff (fs : List (Nat → Bool)) (c d : Nat) (hc : c < 256) (hd : d < 256) : Bs.kk fs c = Bs.kk fs d ↔ Bs.alike fs c d = true := by
  constructor
  · intro h
    have := Bs.val_inj (Bs.key_inj h) d hd
    rw [this]; exact Bs.alike_refl _ _
  · intro h
    refine Bs.key_congr (Bs.val_congr fun e _ => ?_)
    cases h1 : Bs.alike fs c e
    · cases h2 : Bs.alike fs d e
      · rfl
      · rw [Bs.alike_trans h h2] at h1; cases h1
    · exact (Bs.alike_trans (Bs.alike_symm h) h1).symm
/-- what the map has behind c bytes -/
structure Bs.MInv (fs : List (Nat → Bool)) (c : Nat) (D : DataW Unit) : Prop where
  has : ∀ d, d < c → Maps.has D (Bs.kk fs d) = true ∧ ∀ z, D.atKey (Bs.kk fs d) z = .lit (.int .u8 (Bs.kls fs d))
  only : ∀ e, e < 256 → Maps.has D (Bs.kk fs e) = true → ∃ d, d < c ∧ Bs.alike fs e d = true
  size : Maps.size D = Bs.ncl fs c
theorem Bs.minv_zero (fs : List (Nat → Bool)) : Bs.MInv fs 0 (.map []) := ⟨fun d hd => by omega, fun e _ h => by simp [Maps.has_eq] at h, rfl⟩
theorem Bs.MInv.old {fs : List (Nat → Bool)} {c : Nat} {D : DataW Unit} (h : Bs.MInv fs c D) (hc : c < 256) (hh : Maps.has D (Bs.kk fs c) = true) : Bs.MInv fs (c + 1) D ∧ ∀ z, D.atKey (Bs.kk fs c) z = .lit (.int .u8 (Bs.kls fs c)) := by
  obtain ⟨d, hd, ha⟩ := h.only c hc hh
  obtain ⟨k1, k2⟩ := Bs.kls_old hd ha
  have ek := (Bs.kk_iff fs c d hc (by omega)).2 ha
  obtain ⟨_, at1⟩ := h.has d hd
  have at2 : ∀ z, D.atKey (Bs.kk fs c) z = .lit (.int .u8 (Bs.kls fs c)) := fun z => by rw [ek, at1 z, k1]
  refine ⟨⟨fun e he => ?_, fun e he hx => ?_, by rw [h.size, k2]⟩, at2⟩
  · by_cases hec : e = c
    · subst hec; exact ⟨hh, at2⟩
    · exact h.has e (by omega)
  · obtain ⟨d', h1, h2⟩ := h.only e he hx
    exact ⟨d', by omega, h2⟩
theorem Bs.MInv.new {fs : List (Nat → Bool)} {c : Nat} {D : DataW Unit} (h : Bs.MInv fs c D) (ht : Maps.Tidy D) (hc : c < 256) (hh : Maps.has D (Bs.kk fs c) = false) :
    Bs.MInv fs (c + 1) (D.put (Bs.kk fs c) (.lit (.int .u8 (Bs.ncl fs c : Nat)))) ∧ Bs.kls fs c = Bs.ncl fs c := by
  have hne : ∀ d, d < c → Bs.alike fs c d = false := fun d hd => by
    cases ha : Bs.alike fs c d
    · rfl
    · have ek := (Bs.kk_iff fs c d hc (by omega)).2 ha
      rw [ek, (h.has d hd).1] at hh; cases hh
  obtain ⟨k1, k2⟩ := Bs.kls_new hne
  have hk : WideAt.IsKeyLit (Bs.kk fs c) := Bs.key_is _
  refine ⟨⟨fun e he => ?_, fun e he hx => ?_, ?_⟩, k1⟩
  · by_cases hec : e = c
    · subst hec
      exact ⟨Maps.has_put_same ht.isMap hk _, fun z => by rw [Maps.atKey_put_same ht.isMap hk, k1]⟩
    · have hn : Bs.kk fs e ≠ Bs.kk fs c := fun e1 => by
        have := Bs.alike_symm ((Bs.kk_iff fs e c (by omega) hc).1 e1)
        rw [hne e (by omega)] at this; cases this
      obtain ⟨a1, a2⟩ := h.has e (by omega)
      exact ⟨by rw [Maps.has_put_other hn]; exact a1, fun z => by rw [Maps.atKey_put_other hn]; exact a2 z⟩
  · by_cases hn : Bs.kk fs e = Bs.kk fs c
    · exact ⟨c, by omega, (Bs.kk_iff fs e c he hc).1 hn⟩
    · rw [Maps.has_put_other hn] at hx
      obtain ⟨d, h1, h2⟩ := h.only e he hx
      exact ⟨d, by omega, h2⟩
  · rw [Maps.size_put ht, hh, h.size, k2]; simp
/-- an array of 256 bytes -/
def Bs.arr (g : Nat → Nat) : Array Value := Array.ofFn (n := 256) fun i => .int .u8 (g i)
theorem Bs.arr_size (g : Nat → Nat) : (Bs.arr g).size = 256 := by simp [Bs.arr]
theorem Bs.arr_at (g : Nat → Nat) (c : Nat) (hc : c < 256) : (Bs.arr g)[c]? = some (.int .u8 (g c)) := by
  unfold Bs.arr
  rw [Array.getElem?_ofFn]; simp [hc]
theorem Bs.arr_congr {g h : Nat → Nat} (e : ∀ c, c < 256 → g c = h c) : Bs.arr g = Bs.arr h := by
  unfold Bs.arr; congr 1; funext i; rw [e i i.2]
/-- block b is such an array, and may be written -/
def Bs.Arr (w : World) (b : Nat) (g : Nat → Nat) : Prop := w.heap[b]? = some (.cells (Bs.arr g) 37 (0, 0))
theorem Bs.Arr.lt {w : World} {b : Nat} {g : Nat → Nat} (h : Bs.Arr w b g) : b < w.heap.size := (Array.getElem?_eq_some_iff.1 h).1
theorem Bs.Arr.up {w w1 : World} {b : Nat} {g : Nat → Nat} (h : Bs.Arr w b g) (hb : Below w.heap.size w w1) : Bs.Arr w1 b g := by
  unfold Bs.Arr; rw [hb.block b h.lt]; exact h
theorem Bs.Arr.cell {w : World} {b : Nat} {g : Nat → Nat} (h : Bs.Arr w b g) (c : Nat) (hc : c < 256) : w.cell? ⟨b, c, none⟩ = some (.int .u8 (g c)) := by
  rw [cell_of_row _ _ _ _ _ _ h]; exact Bs.arr_at g c hc
theorem Bs.Arr.frz {w : World} {b : Nat} {g : Nat → Nat} (h : Bs.Arr w b g) (c : Nat) : w.frozen? ⟨b, c, none⟩ = false := by
  unfold Bs.Arr at h
  simp [World.frozen?, h]
theorem Bs.Arr.put {w : World} {b : Nat} {g : Nat → Nat} (h : Bs.Arr w b g) (c x : Nat) (hc : c < 256) : Bs.Arr (w.setCell ⟨b, c, none⟩ (.int .u8 x)) b (fun d => if d = c then x else g d) := by
  have key : (Bs.arr g).setIfInBounds c (.int .u8 x) = Bs.arr (fun d => if d = c then x else g d) := by
    apply Array.ext_getElem?
    intro i
    by_cases hi : i < 256
    · rw [Bs.arr_at _ i hi]
      by_cases hic : i = c
      · subst hic
        rw [Array.getElem?_setIfInBounds_self_of_lt (by rw [Bs.arr_size]; exact hi)]
        simp
      · rw [Array.getElem?_setIfInBounds_ne (Ne.symm hic), Bs.arr_at g i hi]
        simp [hic]
    · rw [Array.getElem?_eq_none (by rw [Array.size_setIfInBounds, Bs.arr_size]; omega), Array.getElem?_eq_none (by rw [Bs.arr_size]; omega)]
  unfold Bs.Arr
  rw [setCell_eq_setRow _ _ _ _ _ _ _ h, setRow_heap _ _ _ _ _ _ h, key]
theorem Bs.Arr.far {w : World} {b d i : Nat} {g : Nat → Nat} (h : Bs.Arr w b g) (hn : d ≠ b) (v : Value) : Bs.Arr (w.setCell ⟨d, i, none⟩ v) b g := by
  unfold Bs.Arr; rw [Below.heap_setCell _ _ _ _ (Ne.symm hn)]; exact h
def Bs.zeros : Array Value := Bs.arr fun _ => 0
theorem Bs.zero256 : (∀ w, (zeroValue 37).run Tryd.prog w = .ok (.agg Bs.zeros) w) ∧ (Tryd.prog.info? 37).map (·.size) = some 256 := zero_of_info (by kernel_rfl)
end Go.Proofs.YtaaialodlibhaaaDoor
