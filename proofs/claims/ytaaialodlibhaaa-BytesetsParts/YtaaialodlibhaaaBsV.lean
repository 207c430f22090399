/- Sets, and slices of sets, that come in, opened to their cells. -/
import Derived.Test.YtaaialodlibhaaaBsG
import Derived.Deep.Slices
import Derived.ChangeSame
import Derived.OpenShut
import Derived.WideKeyArr2
import Derived.Laws.IdiomArrays
namespace Go.Proofs.Ytaaialodlibhaaa
set_option linter.unusedVariables false
set_option linter.unusedSimpArgs false
open Go.ChangeShapes Go.WideShapes Go.Deep Go.RowKit
theorem Bs.add_zero (a : Addr) : a.add 0 = a := by unfold Addr.add; rw [if_pos rfl]
theorem Bs.add_form (a : Addr) (n : Nat) (h : n ≠ 0) : a.add n = ⟨a.block, a.off + n, none⟩ := by unfold Addr.add; rw [if_neg h]
theorem Bs.set_cells : Try.prog.cellsOf 25 = 4 := by kernel_rfl
theorem Bs.word_nat {x : Int} (h : (Lit.int .u64 x).wf = true) : ∃ n : Nat, x = n ∧ n < 18446744073709551616 := by
  simp [Lit.wf, IntKind.min, IntKind.max, IntKind.signed, IntKind.bits] at h
  exact ⟨x.toNat, by omega, by omega⟩
theorem Bs.byte_nat {x : Int} (h : (Lit.int .u8 x).wf = true) : ∃ n : Nat, x = n ∧ n < 256 := by
  simp [Lit.wf, IntKind.min, IntKind.max, IntKind.signed, IntKind.bits] at h
  exact ⟨x.toNat, by omega, by omega⟩
/-- four cells that read as a set are a set's words -/
theorem Bs.set_open {H : Type} {enc : TypeId × Value → H} {W : World} {base : Nat} {spare : Nat → Bool} {held : Bool} {fuel : Nat} {v0 v1 v2 v3 : Value} {x : DataW H × List MemPlace}
    (h : DataW.trod enc Try.prog W base spare held fuel 25 [v0, v1, v2, v3] = some x) : ∃ f : Nat → Bool, v0 = .int .u64 (Bs.word f 0) ∧ v1 = .int .u64 (Bs.word f 1) ∧ v2 = .int .u64 (Bs.word f 2) ∧ v3 = .int .u64 (Bs.word f 3) := by
  obtain ⟨y0, y1, y2, y3, n, _, g0, g1, g2, g3⟩ := trod_array4 Try.underlying25 Bs.arrKey.one h
  obtain ⟨k0, e0, _, w0⟩ := DataW.trod_int Try.underlying23 g0
  obtain ⟨k1, e1, _, w1⟩ := DataW.trod_int Try.underlying23 g1
  obtain ⟨k2, e2, _, w2⟩ := DataW.trod_int Try.underlying23 g2
  obtain ⟨k3, e3, _, w3⟩ := DataW.trod_int Try.underlying23 g3
  simp at e0 e1 e2 e3
  obtain ⟨n0, rfl, l0⟩ := Bs.word_nat w0
  obtain ⟨n1, rfl, l1⟩ := Bs.word_nat w1
  obtain ⟨n2, rfl, l2⟩ := Bs.word_nat w2
  obtain ⟨n3, rfl, l3⟩ := Bs.word_nat w3
  obtain ⟨f, rfl, rfl, rfl, rfl⟩ := Bs.of_words n0 n1 n2 n3 l0 l1 l2 l3
  exact ⟨f, e0, e1, e2, e3⟩
/-- a set that comes in by value -/
theorem Bs.arr_open {H : Type} {enc : TypeId × Value → H} {W W' : World} {r : Reach} {b0 base : Nat} {spare : Nat → Bool} {held : Bool} {v : Value} {d : DataW H} {ps : List MemPlace}
    (hv : Value.okWide Try.prog W' r b0 25 v) (h : DataW.Trod enc Try.prog W base spare held 25 v d ps) : ∃ f : Nat → Bool, v = Bs.val f := by
  obtain ⟨xs, rfl, hxs⟩ := WideMaps.okWide_arr Bs.arrKey hv
  obtain ⟨fuel, hf⟩ := h
  have e : (Value.agg xs).cells.toList = xs.toList := rfl
  rw [e] at hf
  have hl : xs.toList.length = 4 := by simpa using hxs
  obtain ⟨l, hl2⟩ : ∃ l, l = xs.toList := ⟨_, rfl⟩
  rw [← hl2] at hf hl
  match l, hl, hl2 with
  | [c0, c1, c2, c3], _, hl2 =>
    obtain ⟨f, rfl, rfl, rfl, rfl⟩ := Bs.set_open hf
    refine ⟨f, ?_⟩
    unfold Bs.val
    congr 1
    apply Array.ext'
    rw [← hl2]
/-- what is known of a slice of sets that came in -/
def Bs.IsSets (W : World) (a : Option Addr) (len : Nat) (fs : List (Nat → Bool)) : Prop := fs.length = len ∧ Bs.Row W a fs ∧ fs.length ≤ maxLen
set_option maxRecDepth 100000 in
theorem Bs.sets_open {H : Type} {enc : TypeId × Value → H} {W : World} {base : Nat} {spare : Nat → Bool} {held : Bool} {fuel : Nat} {a : Option Addr} {len cap : Nat} {x : DataW H × List MemPlace}
    (h : DataW.trod enc Try.prog W base spare held fuel 22 (Value.slice a len cap).cells.toList = some x) : ∃ fs, Bs.IsSets W a len fs := by
  rcases open_slice Try.underlying22 h with ⟨hcs, _⟩ | ⟨b, l, c, m, n, D, Pl, hcs, _, hl, hm, hmm, _, hi⟩
  · simp [Value.cells] at hcs
    obtain ⟨rfl, rfl, rfl⟩ := hcs
    exact ⟨[], rfl, fun i hi => by simp at hi, Nat.zero_le _⟩
  · simp [Value.cells] at hcs
    obtain ⟨rfl, rfl, rfl⟩ := hcs
    have hlm : len ≤ m := by rw [hmm]; split <;> omega
    have key : ∀ i, ∃ f : Nat → Bool, i < len → Bs.At W (b.add (i * 4)) f := by
      intro i
      by_cases hil : i < len
      · obtain ⟨cs, hc, ht⟩ := hi i (by omega)
        rw [Bs.set_cells] at hc
        obtain ⟨_, hcl, hat⟩ := World.cells?_some hc
        match cs, hcl with
        | [v0, v1, v2, v3], _ =>
          obtain ⟨f, rfl, rfl, rfl, rfl⟩ := Bs.set_open ht
          have a0 := hat 0 (by decide)
          rw [Bs.add_zero] at a0
          have a1 := hat 1 (by decide)
          have a2 := hat 2 (by decide)
          have a3 := hat 3 (by decide)
          rw [Bs.add_form _ _ (by decide)] at a1 a2 a3
          exact ⟨f, fun _ => ⟨a0, a1, a2, a3⟩⟩
      · exact ⟨fun _ => false, fun h => absurd h hil⟩
    obtain ⟨os, hos⟩ := Classical.skolem.1 key
    refine ⟨List.ofFn (fun i : Fin len => os i), by simp, fun i hi => ?_, by simp; omega⟩
    have hil : i < len := by simpa using hi
    refine ⟨b, rfl, ?_⟩
    rw [List.getElem_ofFn]
    exact hos i hil
end Go.Proofs.Ytaaialodlibhaaa
