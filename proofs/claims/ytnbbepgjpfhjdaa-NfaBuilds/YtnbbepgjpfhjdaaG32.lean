/- An expression that comes in, opened to its tree. Rows of expressions, and fronts, that come in, opened. -/
import Derived.Test.YtnbbepgjpfhjdaaG3
import Derived.Deep.Slices
import Derived.ChangeSame
import Derived.OpenShut
import Derived.WideKeyArr2
import Derived.Laws.IdiomArrays
import Derived.Test.YtnbbepgjpfhjdaaG5
namespace Go.Proofs.Ytnbbepgjpfhjdaa
set_option linter.unusedVariables false
set_option linter.unusedSimpArgs false
open Go.ChangeShapes Go.WideShapes Go.Deep Go.RowKit
theorem Rx.add_zero (a : Addr) : a.add 0 = a := by unfold Addr.add; rw [if_pos rfl]
theorem Rx.add_form (a : Addr) (n : Nat) (h : n ≠ 0) : a.add n = ⟨a.block, a.off + n, none⟩ := by unfold Addr.add; rw [if_neg h]
theorem Rx.word_nat {x : Int} (h : (Lit.int .u64 x).wf = true) : ∃ n : Nat, x = n ∧ n < 18446744073709551616 := by
  simp [Lit.wf, IntKind.min, IntKind.max, IntKind.signed, IntKind.bits] at h
  exact ⟨x.toNat, by omega, by omega⟩
theorem Rx.byte_nat {x : Int} (h : (Lit.int .u8 x).wf = true) : ∃ n : Nat, x = n ∧ n < 256 := by
  simp [Lit.wf, IntKind.min, IntKind.max, IntKind.signed, IntKind.bits] at h
  exact ⟨x.toNat, by omega, by omega⟩
theorem Rx.reg_cells : Try.prog.cellsOf 54 = 6 := by kernel_rfl
theorem Rx.one_byte : Try.prog.cellsOf 5 = 1 := by kernel_rfl
theorem Rx.set_cells : Try.prog.cellsOf 44 = 4 := by kernel_rfl
theorem Rx.one_row : Try.prog.cellsOf 22 = 1 := by kernel_rfl
/-- four cells that read as a set are a set's words -/
theorem Rx.set_open {H : Type} {enc : TypeId × Value → H} {W : World} {base : Nat} {spare : Nat → Bool} {held : Bool} {fuel : Nat} {v0 v1 v2 v3 : Value} {x : DataW H × List MemPlace}
    (h : DataW.trod enc Try.prog W base spare held fuel 44 [v0, v1, v2, v3] = some x) : ∃ f : Nat → Bool, v0 = .int .u64 (Bs.word f 0) ∧ v1 = .int .u64 (Bs.word f 1) ∧ v2 = .int .u64 (Bs.word f 2) ∧ v3 = .int .u64 (Bs.word f 3) := by
  obtain ⟨y0, y1, y2, y3, n, _, g0, g1, g2, g3⟩ := trod_array4 Try.underlying44 Bs.arrKey.one h
  obtain ⟨k0, e0, _, w0⟩ := DataW.trod_int Try.underlying42 g0
  obtain ⟨k1, e1, _, w1⟩ := DataW.trod_int Try.underlying42 g1
  obtain ⟨k2, e2, _, w2⟩ := DataW.trod_int Try.underlying42 g2
  obtain ⟨k3, e3, _, w3⟩ := DataW.trod_int Try.underlying42 g3
  simp at e0 e1 e2 e3
  obtain ⟨n0, rfl, l0⟩ := Rx.word_nat w0
  obtain ⟨n1, rfl, l1⟩ := Rx.word_nat w1
  obtain ⟨n2, rfl, l2⟩ := Rx.word_nat w2
  obtain ⟨n3, rfl, l3⟩ := Rx.word_nat w3
  obtain ⟨f, rfl, rfl, rfl, rfl⟩ := Bs.of_words n0 n1 n2 n3 l0 l1 l2 l3
  exact ⟨f, e0, e1, e2, e3⟩
set_option maxRecDepth 100000 in
/-- six cells that read as an expression are one's -/
theorem Rx.reg_open {H : Type} {enc : TypeId × Value → H} {W : World} {base : Nat} {spare : Nat → Bool} {held : Bool} : ∀ (fuel : Nat) (cs : List Value) (x : DataW H × List MemPlace), DataW.trod enc Try.prog W base spare held fuel 54 cs = some x →
    ∃ (y : Rx) (k : Nat) (f : Nat → Bool) (a : Option Addr) (n cap : Nat), cs = [.int .u8 k, .int .u64 (Bs.word f 0), .int .u64 (Bs.word f 1), .int .u64 (Bs.word f 2), .int .u64 (Bs.word f 3), .slice a n cap] ∧ Rx.Is W y (Rx.hdr k f a n cap) := by
  intro fuel
  induction fuel using Nat.strongRecOn with
  | _ fuel ih =>
    intro cs x h
    obtain ⟨ys, n', hfu, _, hcl, hyl, hf⟩ := DataW.trod_struct Try.underlying54 h
    rw [Rx.reg_cells] at hcl
    match cs, hcl with
    | [v0, v1, v2, v3, v4, v5], _ =>
      have hy : ys.length = 3 := hyl
      have g0 := hf 0 _ rfl
      change DataW.trod enc Try.prog W base spare held n' 5 (([v0, v1, v2, v3, v4, v5].drop 0).take (Try.prog.cellsOf 5)) = _ at g0
      rw [Rx.one_byte, List.getElem?_eq_getElem (by omega)] at g0
      have g1 := hf 1 _ rfl
      change DataW.trod enc Try.prog W base spare held n' 44 (([v0, v1, v2, v3, v4, v5].drop 1).take (Try.prog.cellsOf 44)) = _ at g1
      rw [Rx.set_cells, List.getElem?_eq_getElem (by omega)] at g1
      have g2 := hf 2 _ rfl
      change DataW.trod enc Try.prog W base spare held n' 22 (([v0, v1, v2, v3, v4, v5].drop 5).take (Try.prog.cellsOf 22)) = _ at g2
      rw [Rx.one_row, List.getElem?_eq_getElem (by omega)] at g2
      obtain ⟨k0, e0, _, w0⟩ := DataW.trod_int Try.underlying5 g0
      simp at e0
      subst e0
      obtain ⟨k, rfl, hk⟩ := Rx.byte_nat w0
      obtain ⟨f, rfl, rfl, rfl, rfl⟩ := Rx.set_open g1
      rcases DataW.trod_slice Try.underlying22 g2 with ⟨hcs, _⟩ | ⟨b, len, cap, elems, rest, n2, hfu2, hcs, _, _, hl, hm, hlen, hel, _, _⟩
      · simp at hcs
        subst hcs
        exact ⟨.node k f [], k, f, none, 0, 0, rfl, hk, none, 0, rfl, by simp [Rx.InL]⟩
      · simp at hcs
        subst hcs
        have key : ∀ i, ∃ y : Rx, i < len → Rx.In W y (b.add (i * 6)) := by
          intro i
          by_cases hil : i < len
          · have he := hel i hil
            rw [Rx.reg_cells, List.getElem?_eq_getElem (by omega)] at he
            obtain ⟨cs', hc, ht⟩ := Option.bind_eq_some_iff.1 he
            obtain ⟨y, k1, f1, a1, n1, cap1, hcs', hy1⟩ := ih n2 (by omega) cs' _ ht
            subst hcs'
            obtain ⟨_, _, hat⟩ := World.cells?_some hc
            have a0 := hat 0 (by decide)
            rw [Rx.add_zero] at a0
            have q1 := hat 1 (by decide)
            have q2 := hat 2 (by decide)
            have q3 := hat 3 (by decide)
            have q4 := hat 4 (by decide)
            have q5 := hat 5 (by decide)
            rw [Rx.add_form _ _ (by decide)] at q1 q2 q3 q4 q5
            refine ⟨y, fun _ => ?_⟩
            obtain ⟨k2, f2, l2⟩ := y
            obtain ⟨hk2, a2, cap2, e2, hl2⟩ := hy1
            simp only [Rx.In]
            refine ⟨hk2, a2, cap2, ?_, hl2⟩
            simp only [Rx.hdr, Value.agg.injEq] at e2
            simp at e2
            obtain ⟨e3, e4, e5, e6, e7, e8, e9, e10⟩ := e2
            refine ⟨?_, ?_, ?_, ?_, ?_, ?_⟩
            · rw [a0]; simp [e3]
            · rw [q1]; simp [e4]
            · rw [q2]; simp [e5]
            · rw [q3]; simp [e6]
            · rw [q4]; simp [e7]
            · rw [q5]; simp [e8, e9, e10]
          · exact ⟨Rx.nil, fun h => absurd h hil⟩
        obtain ⟨os, hos⟩ := Classical.skolem.1 key
        refine ⟨.node k f (List.ofFn (fun i : Fin len => os i)), k, f, some b, len, cap, rfl, hk, some b, cap, by simp, ?_⟩
        refine Rx.InL.of fun j hj => ?_
        have hjl : j < len := by simpa using hj
        refine ⟨b, rfl, ?_⟩
        rw [List.getElem_ofFn, Nat.zero_add]
        exact hos j hjl
end Go.Proofs.Ytnbbepgjpfhjdaa
namespace Go.Proofs.Ytnbbepgjpfhjdaa
set_option linter.unusedVariables false
set_option linter.unusedSimpArgs false
open Go.ChangeShapes Go.WideShapes Go.Deep Go.RowKit
set_option maxRecDepth 100000 in
/-- a slice that reads as expressions is one of some -/
theorem Rx.regs_open {H : Type} {enc : TypeId × Value → H} {W : World} {base : Nat} {spare : Nat → Bool} {held : Bool} {fuel : Nat} {a : Option Addr} {len cap : Nat} {x : DataW H × List MemPlace}
    (h : DataW.trod enc Try.prog W base spare held fuel 22 [.slice a len cap] = some x) : ∃ l : List Rx, l.length = len ∧ len ≤ maxLen ∧ Rx.InL W l a 0 := by
  rcases DataW.trod_slice Try.underlying22 h with ⟨hcs, _⟩ | ⟨b, len, cap, elems, rest, n2, hfu2, hcs, _, _, hl, hm, hlen, hel, _, _⟩
  · simp at hcs
    obtain ⟨rfl, rfl, rfl⟩ := hcs
    exact ⟨[], rfl, by unfold maxLen; omega, by simp [Rx.InL]⟩
  · simp at hcs
    obtain ⟨rfl, rfl, rfl⟩ := hcs
    have key : ∀ i, ∃ y : Rx, i < len → Rx.In W y (b.add (i * 6)) := by
      intro i
      by_cases hil : i < len
      · have he := hel i hil
        rw [Rx.reg_cells, List.getElem?_eq_getElem (by omega)] at he
        obtain ⟨cs', hc, ht⟩ := Option.bind_eq_some_iff.1 he
        obtain ⟨y, k1, f1, a1, n1, cap1, hcs', hy1⟩ := Rx.reg_open n2 cs' _ ht
        subst hcs'
        obtain ⟨_, _, hat⟩ := World.cells?_some hc
        have a0 := hat 0 (by decide)
        rw [Rx.add_zero] at a0
        have q1 := hat 1 (by decide)
        have q2 := hat 2 (by decide)
        have q3 := hat 3 (by decide)
        have q4 := hat 4 (by decide)
        have q5 := hat 5 (by decide)
        rw [Rx.add_form _ _ (by decide)] at q1 q2 q3 q4 q5
        refine ⟨y, fun _ => ?_⟩
        obtain ⟨k2, f2, l2⟩ := y
        obtain ⟨hk2, a2, cap2, e2, hl2⟩ := hy1
        simp only [Rx.In]
        refine ⟨hk2, a2, cap2, ?_, hl2⟩
        simp only [Rx.hdr, Value.agg.injEq] at e2
        simp at e2
        obtain ⟨e3, e4, e5, e6, e7, e8, e9, e10⟩ := e2
        refine ⟨?_, ?_, ?_, ?_, ?_, ?_⟩
        · rw [a0]; simp [e3]
        · rw [q1]; simp [e4]
        · rw [q2]; simp [e5]
        · rw [q3]; simp [e6]
        · rw [q4]; simp [e7]
        · rw [q5]; simp [e8, e9, e10]
      · exact ⟨Rx.nil, fun h => absurd h hil⟩
    obtain ⟨os, hos⟩ := Classical.skolem.1 key
    refine ⟨List.ofFn (fun i : Fin len => os i), by simp, Nat.le_trans hl hm, ?_⟩
    refine Rx.InL.of fun j hj => ?_
    have hjl : j < len := by simpa using hj
    refine ⟨b, rfl, ?_⟩
    rw [List.getElem_ofFn, Nat.zero_add]
    exact hos j hjl
theorem Nf.front_cells : Try.prog.cellsOf 37 = 2 := by kernel_rfl
end Go.Proofs.Ytnbbepgjpfhjdaa
