/- What the document's Same answers of the same expression, walked. The document's reader of signs: what see, take and special answer, walked. -/
import Derived.Test.YtigdelfoipcilaaRxA
import Derived.Test.YtigdelfoipcilaaBsL
import Derived.Deep.RegionHeld3
import Derived.Deep.QuietTactic
import Derived.BigQuiet
import Derived.IntWalk
namespace Go.Proofs.Ytigdelfoipcilaa
set_option linter.unusedVariables false
set_option linter.unusedSimpArgs false
open Go.RowKit
theorem Rx.cell_dr {w : World} {a : Addr} {v : Value} (h : w.cell? a = some v) : w.drew.cell? a = some v := h
theorem Rx.below_dr {b : Nat} {w v : World} (h : Below b w v) : Below b w v.drew := h.drew
theorem Rx.Is.dr {w : World} {x : Rx} {v : Value} (h : Rx.Is w x v) : Rx.Is w.drew x v := h.up (Below.refl _ _).drew
theorem Bs.same_refl (f : Nat → Bool) : Bs.same f f = true := Bs.same_iff.2 fun _ _ => rfl
/-- the expression at an address: its cells and its value -/
theorem Rx.In.open {w : World} {x : Rx} {p : Addr} (h : Rx.In w x p) : ∃ k f a n cap, Rx.Cell w p k f a n cap ∧ Rx.Is w x (Rx.hdr k f a n cap) := by
  obtain ⟨k', f', l'⟩ := x
  simp only [Rx.In] at h
  obtain ⟨h1, a', cap', h2, h3⟩ := h
  exact ⟨k', f', a', _, cap', h2, h1, a', cap', rfl, h3⟩
set_option maxRecDepth 100000 in
set_option maxHeartbeats 1000000 in
theorem refSame_any : ∀ (m : Nat) (x : Rx), x.size ≤ m → m ≤ 400 → ∀ (v u : Value) (w : World), Rx.Is w x v → Rx.Is w x u → Calls Try.prog 14 #[v, u] w fun e w' => e = .returned (.bool true) ∧ Below w.heap.size w w' := by
  intro m
  induction m with
  | zero => intro x h; have := x.size_pos; omega
  | succ m ih =>
    rintro ⟨k, f, l⟩ hm hm4 v u w hx hy
    obtain ⟨hk, a, cap, rfl, hl⟩ := hx
    obtain ⟨_, a', cap', rfl, hl'⟩ := hy
    simp only [Rx.size] at hm
    have hle := Rx.length_le l
    have IH := Lib.hid ih; clear ih
    have HL := Lib.hid hl; clear hl
    have HL' := Lib.hid hl'; clear hl'
    obtain ⟨n, hn⟩ : ∃ n, l.length = n := ⟨_, rfl⟩
    have HN := Lib.hid hn
    unfold Rx.hdr
    rw [hn] at hle ⊢
    clear hn
    have C := (Rx.cell_new w k f a n cap 28).up (Bs.below1 _ (.cells #[.int .u8 k, .int .u64 (Bs.word f 0), .int .u64 (Bs.word f 1), .int .u64 (Bs.word f 2), .int .u64 (Bs.word f 3), .slice a' n cap'] 28))
    have C' := Rx.cell_new (w.alloc (.cells #[.int .u8 k, .int .u64 (Bs.word f 0), .int .u64 (Bs.word f 1), .int .u64 (Bs.word f 2), .int .u64 (Bs.word f 3), .slice a n cap] 28)) k f a' n cap' 28
    have eN : (w.alloc (.cells #[.int .u8 k, .int .u64 (Bs.word f 0), .int .u64 (Bs.word f 1), .int .u64 (Bs.word f 2), .int .u64 (Bs.word f 3), .slice a n cap] 28)).heap.size = w.heap.size + 1 := by simp [go_sem]
    rw [eN] at C'
    have B : Below w.heap.size w ((w.alloc (.cells #[.int .u8 k, .int .u64 (Bs.word f 0), .int .u64 (Bs.word f 1), .int .u64 (Bs.word f 2), .int .u64 (Bs.word f 3), .slice a n cap] 28)).alloc (.cells #[.int .u8 k, .int .u64 (Bs.word f 0), .int .u64 (Bs.word f 1), .int .u64 (Bs.word f 2), .int .u64 (Bs.word f 3), .slice a' n cap'] 28)) := Bs.below2 _ _ _
    clear eN
    have Q := fun w => Bs.eq_run f f w
    simp only [Bs.same_refl] at Q
    go_enter Try.func14, Try.ntmps14
    obtain ⟨c0, c1, c2, c3, c4, c5⟩ := C
    obtain ⟨b0, b1, b2, b3, b4, b5⟩ := C'
    simp only [Nat.zero_add] at c0 c1 c2 c3 c4 c5 b0 b1 b2 b3 b4 b5
    go_wp2_with fail
    have C : Rx.Cell _ ⟨w.heap.size, 0, none⟩ k f a n cap := ⟨c0, c1, c2, c3, c4, c5⟩
    have C' : Rx.Cell _ ⟨w.heap.size + 1, 0, none⟩ k f a' n cap' := ⟨b0, b1, b2, b3, b4, b5⟩
    clear c0 c1 c2 c3 c4 c5 b0 b1 b2 b3 b4 b5 Q
    go_loopw [5] (fun i wr => ∃ q : Nat, q ≤ n ∧ i = .int .i64 q ∧ Rx.Cell wr ⟨w.heap.size, 0, none⟩ k f a n cap ∧ Rx.Cell wr ⟨w.heap.size + 1, 0, none⟩ k f a' n cap' ∧ Below w.heap.size w wr) (fun i _ => n - (intOf i).toNat)
    case atStart => exact ⟨0, by omega, rfl, C, C', B⟩
    case round =>
      clear C C' B
      obtain ⟨q, hq, rfl, C, C', B⟩ := hrel
      have c5 := C.c5
      have b5 := C'.c5
      simp only [Nat.zero_add] at c5 b5
      by_cases hlt : q < n
      · have hlt' : q < l.length := by rw [HN.out]; exact hlt
        obtain ⟨p, rfl, hp⟩ := HL.out.get q hlt'
        obtain ⟨p', rfl, hp'⟩ := HL'.out.get q hlt'
        rw [Nat.zero_add] at hp hp'
        replace hp := hp.up B
        replace hp' := hp'.up B
        have hs : l[q].size ≤ m := by have := (Rx.part_le (List.getElem_mem hlt')).1; omega
        have IQ := Lib.hid (fun v u w => IH.out l[q] hs (by omega) v u w)
        generalize l[q] = y at *
        obtain ⟨k1, f1, a1, n1, cap1, ⟨x0, x1, x2, x3, x4, x5⟩, hi⟩ := hp.open
        obtain ⟨k2, f2, a2, n2, cap2, ⟨y0, y1, y2, y3, y4, y5⟩, hj⟩ := hp'.open
        clear hp hp'
        unfold Rx.hdr at hi hj
        go_wp2_with fail
        go_region_held3 (fun v => v.cell? ⟨w.heap.size, 5, none⟩ = some (.slice (some p) n cap) ∧ v.cell? ⟨w.heap.size + 1, 5, none⟩ = some (.slice (some p') n cap')
            ∧ v.cell? (p.add (q * 6)) = some (.int .u8 k1) ∧ v.cell? ⟨(p.add (q * 6)).block, (p.add (q * 6)).off + 1, none⟩ = some (.int .u64 (Bs.word f1 0)) ∧ v.cell? ⟨(p.add (q * 6)).block, (p.add (q * 6)).off + 2, none⟩ = some (.int .u64 (Bs.word f1 1)) ∧ v.cell? ⟨(p.add (q * 6)).block, (p.add (q * 6)).off + 3, none⟩ = some (.int .u64 (Bs.word f1 2)) ∧ v.cell? ⟨(p.add (q * 6)).block, (p.add (q * 6)).off + 4, none⟩ = some (.int .u64 (Bs.word f1 3)) ∧ v.cell? ⟨(p.add (q * 6)).block, (p.add (q * 6)).off + 5, none⟩ = some (.slice a1 n1 cap1)
            ∧ v.cell? (p'.add (q * 6)) = some (.int .u8 k2) ∧ v.cell? ⟨(p'.add (q * 6)).block, (p'.add (q * 6)).off + 1, none⟩ = some (.int .u64 (Bs.word f2 0)) ∧ v.cell? ⟨(p'.add (q * 6)).block, (p'.add (q * 6)).off + 2, none⟩ = some (.int .u64 (Bs.word f2 1)) ∧ v.cell? ⟨(p'.add (q * 6)).block, (p'.add (q * 6)).off + 3, none⟩ = some (.int .u64 (Bs.word f2 2)) ∧ v.cell? ⟨(p'.add (q * 6)).block, (p'.add (q * 6)).off + 4, none⟩ = some (.int .u64 (Bs.word f2 3)) ∧ v.cell? ⟨(p'.add (q * 6)).block, (p'.add (q * 6)).off + 5, none⟩ = some (.slice a2 n2 cap2)
            ∧ Rx.Is v y (.agg #[.int .u8 k1, .int .u64 (Bs.word f1 0), .int .u64 (Bs.word f1 1), .int .u64 (Bs.word f1 2), .int .u64 (Bs.word f1 3), .slice a1 n1 cap1]) ∧ Rx.Is v y (.agg #[.int .u8 k2, .int .u64 (Bs.word f2 0), .int .u64 (Bs.word f2 1), .int .u64 (Bs.word f2 2), .int .u64 (Bs.word f2 3), .slice a2 n2 cap2])
            ∧ Rx.Cell v ⟨w.heap.size, 0, none⟩ k f (some p) n cap ∧ Rx.Cell v ⟨w.heap.size + 1, 0, none⟩ k f (some p') n cap' ∧ Below w.heap.size w v)
          (first
            | (refine ⟨?_, ?_, ?_, ?_, ?_, ?_, ?_, ?_, ?_, ?_, ?_, ?_, ?_, ?_, ?_, ?_, ?_, ?_, ?_⟩ <;> with_reducible (first | (refine Rx.cell_dr ?_; assumption) | (refine Rx.Is.dr ?_; assumption) | (refine Rx.Cell.up ?_ (Below.refl _ _).drew; assumption) | (refine Rx.below_dr ?_; assumption)))
            | (go_split_ands; refine ⟨?_, ?_, ?_, ?_, ?_, ?_, ?_, ?_, ?_, ?_, ?_, ?_, ?_, ?_, ?_, ?_, ?_, ?_, ?_⟩ <;> with_reducible (first | (refine Bs.cell_up hb1 ?_; assumption) | (refine Rx.Is.up hb1 ?_; assumption) | (refine Rx.Cell.up ?_ hb1; assumption) | (refine Bs.below_up ?_ hb1; assumption))))
          (first
            | (go_at_call 14; go_split_ands; refine (IQ.out _ _ _ (by assumption) (by assumption)).mono ?_; rintro r w2 ⟨rfl, hb1⟩))
        all_goals
          rename_i hH
          obtain ⟨_, _, _, _, _, _, _, _, _, _, _, _, _, _, _, _, C2, C3, B2⟩ := hH
          go_wp2_with fail
          go_roundw
          case rel => exact ⟨q + 1, by omega, by go_num, C2, C3, B2⟩
          case measure => simp [intOf]; omega
      · go_wp2_with fail
        go_ret
        exact ⟨rfl, B⟩
open Go.RowKit
/-- the slice's cells are the signs -/
def Rx.Sg (w : World) (a : Option Addr) (L : List Int) : Prop := ∀ i (h : i < L.length), ∃ x, a = some x ∧ w.cell? (x.add i) = some (.int .i64 L[i])
theorem Rx.Sg.up {w w' : World} {a : Option Addr} {L : List Int} (h : Rx.Sg w a L) (hb : Below w.heap.size w w') : Rx.Sg w' a L := fun i hi => by
  obtain ⟨x, e, h⟩ := h i hi
  exact ⟨x, e, Bs.cell_up hb h⟩
/-- the reader in block r: its signs (no sign is below 0), its place, and what it was told -/
structure Rx.Rd (w : World) (r : Nat) (a : Option Addr) (L : List Int) (cap : Nat) (i : Int) (bad big : Bool) : Prop where
  c0 : w.cell? ⟨r, 0, none⟩ = some (.slice a L.length cap)
  c1 : w.cell? ⟨r, 1, none⟩ = some (.int .i64 i)
  c2 : w.cell? ⟨r, 2, none⟩ = some (.bool bad)
  c3 : w.cell? ⟨r, 3, none⟩ = some (.bool big)
  z1 : w.frozen? ⟨r, 1, none⟩ = false
  z2 : w.frozen? ⟨r, 2, none⟩ = false
  z3 : w.frozen? ⟨r, 3, none⟩ = false
  sg : Rx.Sg w a L
  ne : ∀ x, a = some x → x.block ≠ r
  nn : ∀ c ∈ L, 0 ≤ c
  ln : L.length ≤ 1000
  only : ∀ j v, w.cell? ⟨r, j, none⟩ = some v → j < 4
theorem Rx.Rd.lt {w : World} {r : Nat} {a : Option Addr} {L : List Int} {cap : Nat} {i : Int} {bad big : Bool} (h : Rx.Rd w r a L cap i bad big) : r < w.heap.size := World.block_lt_of_cell? w _ h.c0
theorem Rx.Rd.up {w w' : World} {r : Nat} {a : Option Addr} {L : List Int} {cap : Nat} {i : Int} {bad big : Bool} (h : Rx.Rd w r a L cap i bad big) (hb : Below w.heap.size w w') : Rx.Rd w' r a L cap i bad big := by
  have hl := h.lt
  exact ⟨Bs.cell_up hb h.c0, Bs.cell_up hb h.c1, Bs.cell_up hb h.c2, Bs.cell_up hb h.c3, by rw [hb.frozen hl]; exact h.z1, by rw [hb.frozen hl]; exact h.z2, by rw [hb.frozen hl]; exact h.z3, h.sg.up hb, h.ne, h.nn, h.ln, fun j v hv => h.only j v (by rw [← hb.cell (p := ⟨r, j, none⟩) hl]; exact hv)⟩
theorem Rx.Sg.set {w : World} {a : Option Addr} {L : List Int} {r j : Nat} {v : Value} (h : Rx.Sg w a L) (hn : ∀ x, a = some x → x.block ≠ r) : Rx.Sg (w.setCell ⟨r, j, none⟩ v) a L := fun i hi => by
  obtain ⟨x, e, h⟩ := h i hi
  have e2 : (x.add i).block = x.block := by
    simp only [Addr.add]
    split <;> rfl
  exact ⟨x, e, Bs.cell_set h (fun e' => hn x e (e2.symm.trans e'.symm))⟩
theorem Rx.only_set {w : World} {r i : Nat} {u : Value} (h : ∀ j v, w.cell? ⟨r, j, none⟩ = some v → j < 4) (hi : i < 4) : ∀ j v, (w.setCell ⟨r, i, none⟩ u).cell? ⟨r, j, none⟩ = some v → j < 4 := fun j v hv => by
  by_cases e : i = j
  · omega
  · rw [World.cell?_setCell_other _ _ _ _ (by simp [e])] at hv
    exact h j v hv
theorem Rx.Rd.setAt {w : World} {r : Nat} {a : Option Addr} {L : List Int} {cap : Nat} {i : Int} {bad big : Bool} (h : Rx.Rd w r a L cap i bad big) (k : Int) : Rx.Rd (w.setCell ⟨r, 1, none⟩ (.int .i64 k)) r a L cap k bad big := by
  obtain ⟨c0, c1, c2, c3, z1, z2, z3, sg, ne, nn, ln, only⟩ := h
  refine ⟨?_, ?_, ?_, ?_, ?_, ?_, ?_, sg.set ne, ne, nn, ln, Rx.only_set only (by omega)⟩ <;> simp [go_sem, c0, c1, c2, c3, z1, z2, z3]
theorem Rx.Rd.setBad {w : World} {r : Nat} {a : Option Addr} {L : List Int} {cap : Nat} {i : Int} {bad big : Bool} (h : Rx.Rd w r a L cap i bad big) (k : Bool) : Rx.Rd (w.setCell ⟨r, 2, none⟩ (.bool k)) r a L cap i k big := by
  obtain ⟨c0, c1, c2, c3, z1, z2, z3, sg, ne, nn, ln, only⟩ := h
  refine ⟨?_, ?_, ?_, ?_, ?_, ?_, ?_, sg.set ne, ne, nn, ln, Rx.only_set only (by omega)⟩ <;> simp [go_sem, c0, c1, c2, c3, z1, z2, z3]
theorem Rx.Rd.setBig {w : World} {r : Nat} {a : Option Addr} {L : List Int} {cap : Nat} {i : Int} {bad big : Bool} (h : Rx.Rd w r a L cap i bad big) (k : Bool) : Rx.Rd (w.setCell ⟨r, 3, none⟩ (.bool k)) r a L cap i bad k := by
  obtain ⟨c0, c1, c2, c3, z1, z2, z3, sg, ne, nn, ln, only⟩ := h
  refine ⟨?_, ?_, ?_, ?_, ?_, ?_, ?_, sg.set ne, ne, nn, ln, Rx.only_set only (by omega)⟩ <;> simp [go_sem, c0, c1, c2, c3, z1, z2, z3]
/-- what stands ahead of the reader: where it is not bad, the signs from its place on -/
def Rx.St (w : World) (r : Nat) (a : Option Addr) (L : List Int) (cap : Nat) (t : Option (List Int)) (big : Bool) : Prop :=
  match t with
  | none => ∃ i, Rx.Rd w r a L cap i true big
  | some t => ∃ k : Nat, k ≤ L.length ∧ t = L.drop k ∧ Rx.Rd w r a L cap k false big
theorem Rx.St.up {w w' : World} {r : Nat} {a : Option Addr} {L : List Int} {cap : Nat} {t : Option (List Int)} {big : Bool} (h : Rx.St w r a L cap t big) (hb : Below w.heap.size w w') : Rx.St w' r a L cap t big := by
  cases t with
  | none => obtain ⟨i, h⟩ := h; exact ⟨i, h.up hb⟩
  | some t => obtain ⟨k, h1, h2, h⟩ := h; exact ⟨k, h1, h2, h.up hb⟩
/-- the sign ahead: -1 where there is none -/
def Rx.hd : Option (List Int) → Int
  | none => -1
  | some [] => -1
  | some (c :: _) => c
/-- behind one sign; bad where there was none -/
def Rx.tl : Option (List Int) → Option (List Int)
  | none => none
  | some [] => none
  | some (_ :: r) => some r
def Rx.SeePost (w : World) (c : Int) (e : Ending) (w' : World) : Prop := e = .returned (.int .i64 c) ∧ ∃ n, w' = w.drewN n
set_option maxRecDepth 100000 in
set_option maxHeartbeats 400000 in
theorem refSee_any (r : Nat) (a : Option Addr) (L : List Int) (cap : Nat) (t : Option (List Int)) (big : Bool) (w : World) (h : Rx.St w r a L cap t big) : Calls Try.prog 67 #[.pointer (some ⟨r, 0, none⟩)] w (Rx.SeePost w (Rx.hd t)) := by
  cases t with
  | none =>
    obtain ⟨i, R⟩ := h
    have c2 := R.c2
    clear R
    go_enter Try.func67, Try.ntmps67
    go_wp2_with fail
    go_quiet (fail)
    go_wp2_with fail
    go_ret
    exact ⟨rfl, nq, rfl⟩
  | some t =>
    obtain ⟨k, hk, rfl, R⟩ := h
    have ln := R.ln
    obtain ⟨c0, c1, c2, c3, _, _, _, sg, _, _, _, _⟩ := R
    by_cases hlt : k < L.length
    · obtain ⟨x, rfl, hx⟩ := sg k hlt
      have HH := Lib.hid (show Rx.hd (some (L.drop k)) = L[k] by rw [List.drop_eq_getElem_cons hlt]; rfl)
      clear sg
      generalize L[k] = c at *
      generalize L.length = n at *
      have e1 : decide ((n : Int) ≤ k) = false := by simp; omega
      go_enter Try.func67, Try.ntmps67
      go_wp2_with fail
      go_quiet (fail)
      go_wp2_with fail
      go_quiet (fail)
      go_wp2_with fail
      go_ret
      exact ⟨by rw [HH.out]; rfl, _, World.drewN_drewN _ _ _⟩
    · have HH := Lib.hid (show Rx.hd (some (L.drop k)) = -1 by rw [List.drop_eq_nil_of_le (by omega)]; rfl)
      clear sg
      generalize L.length = n at *
      have e1 : decide ((n : Int) ≤ k) = true := by simp; omega
      go_enter Try.func67, Try.ntmps67
      go_wp2_with fail
      go_quiet (fail)
      go_wp2_with fail
      go_ret
      exact ⟨by rw [HH.out]; rfl, nq, rfl⟩
theorem Rx.below_drewN (w : World) : ∀ n, Below w.heap.size w (w.drewN n) := fun n => by
  induction n with
  | zero => exact Below.refl _ _
  | succ n ih => exact ih.drew
theorem Rx.see_below {w w' : World} {n : Nat} (h : w' = w.drewN n) : Below w.heap.size w w' := by
  rw [h]
  exact Rx.below_drewN w n
/-- behind a call that writes in the reader alone -/
def Rx.TPost (w : World) (r : Nat) (a : Option Addr) (L : List Int) (cap : Nat) (c : Int) (t : Option (List Int)) (big : Bool) (e : Ending) (w' : World) : Prop := e = .returned (.int .i64 c) ∧ Rx.St w' r a L cap t big ∧ w.grownBy w' (some r)
theorem Rx.grown_of {w w' : World} (c : Nat) (h : Below w.heap.size w w') : w.grownBy w' (some c) := ⟨h.os, h.tape, h.output, h.size, fun k hk _ => h.block k hk⟩
theorem Rx.grown_set {w v : World} {c : Nat} (h : w.grownBy v (some c)) (j : Nat) (u : Value) : w.grownBy (v.setCell ⟨c, j, none⟩ u) (some c) :=
  ⟨h.os, h.tape, h.output, by rw [show (v.setCell ⟨c, j, none⟩ u).heap.size = v.heap.size by simp [go_sem]]; exact h.size, fun k hk hn => by rw [Below.heap_setCell _ _ _ _ (fun e => hn (by rw [e]))]; exact h.block k hk hn⟩
set_option maxRecDepth 100000 in
set_option maxHeartbeats 400000 in
theorem refTake_any (r : Nat) (a : Option Addr) (L : List Int) (cap : Nat) (t : Option (List Int)) (big : Bool) (w : World) (h : Rx.St w r a L cap t big) : Calls Try.prog 68 #[.pointer (some ⟨r, 0, none⟩)] w (Rx.TPost w r a L cap (Rx.hd t) (Rx.tl t) big) := by
  have S := Lib.hid (refSee_any r a L cap t big w h)
  go_enter Try.func68, Try.ntmps68
  go_wp2_with fail
  refine S.out.mono ?_
  rintro e w1 ⟨rfl, n, hw⟩
  have hb := Rx.see_below hw
  replace h := h.up hb
  have G := Lib.hid (Rx.grown_of r hb)
  clear S hw hb
  rcases t with _ | t
  · obtain ⟨i, R⟩ := h
    have HR := Lib.hid R
    obtain ⟨c0, c1, c2, c3, z1, z2, z3, _, _, _, _, _⟩ := R
    simp only [Rx.hd, Rx.tl]
    go_wp2_with fail
    go_ret
    exact ⟨rfl, ⟨_, (HR.out.setBad true).setAt _⟩, Rx.grown_set (Rx.grown_set G.out _ _) _ _⟩
  · obtain ⟨k, hk, rfl, R⟩ := h
    have HR := Lib.hid R
    have ln := R.ln
    obtain ⟨c0, c1, c2, c3, z1, z2, z3, _, _, nn, _, _⟩ := R
    by_cases hlt : k < L.length
    · have hc : 0 ≤ L[k] := nn _ (List.getElem_mem hlt)
      have HH := Lib.hid (show Rx.hd (some (L.drop k)) = L[k] by rw [List.drop_eq_getElem_cons hlt]; rfl)
      have HT := Lib.hid (show Rx.tl (some (L.drop k)) = some (L.drop (k + 1)) by rw [List.drop_eq_getElem_cons hlt]; rfl)
      rw [HH.out]
      generalize L[k] = c at *
      have e1 : decide (c < 0) = false := by simp; omega
      have w0 : IntKind.i64.wrap ((k : Int) + 1) = (k + 1 : Nat) := by rw [IntWalk.i64_in _ (by omega)]; rfl
      go_wp2_with fail
      go_ret
      exact ⟨by rw [HH.out]; rfl, by rw [HT.out]; exact ⟨k + 1, by omega, rfl, HR.out.setAt _⟩, Rx.grown_set G.out _ _⟩
    · have HH := Lib.hid (show Rx.hd (some (L.drop k)) = -1 by rw [List.drop_eq_nil_of_le (by omega)]; rfl)
      have HT := Lib.hid (show Rx.tl (some (L.drop k)) = none by rw [List.drop_eq_nil_of_le (by omega)]; rfl)
      rw [HH.out]
      go_wp2_with fail
      go_ret
      exact ⟨by rw [HH.out]; rfl, by rw [HT.out]; exact ⟨_, (HR.out.setBad true).setAt _⟩, Rx.grown_set (Rx.grown_set G.out _ _) _ _⟩
end Go.Proofs.Ytigdelfoipcilaa
