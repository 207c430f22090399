/- Regular expressions in memory; what the document's Count answers, walked. Sets as keys; sets held against each other. What the document's Same answers of the same expression, walked. The document's reader of signs: what see, take and special answer, walked. Rows that grow by append: what is kept. -/
import Derived.Test.YtnbbepgjpfhjdaaG2
import Derived.Deep.DeepCutAuto
import Derived.Test.YtnbbepgjpfhjdaaG1
import Derived.Maps.OwnSet
import Derived.DeepKeys4
import Derived.WideKeyPair
import Derived.Deep.RegionHeld3
import Derived.Deep.QuietTactic
import Derived.BigQuiet
import Derived.IntWalk
import Derived.Test.YtnbbepgjpfhjdaaRows
import Derived.Below
import Derived.WalkKit
import Derived.Laws.AppendOwn
import Derived.OwnWalk
namespace Go.Proofs.Ytnbbepgjpfhjdaa
set_option linter.unusedVariables false
set_option linter.unusedSimpArgs false
open Go.RowKit
structure Rx.Cell (w : World) (x : Addr) (k : Nat) (f : Nat → Bool) (a : Option Addr) (n cap : Nat) : Prop where
  c0 : w.cell? x = some (.int .u8 k)
  c1 : w.cell? ⟨x.block, x.off + 1, none⟩ = some (.int .u64 (Bs.word f 0))
  c2 : w.cell? ⟨x.block, x.off + 2, none⟩ = some (.int .u64 (Bs.word f 1))
  c3 : w.cell? ⟨x.block, x.off + 3, none⟩ = some (.int .u64 (Bs.word f 2))
  c4 : w.cell? ⟨x.block, x.off + 4, none⟩ = some (.int .u64 (Bs.word f 3))
  c5 : w.cell? ⟨x.block, x.off + 5, none⟩ = some (.slice a n cap)
theorem Rx.Cell.up {w w' : World} {x : Addr} {k : Nat} {f : Nat → Bool} {a : Option Addr} {n cap : Nat} (h : Rx.Cell w x k f a n cap) (hb : Below w.heap.size w w') : Rx.Cell w' x k f a n cap :=
  ⟨Bs.cell_up hb h.c0, Bs.cell_up hb h.c1, Bs.cell_up hb h.c2, Bs.cell_up hb h.c3, Bs.cell_up hb h.c4, Bs.cell_up hb h.c5⟩
mutual
def Rx.In (w : World) : Rx → Addr → Prop
  | .node k f l, x => k < 256 ∧ ∃ a cap, Rx.Cell w x k f a l.length cap ∧ Rx.InL w l a 0
def Rx.InL (w : World) : List Rx → Option Addr → Nat → Prop
  | [], _, _ => True
  | y :: r, a, i => (∃ p, a = some p ∧ Rx.In w y (p.add (i * 6))) ∧ Rx.InL w r a (i + 1)
end
def Rx.hdr (k : Nat) (f : Nat → Bool) (a : Option Addr) (n cap : Nat) : Value := .agg #[.int .u8 k, .int .u64 (Bs.word f 0), .int .u64 (Bs.word f 1), .int .u64 (Bs.word f 2), .int .u64 (Bs.word f 3), .slice a n cap]
def Rx.Is (w : World) : Rx → Value → Prop
  | .node k f l, v => k < 256 ∧ ∃ a cap, v = Rx.hdr k f a l.length cap ∧ Rx.InL w l a 0
mutual
theorem Rx.In.up {w w' : World} (hb : Below w.heap.size w w') : ∀ {x : Rx} {p : Addr}, Rx.In w x p → Rx.In w' x p
  | .node k f l, p, h => by
    simp only [Rx.In] at h ⊢
    obtain ⟨hk, a, cap, hc, hl⟩ := h
    exact ⟨hk, a, cap, hc.up hb, Rx.InL.up hb hl⟩
theorem Rx.InL.up {w w' : World} (hb : Below w.heap.size w w') : ∀ {l : List Rx} {a : Option Addr} {i : Nat}, Rx.InL w l a i → Rx.InL w' l a i
  | [], _, _, _ => by simp [Rx.InL]
  | y :: r, a, i, h => by
    simp only [Rx.InL] at h ⊢
    obtain ⟨⟨p, e, hp⟩, hr⟩ := h
    exact ⟨⟨p, e, Rx.In.up hb hp⟩, Rx.InL.up hb hr⟩
end
theorem Rx.Is.up {w w' : World} (hb : Below w.heap.size w w') {x : Rx} {v : Value} (h : Rx.Is w x v) : Rx.Is w' x v := by
  cases x
  obtain ⟨hk, a, cap, e, hl⟩ := h
  exact ⟨hk, a, cap, e, hl.up hb⟩
theorem Rx.InL.get {w : World} : ∀ {l : List Rx} {a : Option Addr} {i : Nat}, Rx.InL w l a i → ∀ j (h : j < l.length), ∃ p, a = some p ∧ Rx.In w l[j] (p.add ((i + j) * 6))
  | [], _, _, _, j, h => by simp at h
  | y :: r, a, i, hl, j, h => by
    simp only [Rx.InL] at hl
    cases j with
    | zero => simpa using hl.1
    | succ j =>
      obtain ⟨p, e, hp⟩ := Rx.InL.get hl.2 j (by simpa using h)
      refine ⟨p, e, ?_⟩
      rw [show i + 1 + j = i + (j + 1) by omega] at hp
      simpa using hp
theorem Rx.InL.of {w : World} : ∀ {l : List Rx} {a : Option Addr} {i : Nat}, (∀ j (h : j < l.length), ∃ p, a = some p ∧ Rx.In w l[j] (p.add ((i + j) * 6))) → Rx.InL w l a i
  | [], _, _, _ => by simp [Rx.InL]
  | y :: r, a, i, hl => by
    simp only [Rx.InL]
    refine ⟨by have h0 := hl 0 (by simp); rw [Nat.add_zero, List.getElem_cons_zero] at h0; exact h0, Rx.InL.of fun j h => ?_⟩
    obtain ⟨p, e, hp⟩ := hl (j + 1) (by simpa using h)
    refine ⟨p, e, ?_⟩
    rw [show i + 1 + j = i + (j + 1) by omega]
    simpa using hp
def Rx.cntI : Option Nat → Int
  | none => -1
  | some n => n
theorem Rx.cnt_le {x : Rx} {d j : Nat} (hd : 1 ≤ d) (h : x.cnt d = some j) : 1 ≤ j ∧ j ≤ 400 := by
  rw [Rx.cnt_eq x d hd] at h
  split at h
  · rename_i hm
    injection h with h
    have := (Rx.may_iff.1 hm).2.2; have := x.size_pos; omega
  · simp at h
def Rx.CPost (w : World) (n : Option Nat) (e : Ending) (w' : World) : Prop := e = .returned (.int .i64 (Rx.cntI n)) ∧ Below w.heap.size w w'
theorem Rx.cell_new (w : World) (k : Nat) (f : Nat → Bool) (a : Option Addr) (n cap : Nat) (t : TypeId) : Rx.Cell (w.alloc (.cells #[.int .u8 k, .int .u64 (Bs.word f 0), .int .u64 (Bs.word f 1), .int .u64 (Bs.word f 2), .int .u64 (Bs.word f 3), .slice a n cap] t)) ⟨w.heap.size, 0, none⟩ k f a n cap := by
  constructor <;> simp [go_sem]
set_option maxRecDepth 100000 in
set_option maxHeartbeats 1000000 in
theorem refCount_any : ∀ (m : Nat) (x : Rx), x.size ≤ m → ∀ (v : Value) (d : Nat) (w : World), Rx.Is w x v → 1 ≤ d → d ≤ 61 → Calls Try.prog 34 #[v, .int .i64 d] w (Rx.CPost w (x.cnt d)) := by
  intro m
  induction m with
  | zero => intro x h; have := x.size_pos; omega
  | succ m ih =>
    rintro ⟨k, f, l⟩ hm v d w hx h1 h61
    obtain ⟨hk, a, cap, rfl, hl⟩ := hx
    simp only [Rx.size] at hm
    have IH := Lib.hid ih; clear ih
    have HL := Lib.hid hl; clear hl
    have C := Rx.cell_new w k f a l.length cap 54
    have B := Bs.below1 w (.cells #[.int .u8 k, .int .u64 (Bs.word f 0), .int .u64 (Bs.word f 1), .int .u64 (Bs.word f 2), .int .u64 (Bs.word f 3), .slice a l.length cap] 54)
    have HC := Lib.hid (show (Rx.node k f l).cnt d = _ from by rw [Rx.cnt])
    unfold Rx.hdr
    obtain ⟨n, hn⟩ : ∃ n, l.length = n := ⟨_, rfl⟩
    have HN := Lib.hid hn
    rw [hn] at C B HC ⊢
    clear hn
    go_enter Try.func34, Try.ntmps34
    obtain ⟨c0, _, _, _, _, c5⟩ := C
    simp only [Nat.zero_add] at c0 c5
    by_cases ta : 60 < d
    · have e : decide ((60 : Int) < d) = true := by simp; omega
      go_wp2_with fail
      go_ret
      exact ⟨by rw [HC.out]; simp [ta, Rx.cntI], B⟩
    have ea : decide ((60 : Int) < d) = false := by simp; omega
    by_cases tb : 4 < k
    · have e : decide ((4 : Int) < k) = true := by simp; omega
      go_wp2_with fail
      go_ret
      exact ⟨by rw [HC.out]; simp [tb, Rx.cntI], B⟩
    have eb : decide ((4 : Int) < k) = false := by simp; omega
    by_cases tc : 400 < n
    · have e : decide ((400 : Int) < n) = true := by simp; omega
      go_wp2_with fail
      go_ret
      exact ⟨by rw [HC.out]; simp [tc, Rx.cntI], B⟩
    have ec : decide ((400 : Int) < n) = false := by simp; omega
    have HD := Lib.hid (show (Rx.node k f l).cnt d = if (decide (k < 2) && decide (0 < n) || k == 4 && n != 1) = true then none else Rx.cntL l (d + 1) 1 by
      rw [HC.out, if_neg]; simp; omega)
    clear HC
    go_upto_region 3 with fail
    go_cut [40] (fun s40 wx => s40 = .bool (decide (k < 2) && decide (0 < n) || k == 4 && n != 1) ∧ Rx.Cell wx ⟨w.heap.size, 0, none⟩ k f a n cap ∧ Below w.heap.size w wx)
    case first =>
      have C' := Rx.cell_new w k f a n cap 54
      by_cases t2 : k < 2
      · have e2 : decide ((k : Int) < 2) = true := by simp; omega
        by_cases t3 : 0 < n
        · have e3 : decide ((0 : Int) < n) = true := by simp; omega
          go_wp2_with fail
          go_meet
          exact ⟨by simp [t2, t3], C', B⟩
        · have e3 : decide ((0 : Int) < n) = false := by simp; omega
          have e4 : ((k : Int) == 4) = false := by simp; omega
          have e5 : (k == 4) = false := by simp; omega
          go_wp2_with fail
          go_meet
          exact ⟨by simp [t3, e5], C', B⟩
      · have e2 : decide ((k : Int) < 2) = false := by simp; omega
        by_cases t4 : k = 4
        · have e4 : ((k : Int) == 4) = true := by simp; omega
          have e6 : ((n : Int) != 1) = (n != 1) := by rw [Bool.eq_iff_iff]; simp; omega
          have T4 := Lib.hid t4; clear t4
          go_wp2_with fail
          go_meet
          exact ⟨by simp [t2, T4.out, e6], C', B⟩
        · have e4 : ((k : Int) == 4) = false := by simp; omega
          have e5 : (k == 4) = false := by simp; omega
          go_wp2_with fail
          go_meet
          exact ⟨by simp [t2, e5], C', B⟩
    case rest =>
      clear c0 c5 B
      obtain ⟨rfl, C, B⟩ := hcut
      cases tk : (decide (k < 2) && decide (0 < n) || k == 4 && n != 1)
      · have HE := Lib.hid (show (Rx.node k f l).cnt d = Rx.cntL l (d + 1) 1 by rw [HD.out, tk]; simp)
        clear HD
        go_wp2_with fail
        go_loopw [5, 6] (fun c i wr => ∃ q z : Nat, q ≤ n ∧ i = .int .i64 q ∧ c = .int .i64 z ∧ z ≤ 400 ∧ Rx.Cell wr ⟨w.heap.size, 0, none⟩ k f a n cap ∧ Below w.heap.size w wr ∧ Rx.cntL (l.drop q) (d + 1) z = Rx.cntL l (d + 1) 1) (fun _ i _ => n - (intOf i).toNat)
        case atStart => exact ⟨0, 1, by omega, rfl, rfl, by omega, C, B, by simp⟩
        case round =>
          clear C B
          obtain ⟨q, z, hq, rfl, rfl, hz, C, B, hcn⟩ := hrel
          have HCN := Lib.hid hcn; clear hcn
          obtain ⟨c0, c1, c2, c3, c4, c5⟩ := C
          simp only [Nat.zero_add] at c0 c1 c2 c3 c4 c5
          by_cases hlt : q < n
          · have hlt' : q < l.length := by rw [HN.out]; exact hlt
            obtain ⟨p, rfl, hp⟩ := HL.out.get q hlt'
            rw [Nat.zero_add] at hp
            replace hp := hp.up B
            have HS := Lib.hid (Rx.part_le (List.getElem_mem hlt'))
            have HD0 := Lib.hid (fun (h : Rx.cnt l[q] (d + 1) = none) => show Rx.cntL (l.drop q) (d + 1) z = none by rw [List.drop_eq_getElem_cons hlt', Rx.cntL, h])
            have HD1 := Lib.hid (fun (j : Nat) (h : Rx.cnt l[q] (d + 1) = some j) => show Rx.cntL (l.drop q) (d + 1) z = if 400 < z + j then none else Rx.cntL (l.drop (q + 1)) (d + 1) (z + j) by rw [List.drop_eq_getElem_cons hlt', Rx.cntL, h])
            have hv : ∃ k' f' a' n' cap', Rx.Cell wr (p.add (q * 6)) k' f' a' n' cap' ∧ Rx.Is wr l[q] (Rx.hdr k' f' a' n' cap') := by
              generalize l[q] = y at hp
              obtain ⟨k', f', l'⟩ := y
              simp only [Rx.In] at hp
              obtain ⟨h1, a', cap', h2, h3⟩ := hp
              exact ⟨k', f', a', _, cap', h2, h1, a', cap', rfl, h3⟩
            obtain ⟨k', f', a', n', cap', hc, hy⟩ := hv
            obtain ⟨y0, y1, y2, y3, y4, y5⟩ := hc
            go_wp2_with fail
            have IQ := IH.out l[q] (by have := HS.out.1; omega) _ (d + 1) wr hy (by omega) (by omega)
            rw [show ((d + 1 : Nat) : Int) = (d : Int) + 1 by simp] at IQ
            unfold Rx.hdr at IQ
            refine IQ.mono ?_
            rintro e w1 ⟨rfl, hb⟩
            replace c0 := Bs.cell_up hb c0
            replace c5 := Bs.cell_up hb c5
            replace c1 := Bs.cell_up hb c1
            replace c2 := Bs.cell_up hb c2
            replace c3 := Bs.cell_up hb c3
            replace c4 := Bs.cell_up hb c4
            replace B := Bs.below_up B hb
            clear y0 y1 y2 y3 y4 y5 hy IQ hb hp
            cases hj : Rx.cnt l[q] (d + 1) with
            | none =>
              have E := HD0.out hj
              rw [HCN.out] at E
              have E' := Lib.hid (HE.out.trans E); clear E HD0 HD1 hj
              simp only [Rx.cntI]
              go_wp2_with fail
              go_ret
              exact ⟨by rw [E'.out]; rfl, B⟩
            | some j =>
              have j400 := (Rx.cnt_le (by omega) hj).2
              have E := HD1.out j hj
              rw [HCN.out] at E
              have E' := Lib.hid (HE.out.trans E); have E := Lib.hid E; clear HD0 HD1 hj
              have hj0 : ¬ ((j : Int) < 0) := by omega
              simp only [Rx.cntI]
              by_cases ht : 400 < z + j
              · have e7 : decide ((400 : Int) < (z : Int) + j) = true := by simp; omega
                go_wp2_with fail
                go_ret
                exact ⟨by rw [E'.out, if_pos ht]; rfl, B⟩
              · have e7 : decide ((400 : Int) < (z : Int) + j) = false := by simp; omega
                go_wp2_with fail
                go_roundw
                case rel => exact ⟨q + 1, z + j, by omega, by go_num, by go_num, by omega, ⟨c0, by simpa using c1, by simpa using c2, by simpa using c3, by simpa using c4, by simpa using c5⟩, B, by rw [E.out, if_neg ht]⟩
                case measure => simp [intOf]; omega
          · have e8 : l.drop q = [] := List.drop_eq_nil_of_le (by rw [HN.out]; omega)
            have E := HCN.out
            rw [e8, Rx.cntL] at E
            have E' := Lib.hid (HE.out.trans E.symm); clear E e8
            go_wp2_with fail
            go_ret
            exact ⟨by rw [E'.out]; rfl, B⟩
      · go_wp2_with fail
        go_ret
        exact ⟨by rw [HD.out, tk]; simp [Rx.cntI], B⟩
end Go.Proofs.Ytnbbepgjpfhjdaa
namespace Go.Proofs.Ytnbbepgjpfhjdaa
set_option linter.unusedVariables false
set_option linter.unusedSimpArgs false
open Go.RowKit
open Go.Maps (Keyed)
set_option maxRecDepth 100000 in
theorem Bs.arrKey : WideMaps.ArrKey Try.prog 44 42 4 := ⟨Try.underlying44, by kernel_rfl, by kernel_rfl, by kernel_rfl⟩
def Bs.same (f g : Nat → Bool) : Bool := (List.range 256).all fun c => f c == g c
end Go.Proofs.Ytnbbepgjpfhjdaa
namespace Go.Proofs.Ytnbbepgjpfhjdaa
set_option linter.unusedVariables false
set_option linter.unusedSimpArgs false
open Go.RowKit
theorem Rx.cell_dr {w : World} {a : Addr} {v : Value} (h : w.cell? a = some v) : w.drew.cell? a = some v := h
theorem Rx.In.open {w : World} {x : Rx} {p : Addr} (h : Rx.In w x p) : ∃ k f a n cap, Rx.Cell w p k f a n cap ∧ Rx.Is w x (Rx.hdr k f a n cap) := by
  obtain ⟨k', f', l'⟩ := x
  simp only [Rx.In] at h
  obtain ⟨h1, a', cap', h2, h3⟩ := h
  exact ⟨k', f', a', _, cap', h2, h1, a', cap', rfl, h3⟩
open Go.RowKit
def Rx.Sg (w : World) (a : Option Addr) (L : List Int) : Prop := ∀ i (h : i < L.length), ∃ x, a = some x ∧ w.cell? (x.add i) = some (.int .i64 L[i])
theorem Rx.Sg.up {w w' : World} {a : Option Addr} {L : List Int} (h : Rx.Sg w a L) (hb : Below w.heap.size w w') : Rx.Sg w' a L := fun i hi => by
  obtain ⟨x, e, h⟩ := h i hi
  exact ⟨x, e, Bs.cell_up hb h⟩
structure Rx.Rd (w : World) (r : Nat) (a : Option Addr) (L : List Int) (cap : Nat) (i : Int) (bad big : Bool) : Prop where
  c0 : w.cell? ⟨r, 0, none⟩ = some (.slice a L.length cap)
  c1 : w.cell? ⟨r, 1, none⟩ = some (.int .i64 i)
  c2 : w.cell? ⟨r, 2, none⟩ = some (.bool bad)
  c3 : w.cell? ⟨r, 3, none⟩ = some (.bool big)
  z1 : w.frozen? ⟨r, 1, none⟩ = false
  z2 : w.frozen? ⟨r, 2, none⟩ = false
  z3 : w.frozen? ⟨r, 3, none⟩ = false
  sg : Rx.Sg w a L
  ne : ∀ x, a = some x → x.block ≠ r
  nn : ∀ c ∈ L, 0 ≤ c
  ln : L.length ≤ 1000
  only : ∀ j v, w.cell? ⟨r, j, none⟩ = some v → j < 4
theorem Rx.Rd.lt {w : World} {r : Nat} {a : Option Addr} {L : List Int} {cap : Nat} {i : Int} {bad big : Bool} (h : Rx.Rd w r a L cap i bad big) : r < w.heap.size := World.block_lt_of_cell? w _ h.c0
theorem Rx.Rd.up {w w' : World} {r : Nat} {a : Option Addr} {L : List Int} {cap : Nat} {i : Int} {bad big : Bool} (h : Rx.Rd w r a L cap i bad big) (hb : Below w.heap.size w w') : Rx.Rd w' r a L cap i bad big := by
  have hl := h.lt
  exact ⟨Bs.cell_up hb h.c0, Bs.cell_up hb h.c1, Bs.cell_up hb h.c2, Bs.cell_up hb h.c3, by rw [hb.frozen hl]; exact h.z1, by rw [hb.frozen hl]; exact h.z2, by rw [hb.frozen hl]; exact h.z3, h.sg.up hb, h.ne, h.nn, h.ln, fun j v hv => h.only j v (by rw [← hb.cell (p := ⟨r, j, none⟩) hl]; exact hv)⟩
theorem Rx.Sg.set {w : World} {a : Option Addr} {L : List Int} {r j : Nat} {v : Value} (h : Rx.Sg w a L) (hn : ∀ x, a = some x → x.block ≠ r) : Rx.Sg (w.setCell ⟨r, j, none⟩ v) a L := fun i hi => by
  obtain ⟨x, e, h⟩ := h i hi
  have e2 : (x.add i).block = x.block := by
    simp only [Addr.add]
    split <;> rfl
  exact ⟨x, e, Bs.cell_set h (fun e' => hn x e (e2.symm.trans e'.symm))⟩
def Rx.St (w : World) (r : Nat) (a : Option Addr) (L : List Int) (cap : Nat) (t : Option (List Int)) (big : Bool) : Prop :=
  match t with
  | none => ∃ i, Rx.Rd w r a L cap i true big
  | some t => ∃ k : Nat, k ≤ L.length ∧ t = L.drop k ∧ Rx.Rd w r a L cap k false big
theorem Rx.St.up {w w' : World} {r : Nat} {a : Option Addr} {L : List Int} {cap : Nat} {t : Option (List Int)} {big : Bool} (h : Rx.St w r a L cap t big) (hb : Below w.heap.size w w') : Rx.St w' r a L cap t big := by
  cases t with
  | none => obtain ⟨i, h⟩ := h; exact ⟨i, h.up hb⟩
  | some t => obtain ⟨k, h1, h2, h⟩ := h; exact ⟨k, h1, h2, h.up hb⟩
theorem Rx.below_drewN (w : World) : ∀ n, Below w.heap.size w (w.drewN n) := fun n => by
  induction n with
  | zero => exact Below.refl _ _
  | succ n ih => exact ih.drew
theorem Rx.see_below {w w' : World} {n : Nat} (h : w' = w.drewN n) : Below w.heap.size w w' := by
  rw [h]
  exact Rx.below_drewN w n
theorem Rx.grown_of {w w' : World} (c : Nat) (h : Below w.heap.size w w') : w.grownBy w' (some c) := ⟨h.os, h.tape, h.output, h.size, fun k hk _ => h.block k hk⟩
theorem Rx.grown_set {w v : World} {c : Nat} (h : w.grownBy v (some c)) (j : Nat) (u : Value) : w.grownBy (v.setCell ⟨c, j, none⟩ u) (some c) :=
  ⟨h.os, h.tape, h.output, by rw [show (v.setCell ⟨c, j, none⟩ u).heap.size = v.heap.size by simp [go_sem]]; exact h.size, fun k hk hn => by rw [Below.heap_setCell _ _ _ _ (fun e => hn (by rw [e]))]; exact h.block k hk hn⟩
end Go.Proofs.Ytnbbepgjpfhjdaa
namespace Go.Proofs.Ytnbbepgjpfhjdaa
set_option linter.unusedVariables false
set_option linter.unusedSimpArgs false
open Go.RowKit
theorem Bs.grown_of_below {w w' : World} (h : Below w.heap.size w w') : w.grownBy w' none := ⟨h.os, h.tape, h.output, h.size, fun k hk _ => h.block k hk⟩
theorem Bs.row_up {w w' : World} {base : Nat} {e : TypeId} {size : Nat} {v : Value} {n : Nat} {xs : List Value} (h : w.ownsRow base e size v n xs) (hb : Below w.heap.size w w') : w'.ownsRow base e size v n xs := by
  refine h.kept (Bs.grown_of_below hb) ?_
  cases v.ownBlock
  · exact .inl rfl
  · exact .inr (by simp)
end Go.Proofs.Ytnbbepgjpfhjdaa
