/- slices.ContainsFunc over numbers and over rows of numbers; what within tells, walked. Arrays of 256 bytes and maps of sets in memory; what Classes answers, walked. A table in memory; the greatest class, walked. The least bytes of all classes, walked. The places of Ones, kid by kid from the left: plain facts. The document's parts of a machine: plain facts: rising rows that hold just the Ones that may be first, last, and behind each. -/
import Derived.Test.YthapedadnbkgnaaG13
import Derived.Test.YthapedadnbkgnaaG6
import Derived.Test.YthapedadnbkgnaaG3
import Derived.Maps.OwnSet
import Derived.DeepKeys4
import Derived.WideKeyPair
import Derived.Deep.WholeRow
import Derived.Laws.ResultCell
import Derived.Test.YthapedadnbkgnaaG10
import Derived.Test.YthapedadnbkgnaaG5
namespace Go.Proofs.Ythapedadnbkgnaa
set_option linter.unusedVariables false
set_option linter.unusedSimpArgs false
open Go.RowKit
def Df.ix {α : Type} (g : α → Bool) : List α → Nat → Int
  | [], _ => -1
  | x :: r, i => if g x = true then i else Df.ix g r (i + 1)
theorem Df.ix_any {α : Type} (g : α → Bool) : ∀ (l : List α) (i : Nat), decide (0 ≤ Df.ix g l i) = l.any g
  | [], i => by simp [Df.ix]
  | x :: r, i => by
    rw [Df.ix, List.any_cons]
    split
    · rename_i h; rw [h]; simp
    · rename_i h
      rw [Df.ix_any g r (i + 1)]
      simp [h]
set_option maxRecDepth 100000 in
set_option maxHeartbeats 1000000 in
theorem indexI_any (K : FuncId) (cl : Array Value) (g : Int → Bool) (l : List Int) (v : Value) (w : World) (h : Nf.Row w (fun _ => True) v l) (hn : l.length ≤ 9223372036854775807) (hent : ∀ args w, (callFunc K args).run Try.prog w = .ok (.enter K args) w)
    (hQ : ∀ x ∈ l, ∀ (u : World), Below w.heap.size w u → Calls Try.prog K (#[.int .i64 x] ++ cl) u (Bs.BPost u (g x))) :
    Calls Try.prog 90 #[v, .func (.func K) #[] cl] w fun e w' => e = .returned (.int .i64 (Df.ix g l 0)) ∧ Below w.heap.size w w' := by
  have HQ := Lib.hid hQ; clear hQ
  obtain ⟨a, n, cap, rfl⟩ := h.form
  have HL := Lib.hid h
  have HN := Lib.hid h.at.1
  rw [← h.at.1] at hn
  clear h
  go_enter Try.func90, Try.ntmps90
  go_wp2_with fail
  go_loopw [5, 8] (fun _ i wr => ∃ q : Nat, q ≤ n ∧ i = .int .i64 q ∧ Hid (Df.ix g l 0 = Df.ix g (l.drop q) q) ∧ Below w.heap.size w wr) (fun _ i _ => n - (intOf i).toNat)
  case atStart => exact ⟨0, by omega, rfl, Lib.hid (by rw [List.drop_zero]), Below.refl _ _⟩
  case round =>
    obtain ⟨q, hq, rfl, HI, B⟩ := hrel
    by_cases hlt : q < n
    · have hlt' : q < l.length := by rw [← HN.out]; exact hlt
      obtain ⟨p, rfl, hp⟩ := (HL.out.up B).at.2 q hlt'
      have HD := Lib.hid (show Df.ix g (l.drop q) q = if g l[q] = true then (q : Int) else Df.ix g (l.drop (q + 1)) (q + 1) by rw [List.drop_eq_getElem_cons hlt', Df.ix])
      have HM := Lib.hid (HQ.out l[q] (List.getElem_mem hlt') _ B)
      generalize l[q] = y at *
      have i1 : (0 : Int) ≤ (q : Int) := by omega
      have i2 : (q : Int) < (n : Int) := by omega
      go_wp2_with fail
      refine HM.out.mono ?_
      rintro e w1 ⟨rfl, hb⟩
      replace B := Bs.below_up B hb
      clear hb HM hp
      cases hg : g y
      · have HI2 := Lib.hid (show Df.ix g l 0 = Df.ix g (l.drop (q + 1)) (q + 1) by rw [HI.out, HD.out, hg]; simp)
        clear HI HD hg
        go_wp2_with fail
        go_roundw
        case rel => exact ⟨q + 1, by omega, by go_num, HI2, B⟩
        case measure => simp [intOf]; omega
      · have HI2 := Lib.hid (show Df.ix g l 0 = (q : Int) by rw [HI.out, HD.out, hg]; simp)
        clear HI HD hg
        go_wp2_with fail
        go_ret
        exact ⟨by rw [HI2.out]; rfl, B⟩
    · have HI2 := Lib.hid (show Df.ix g l 0 = -1 by rw [HI.out, List.drop_eq_nil_of_le (by rw [← HN.out]; omega)]; rfl)
      clear HI
      go_wp2_with fail
      go_ret
      exact ⟨by rw [HI2.out]; rfl, B⟩
set_option maxRecDepth 100000 in
set_option maxHeartbeats 400000 in
theorem containsI_any (K : FuncId) (cl : Array Value) (g : Int → Bool) (l : List Int) (v : Value) (w : World) (h : Nf.Row w (fun _ => True) v l) (hn : l.length ≤ 9223372036854775807) (hent : ∀ args w, (callFunc K args).run Try.prog w = .ok (.enter K args) w)
    (hQ : ∀ x ∈ l, ∀ (u : World), Below w.heap.size w u → Calls Try.prog K (#[.int .i64 x] ++ cl) u (Bs.BPost u (g x))) :
    Calls Try.prog 75 #[v, .func (.func K) #[] cl] w (Bs.BPost w (l.any g)) := by
  have I := Lib.hid (indexI_any K cl g l v w h hn hent hQ)
  have HA := Lib.hid (Df.ix_any g l 0)
  clear hn hent hQ
  obtain ⟨a, n, cap, rfl⟩ := h.form
  clear h
  generalize l.any g = b at *
  go_enter Try.func75, Try.ntmps75
  go_wp2_with fail
  refine I.out.mono ?_
  rintro e w1 ⟨rfl, hb⟩
  have HA := HA.out
  generalize Df.ix g l 0 = d at *
  go_wp2_with fail
  go_ret
  exact ⟨by rw [← HA]; rfl, hb⟩
def Df.wi (n : Int) (k : Int) : Bool := decide (-1 ≤ k) && decide (k < n)
set_option maxHeartbeats 400000 in
theorem within1_any (k n : Int) (b : Nat) (w : World) (hb : w.cell? ⟨b, 0, none⟩ = some (.int .i64 n)) :
    Calls Try.prog 76 #[.int .i64 k, .pointer (some ⟨b, 0, none⟩)] w (Bs.BPost w (!Df.wi n k)) := by
  unfold Df.wi
  by_cases h1 : k < -1
  · have d1 : decide (k < -1) = true := decide_eq_true h1
    go_enter Try.func76, Try.ntmps76
    go_wp2
    go_ret
    exact ⟨Bs.ret_bool (by first | (simp; done) | (simp; omega)), Below.refl _ _⟩
  · have d1 : decide (k < -1) = false := decide_eq_false h1
    by_cases h2 : k ≥ n
    · have d2 : decide (k ≥ n) = true := decide_eq_true h2
      go_enter Try.func76, Try.ntmps76
      go_wp2
      go_ret
      exact ⟨Bs.ret_bool (by first | (simp; done) | (simp; omega)), Below.refl _ _⟩
    · have d2 : decide (k ≥ n) = false := decide_eq_false h2
      go_enter Try.func76, Try.ntmps76
      go_wp2
      go_ret
      exact ⟨Bs.ret_bool (by first | (simp; done) | (simp; omega)), Below.refl _ _⟩
theorem Df.not_any (g : Int → Bool) : ∀ l : List Int, (!l.any fun x => !g x) = l.all g
  | [] => rfl
  | x :: r => by
    have := Df.not_any g r
    simp only [List.any_cons, List.all_cons, ← this]
    cases g x <;> simp
set_option maxRecDepth 100000 in
set_option maxHeartbeats 400000 in
theorem within_any (l : List Int) (n : Int) (v : Value) (w : World) (h : Nf.Row w (fun _ => True) v l) (hn : l.length ≤ 9223372036854775807) : Calls Try.prog 56 #[v, .int .i64 n] w (Bs.BPost w (l.all (Df.wi n))) := by
  obtain ⟨a, m, cap, rfl⟩ := h.form
  have B1 := Bs.below1 w (.cells #[.int .i64 n] 3)
  have C := Lib.hid (containsI_any 76 #[.pointer (some ⟨w.heap.size, 0, none⟩)] (fun x => !Df.wi n x) l _ _ (h.up B1) hn (fun _ _ => by kernel_rfl) (fun x _ u hu => within1_any x n w.heap.size u (Bs.cell_up hu (by simp [go_sem]))))
  have HB := Lib.hid B1
  have HA := Lib.hid (Df.not_any (Df.wi n) l)
  clear h hn B1
  go_enter Try.func56, Try.ntmps56
  go_wp2_with fail
  generalize w.alloc (.cells #[.int .i64 n] 3) = W at *
  refine C.out.mono ?_
  rintro e w1 ⟨rfl, hb⟩
  have HB1 := Lib.hid (Bs.below_up HB.out hb)
  clear hb C
  go_wp2_with fail
  go_ret
  exact ⟨by rw [← HA.out]; rfl, HB1.out⟩
set_option maxRecDepth 100000 in
set_option maxHeartbeats 1000000 in
theorem indexN_any (K : FuncId) (cl : Array Value) (g : List Int → Bool) (rows : List Value) (N : List (List Int)) (a : Option Addr) (n cap : Nat) (w : World) (hl : rows.length = n) (hS : Ng.Sv w a rows) (hR : Df.Rws w rows N) (hn : n ≤ 9223372036854775807) (hent : ∀ args w, (callFunc K args).run Try.prog w = .ok (.enter K args) w)
    (hQ : ∀ l ∈ N, ∀ (v : Value) (u : World), Nf.Row u (fun _ => True) v l → Below w.heap.size w u → Calls Try.prog K (#[v] ++ cl) u (Bs.BPost u (g l))) :
    Calls Try.prog 77 #[.slice a n cap, .func (.func K) #[] cl] w fun e w' => e = .returned (.int .i64 (Df.ix g N 0)) ∧ Below w.heap.size w w' := by
  have HQ := Lib.hid hQ; clear hQ
  have HS := Lib.hid hS
  have HR := Lib.hid hR
  have HL := Lib.hid hl
  clear hS hR hl
  go_enter Try.func77, Try.ntmps77
  go_wp2_with fail
  go_loopw [5, 8] (fun _ i wr => ∃ q : Nat, q ≤ n ∧ i = .int .i64 q ∧ Hid (Df.ix g N 0 = Df.ix g (N.drop q) q) ∧ Below w.heap.size w wr) (fun _ i _ => n - (intOf i).toNat)
  case atStart => exact ⟨0, by omega, rfl, Lib.hid (by rw [List.drop_zero]), Below.refl _ _⟩
  case round =>
    obtain ⟨q, hq, rfl, HI, B⟩ := hrel
    by_cases hlt : q < n
    · have hlt1 : q < rows.length := by rw [HL.out]; exact hlt
      have hlt' : q < N.length := by rw [← HR.out.1]; exact hlt1
      obtain ⟨p, rfl, hp⟩ := (HS.out.up B) q hlt1
      have HD := Lib.hid (show Df.ix g (N.drop q) q = if g N[q] = true then (q : Int) else Df.ix g (N.drop (q + 1)) (q + 1) by rw [List.drop_eq_getElem_cons hlt', Df.ix])
      have HM := Lib.hid (HQ.out N[q] (List.getElem_mem hlt') _ _ ((HR.out.up B).2 q hlt1 hlt') B)
      obtain ⟨a5, n5, c5, e5⟩ := (HR.out.2 q hlt1 hlt').form
      rw [e5] at hp HM
      clear e5
      generalize N[q] = y at *
      have i1 : (0 : Int) ≤ (q : Int) := by omega
      have i2 : (q : Int) < (n : Int) := by omega
      go_wp2_with fail
      refine HM.out.mono ?_
      rintro e w1 ⟨rfl, hb⟩
      replace B := Bs.below_up B hb
      clear hb HM hp
      cases hg : g y
      · have HI2 := Lib.hid (show Df.ix g N 0 = Df.ix g (N.drop (q + 1)) (q + 1) by rw [HI.out, HD.out, hg]; simp)
        clear HI HD hg
        go_wp2_with fail
        go_roundw
        case rel => exact ⟨q + 1, by omega, by go_num, HI2, B⟩
        case measure => simp [intOf]; omega
      · have HI2 := Lib.hid (show Df.ix g N 0 = (q : Int) by rw [HI.out, HD.out, hg]; simp)
        clear HI HD hg
        go_wp2_with fail
        go_ret
        exact ⟨by rw [HI2.out]; rfl, B⟩
    · have HI2 := Lib.hid (show Df.ix g N 0 = -1 by rw [HI.out, List.drop_eq_nil_of_le (by rw [← HR.out.1, HL.out]; omega)]; rfl)
      clear HI
      go_wp2_with fail
      go_ret
      exact ⟨by rw [HI2.out]; rfl, B⟩
set_option maxRecDepth 100000 in
set_option maxHeartbeats 400000 in
theorem containsN_any (K : FuncId) (cl : Array Value) (g : List Int → Bool) (rows : List Value) (N : List (List Int)) (a : Option Addr) (n cap : Nat) (w : World) (hl : rows.length = n) (hS : Ng.Sv w a rows) (hR : Df.Rws w rows N) (hn : n ≤ 9223372036854775807) (hent : ∀ args w, (callFunc K args).run Try.prog w = .ok (.enter K args) w)
    (hQ : ∀ l ∈ N, ∀ (v : Value) (u : World), Nf.Row u (fun _ => True) v l → Below w.heap.size w u → Calls Try.prog K (#[v] ++ cl) u (Bs.BPost u (g l))) :
    Calls Try.prog 59 #[.slice a n cap, .func (.func K) #[] cl] w (Bs.BPost w (N.any g)) := by
  have I := Lib.hid (indexN_any K cl g rows N a n cap w hl hS hR hn hent hQ)
  have HA := Lib.hid (Df.ix_any g N 0)
  clear hn hent hQ hS hR hl
  generalize N.any g = b at *
  go_enter Try.func59, Try.ntmps59
  go_wp2_with fail
  refine I.out.mono ?_
  rintro e w1 ⟨rfl, hb⟩
  have HA := HA.out
  generalize Df.ix g N 0 = d at *
  go_wp2_with fail
  go_ret
  exact ⟨by rw [← HA]; rfl, hb⟩
def Df.rowOk (wide : Nat) (n : Int) (l : List Int) : Bool := decide (l.length = wide) && l.all (Df.wi n)
set_option maxHeartbeats 400000 in
theorem right1_any (l : List Int) (v : Value) (wide : Nat) (n : Int) (b1 b2 : Nat) (w : World) (h : Nf.Row w (fun _ => True) v l) (hn : l.length ≤ 9223372036854775807) (h1 : w.cell? ⟨b1, 0, none⟩ = some (.int .i64 wide)) (h2 : w.cell? ⟨b2, 0, none⟩ = some (.int .i64 n)) :
    Calls Try.prog 57 #[v, .pointer (some ⟨b1, 0, none⟩), .pointer (some ⟨b2, 0, none⟩)] w (Bs.BPost w (!Df.rowOk wide n l)) := by
  have C := Lib.hid (within_any l n v w h hn)
  obtain ⟨a, m, cap, rfl⟩ := h.form
  have e := h.at.1
  unfold Df.rowOk
  clear h
  by_cases hw : l.length = wide
  · have d1 : ((m : Int) == (wide : Int)) = true := by simp; omega
    have d2 : ((m : Int) != (wide : Int)) = false := by simp; omega
    have HW := Lib.hid (show decide (l.length = wide) = true by simp [hw])
    clear e hw hn
    rw [HW.out]
    go_enter Try.func57, Try.ntmps57
    go_wp2_with fail
    refine C.out.mono ?_
    rintro e w1 ⟨rfl, hb⟩
    clear C
    go_wp2_with fail
    go_ret
    exact ⟨by cases l.all (Df.wi n) <;> rfl, hb⟩
  · have d1 : ((m : Int) == (wide : Int)) = false := by simp; omega
    have d2 : ((m : Int) != (wide : Int)) = true := by simp; omega
    have HW := Lib.hid (show decide (l.length = wide) = false by simp [hw])
    clear e hw hn C
    rw [HW.out]
    go_enter Try.func57, Try.ntmps57
    go_wp2_with fail
    go_ret
    exact ⟨rfl, Below.refl _ _⟩
end Go.Proofs.Ythapedadnbkgnaa
namespace Go.Proofs.Ythapedadnbkgnaa
set_option linter.unusedVariables false
set_option linter.unusedSimpArgs false
open Go.RowKit
open Go.Maps (Keyed)
def Bs.kk (fs : List (Nat → Bool)) (c : Nat) : Lit := Bs.key fun d => Bs.alike fs c d
theorem Bs.kk_iff (fs : List (Nat → Bool)) (c d : Nat) (hc : c < 256) (hd : d < 256) : Bs.kk fs c = Bs.kk fs d ↔ Bs.alike fs c d = true := by
  constructor
  · intro h
    have := Bs.val_inj (Bs.key_inj h) d hd
    rw [this]; exact Bs.alike_refl _ _
  · intro h
    refine Bs.key_congr (Bs.val_congr fun e _ => ?_)
    cases h1 : Bs.alike fs c e
    · cases h2 : Bs.alike fs d e
      · rfl
      · rw [Bs.alike_trans h h2] at h1; cases h1
    · exact (Bs.alike_trans (Bs.alike_symm h) h1).symm
structure Bs.MInv (fs : List (Nat → Bool)) (c : Nat) (D : DataW Unit) : Prop where
  has : ∀ d, d < c → Maps.has D (Bs.kk fs d) = true ∧ ∀ z, D.atKey (Bs.kk fs d) z = .lit (.int .u8 (Bs.kls fs d))
  only : ∀ e, e < 256 → Maps.has D (Bs.kk fs e) = true → ∃ d, d < c ∧ Bs.alike fs e d = true
  size : Maps.size D = Bs.ncl fs c
theorem Bs.minv_zero (fs : List (Nat → Bool)) : Bs.MInv fs 0 (.map []) := ⟨fun d hd => by omega, fun e _ h => by simp [Maps.has_eq] at h, rfl⟩
theorem Bs.MInv.old {fs : List (Nat → Bool)} {c : Nat} {D : DataW Unit} (h : Bs.MInv fs c D) (hc : c < 256) (hh : Maps.has D (Bs.kk fs c) = true) : Bs.MInv fs (c + 1) D ∧ ∀ z, D.atKey (Bs.kk fs c) z = .lit (.int .u8 (Bs.kls fs c)) := by
  obtain ⟨d, hd, ha⟩ := h.only c hc hh
  obtain ⟨k1, k2⟩ := Bs.kls_old hd ha
  have ek := (Bs.kk_iff fs c d hc (by omega)).2 ha
  obtain ⟨_, at1⟩ := h.has d hd
  have at2 : ∀ z, D.atKey (Bs.kk fs c) z = .lit (.int .u8 (Bs.kls fs c)) := fun z => by rw [ek, at1 z, k1]
  refine ⟨⟨fun e he => ?_, fun e he hx => ?_, by rw [h.size, k2]⟩, at2⟩
  · by_cases hec : e = c
    · subst hec; exact ⟨hh, at2⟩
    · exact h.has e (by omega)
  · obtain ⟨d', h1, h2⟩ := h.only e he hx
    exact ⟨d', by omega, h2⟩
theorem Bs.MInv.new {fs : List (Nat → Bool)} {c : Nat} {D : DataW Unit} (h : Bs.MInv fs c D) (ht : Maps.Tidy D) (hc : c < 256) (hh : Maps.has D (Bs.kk fs c) = false) :
    Bs.MInv fs (c + 1) (D.put (Bs.kk fs c) (.lit (.int .u8 (Bs.ncl fs c : Nat)))) ∧ Bs.kls fs c = Bs.ncl fs c := by
  have hne : ∀ d, d < c → Bs.alike fs c d = false := fun d hd => by
    cases ha : Bs.alike fs c d
    · rfl
    · have ek := (Bs.kk_iff fs c d hc (by omega)).2 ha
      rw [ek, (h.has d hd).1] at hh; cases hh
  obtain ⟨k1, k2⟩ := Bs.kls_new hne
  have hk : WideAt.IsKeyLit (Bs.kk fs c) := Bs.key_is _
  refine ⟨⟨fun e he => ?_, fun e he hx => ?_, ?_⟩, k1⟩
  · by_cases hec : e = c
    · subst hec
      exact ⟨Maps.has_put_same ht.isMap hk _, fun z => by rw [Maps.atKey_put_same ht.isMap hk, k1]⟩
    · have hn : Bs.kk fs e ≠ Bs.kk fs c := fun e1 => by
        have := Bs.alike_symm ((Bs.kk_iff fs e c (by omega) hc).1 e1)
        rw [hne e (by omega)] at this; cases this
      obtain ⟨a1, a2⟩ := h.has e (by omega)
      exact ⟨by rw [Maps.has_put_other hn]; exact a1, fun z => by rw [Maps.atKey_put_other hn]; exact a2 z⟩
  · by_cases hn : Bs.kk fs e = Bs.kk fs c
    · exact ⟨c, by omega, (Bs.kk_iff fs e c he hc).1 hn⟩
    · rw [Maps.has_put_other hn] at hx
      obtain ⟨d, h1, h2⟩ := h.only e he hx
      exact ⟨d, by omega, h2⟩
  · rw [Maps.size_put ht, hh, h.size, k2]; simp
def Bs.arr (g : Nat → Nat) : Array Value := Array.ofFn (n := 256) fun i => .int .u8 (g i)
theorem Bs.arr_size (g : Nat → Nat) : (Bs.arr g).size = 256 := by simp [Bs.arr]
theorem Bs.arr_at (g : Nat → Nat) (c : Nat) (hc : c < 256) : (Bs.arr g)[c]? = some (.int .u8 (g c)) := by
  unfold Bs.arr
  rw [Array.getElem?_ofFn]; simp [hc]
theorem Bs.arr_congr {g h : Nat → Nat} (e : ∀ c, c < 256 → g c = h c) : Bs.arr g = Bs.arr h := by
  unfold Bs.arr; congr 1; funext i; rw [e i i.2]
def Bs.Arr (w : World) (b : Nat) (g : Nat → Nat) : Prop := w.heap[b]? = some (.cells (Bs.arr g) 36 (0, 0))
theorem Bs.Arr.lt {w : World} {b : Nat} {g : Nat → Nat} (h : Bs.Arr w b g) : b < w.heap.size := (Array.getElem?_eq_some_iff.1 h).1
theorem Bs.Arr.up {w w1 : World} {b : Nat} {g : Nat → Nat} (h : Bs.Arr w b g) (hb : Below w.heap.size w w1) : Bs.Arr w1 b g := by
  unfold Bs.Arr; rw [hb.block b h.lt]; exact h
theorem Bs.Arr.cell {w : World} {b : Nat} {g : Nat → Nat} (h : Bs.Arr w b g) (c : Nat) (hc : c < 256) : w.cell? ⟨b, c, none⟩ = some (.int .u8 (g c)) := by
  rw [cell_of_row _ _ _ _ _ _ h]; exact Bs.arr_at g c hc
theorem Bs.Arr.frz {w : World} {b : Nat} {g : Nat → Nat} (h : Bs.Arr w b g) (c : Nat) : w.frozen? ⟨b, c, none⟩ = false := by
  unfold Bs.Arr at h
  simp [World.frozen?, h]
theorem Bs.Arr.put {w : World} {b : Nat} {g : Nat → Nat} (h : Bs.Arr w b g) (c x : Nat) (hc : c < 256) : Bs.Arr (w.setCell ⟨b, c, none⟩ (.int .u8 x)) b (fun d => if d = c then x else g d) := by
  have key : (Bs.arr g).setIfInBounds c (.int .u8 x) = Bs.arr (fun d => if d = c then x else g d) := by
    apply Array.ext_getElem?
    intro i
    by_cases hi : i < 256
    · rw [Bs.arr_at _ i hi]
      by_cases hic : i = c
      · subst hic
        rw [Array.getElem?_setIfInBounds_self_of_lt (by rw [Bs.arr_size]; exact hi)]
        simp
      · rw [Array.getElem?_setIfInBounds_ne (Ne.symm hic), Bs.arr_at g i hi]
        simp [hic]
    · rw [Array.getElem?_eq_none (by rw [Array.size_setIfInBounds, Bs.arr_size]; omega), Array.getElem?_eq_none (by rw [Bs.arr_size]; omega)]
  unfold Bs.Arr
  rw [setCell_eq_setRow _ _ _ _ _ _ _ h, setRow_heap _ _ _ _ _ _ h, key]
theorem Bs.Arr.far {w : World} {b d i : Nat} {g : Nat → Nat} (h : Bs.Arr w b g) (hn : d ≠ b) (v : Value) : Bs.Arr (w.setCell ⟨d, i, none⟩ v) b g := by
  unfold Bs.Arr; rw [Below.heap_setCell _ _ _ _ (Ne.symm hn)]; exact h
def Bs.zeros : Array Value := Bs.arr fun _ => 0
theorem Bs.zero256 : (∀ w, (zeroValue 36).run Try.prog w = .ok (.agg Bs.zeros) w) ∧ (Try.prog.info? 36).map (·.size) = some 256 := zero_of_info (by kernel_rfl)
end Go.Proofs.Ythapedadnbkgnaa
namespace Go.Proofs.Ythapedadnbkgnaa
set_option linter.unusedVariables false
set_option linter.unusedSimpArgs false
open Go.RowKit
def Df.top (g : Nat → Nat) : Nat → Nat
  | 0 => g 0
  | k + 1 => max (Df.top g k) (g (k + 1))
theorem Df.top_lt {g : Nat → Nat} (h : ∀ c, g c < 256) : ∀ k, Df.top g k < 256
  | 0 => h 0
  | k + 1 => by
    have := Df.top_lt h k
    have := h (k + 1)
    rw [Df.top]
    omega
theorem Df.le_top (g : Nat → Nat) : ∀ k c, c ≤ k → g c ≤ Df.top g k
  | 0, c, h => by
    obtain rfl : c = 0 := by omega
    exact Nat.le_refl _
  | k + 1, c, h => by
    rw [Df.top]
    by_cases e : c = k + 1
    · subst e; omega
    · have := Df.le_top g k c (by omega)
      omega
def Df.tab (g : Nat → Nat) (vn vr : Value) : Value := .agg (Bs.arr g ++ #[vn, vr])
structure Df.TB (w : World) (b : Nat) (g : Nat → Nat) (vn vr : Value) : Prop where
  cls : ∀ c, c < 256 → w.cell? ⟨b, c, none⟩ = some (.int .u8 (g c))
  nx : w.cell? ⟨b, 256, none⟩ = some vn
  rl : w.cell? ⟨b, 257, none⟩ = some vr
theorem Df.TB.up {w w' : World} {b : Nat} {g : Nat → Nat} {vn vr : Value} (h : Df.TB w b g vn vr) (hb : Below w.heap.size w w') : Df.TB w' b g vn vr :=
  ⟨fun c hc => Bs.cell_up hb (h.cls c hc), Bs.cell_up hb h.nx, Bs.cell_up hb h.rl⟩
theorem Df.tb_new (w : World) (g : Nat → Nat) (vn vr : Value) (t : TypeId) : Df.TB (w.alloc (.cells (Bs.arr g ++ #[vn, vr]) t)) w.heap.size g vn vr := by
  have hc : ∀ i v, (Bs.arr g ++ #[vn, vr])[i]? = some v → (w.alloc (.cells (Bs.arr g ++ #[vn, vr]) t)).cell? ⟨w.heap.size, i, none⟩ = some v := by
    intro i v h
    rw [cell_of_row _ _ _ _ _ _ (heap_alloc_new w _)]
    exact h
  refine ⟨fun c h => hc c _ ?_, hc 256 _ ?_, hc 257 _ ?_⟩
  · rw [Array.getElem?_append_left (by rw [Bs.arr_size]; exact h)]
    exact Bs.arr_at g c h
  · rw [Array.getElem?_append_right (by rw [Bs.arr_size]; omega), Bs.arr_size]
    rfl
  · rw [Array.getElem?_append_right (by rw [Bs.arr_size]; omega), Bs.arr_size]
    rfl
set_option maxRecDepth 100000 in
set_option maxHeartbeats 1000000 in
theorem maxB_any (g : Nat → Nat) (b cap : Nat) (w : World) (hg : ∀ c, g c < 256) (h : ∀ c, c < 256 → w.cell? ⟨b, c, none⟩ = some (.int .u8 (g c))) :
    Calls Try.prog 58 #[.slice (some ⟨b, 0, none⟩) 256 cap] w fun e w' => e = .returned (.int .u8 (Df.top g 255)) ∧ w' = w := by
  have H := Lib.hid h
  have h0 := h 0 (by omega)
  clear h
  go_enter Try.func58, Try.ntmps58
  go_wp2_with fail
  go_loopw [3, 4] (fun m i wr => ∃ k : Nat, k < 256 ∧ i = .int .i64 (k + 1 : Nat) ∧ m = .int .u8 (Df.top g k) ∧ wr = w) (fun _ i _ => 257 - (intOf i).toNat)
  case atStart => exact ⟨0, by omega, rfl, rfl, by first | rfl | trivial⟩
  case round =>
    obtain ⟨k, hk, rfl, rfl, hwr⟩ := hrel
    subst hwr
    by_cases hlt : k < 255
    · have hx := H.out (k + 1) (by omega)
      have i1 : (0 : Int) ≤ (k : Int) + 1 := by omega
      have i2 : (k : Int) + 1 < 256 := by omega
      have e1 : decide ((k : Int) + 1 < 256) = true := decide_eq_true i2
      have HT := Lib.hid (show Df.top g (k + 1) = max (Df.top g k) (g (k + 1)) from rfl)
      generalize g (k + 1) = y at *
      generalize Df.top g k = z at *
      go_wp2_with fail
      go_roundw
      case rel => exact ⟨k + 1, by omega, by go_num, by rw [HT.out]; congr 1; omega, by first | rfl | trivial⟩
      case measure => simp [intOf]; omega
    · obtain rfl : k = 255 := by omega
      go_wp2_with fail
      go_ret
      exact ⟨rfl, by first | rfl | trivial⟩
end Go.Proofs.Ythapedadnbkgnaa
namespace Go.Proofs.Ythapedadnbkgnaa
set_option linter.unusedVariables false
set_option linter.unusedSimpArgs false
def Df.frs (g : Nat → Nat) : Nat → List Nat
  | 0 => []
  | n + 1 => if g n = (Df.frs g n).length then Df.frs g n ++ [n] else Df.frs g n
theorem Df.frs_len (g : Nat → Nat) : ∀ n, (Df.frs g n).length ≤ n
  | 0 => Nat.le_refl _
  | n + 1 => by
    have := Df.frs_len g n
    rw [Df.frs]
    split
    · rw [List.length_append, List.length_singleton]; omega
    · omega
theorem Df.frs_at (g : Nat → Nat) : ∀ (n k : Nat) (h : k < (Df.frs g n).length), g (Df.frs g n)[k] = k ∧ (Df.frs g n)[k] < n
  | 0, k, h => by simp [Df.frs] at h
  | n + 1, k, h => by
    by_cases e : g n = (Df.frs g n).length
    · have e1 : Df.frs g (n + 1) = Df.frs g n ++ [n] := by rw [Df.frs, if_pos e]
      simp only [e1] at h ⊢
      by_cases hk : k < (Df.frs g n).length
      · rw [List.getElem_append_left hk]
        have := Df.frs_at g n k hk
        exact ⟨this.1, by omega⟩
      · have hk2 : k = (Df.frs g n).length := by rw [List.length_append, List.length_singleton] at h; omega
        subst hk2
        rw [List.getElem_append_right (Nat.le_refl _)]
        simp only [Nat.sub_self, List.getElem_cons_zero]
        exact ⟨e, by omega⟩
    · have e1 : Df.frs g (n + 1) = Df.frs g n := by rw [Df.frs, if_neg e]
      simp only [e1] at h ⊢
      have := Df.frs_at g n k h
      exact ⟨this.1, by omega⟩
open Go.RowKit
theorem Df.append1 {ops : Array Oper} {rest : List Oper} {o : Oper} {a : Act} {Q : Exit → Act → World → Prop} {W : World} (hgd : o.guard = none) (s x : Operand)
    (ho : o.op = .call { callee := .builtin .append, args := #[s, x], argTypes := #[72, 72] })
    (base : Nat) (v : Value) (ns : List Nat) (hs : a.eval s = v) (O : Df.IsB base v ns W) (B c : Nat) (u1 : Nat) (hx : a.eval x = .slice (some ⟨B, 0, none⟩) 1 c) (hB : W.heap[B]? = some (.cells #[.int .u8 u1] 5)) (m : Nat) (hm : ns.length = m) (hl : m ≤ 10000000) (hbase : base ≤ W.heap.size)
    (h : ∀ g cap w', Df.IsB base (.slice (some ⟨g, 0, none⟩) (m + 1) cap) (ns ++ [u1]) w' → W.grownBy w' v.ownBlock → wpList Try.prog ops Q rest (a.put o.dst (.slice (some ⟨g, 0, none⟩) (m + 1) cap)) w') : wpList Try.prog ops Q (o :: rest) a W := by
  subst hm
  obtain ⟨iI, hiI, hz0, hz1, hz2⟩ := info_parts Df.infoByte
  refine wpList_append_lies W hgd s x 72 ho base 5 iI _ 1 1 Try.underlying72 hiI hz0 hz1 hz2 rfl (by decide) v ns.length (Df.byts ns) hs O ⟨B, 0, none⟩ 1 c [.int .u8 u1] hx rfl (World.news_of_block hB) (by simp [Value.oneCell']) (by decide) (by unfold maxLen; omega) (by omega) hbase _ rfl ?_
  intro g cap w' o1 o2 o3 _
  exact h g cap w' (by unfold Df.IsB; rw [List.length_append, List.length_singleton, Df.byts_append]; exact o1) o2
theorem Df.IsB.len {base : Nat} {v : Value} {l : List Nat} {W : World} (h : Df.IsB base v l W) {a : Option Addr} {n c : Nat} (e : v = .slice a n c) : n = l.length := by
  rcases h.2 with ⟨h0, hl⟩ | ⟨g, cap, cur, e', _⟩
  · rw [h0] at e
    injection e with e1 e2 e3
    omega
  · rw [e'] at e
    injection e with e1 e2 e3
    exact e2.symm
theorem Df.idx_run (g : Nat → Nat) (q : Nat) (h : q < 256) (w : World) : (Instr.index 36 (.agg (Bs.arr g)) (.int .i64 q)).run Try.prog w = .ok (.int .u8 (g q)) w := by
  obtain ⟨iI, hiI, hz0, hz1, hz2⟩ := info_parts Df.infoByte
  have h1 : (0 : Int) ≤ (q : Int) ∧ (q : Int) < ((256 : Nat) : Int) := by omega
  have h2 : (0 : Int) ≤ (q : Int) ∧ (q : Int) < 256 := by omega
  have hat := Bs.arr_at g q h
  have hsz := Bs.arr_size g
  have hagg : (isAgg 5).run Try.prog w = .ok false w := by kernel_rfl
  simp [Instr.index, run_underlying Try.underlying36, asIntOf, h, part, hagg, sizeOf, typeInfo, hiI, hz1, hat, hsz]
  exact (Array.getElem?_eq_some_iff.1 hat).2
set_option maxRecDepth 100000 in
set_option maxHeartbeats 400000 in
theorem firsts_any (g : Nat → Nat) (w : World) (hg : ∀ c, g c < 256) : Calls Try.prog 29 #[.agg (Bs.arr g)] w fun e w' => ∃ v, e = .returned v ∧ Df.IsB w.heap.size v (Df.frs g 256) w' ∧ Below w.heap.size w w' := by
  have hrow := heap_alloc_new w (.cells (Bs.arr g) 36)
  have B1 := Lib.hid (Bs.below1 w (.cells (Bs.arr g) 36))
  have HROW := Lib.hid hrow
  have HG := Lib.hid hg
  clear hrow hg
  go_enter Try.func29, Try.ntmps29
  go_upto_region 2 with fail
  generalize w.alloc (.cells (Bs.arr g) 36) = W at *
  refine wp_region_lit ?_
  refine wpList_load_row ?h1 36 (.tmp 1) ?h2 w.heap.size ?h3 36 (Bs.arr g) (0, 0) _ ?h4 Try.underlying36 ?h5 ?h6 ?h7
  case h1 => rfl
  case h2 => rfl
  case h3 => rfl
  case h4 => exact HROW.out
  case h5 => rfl
  case h6 => rw [Bs.arr_size]; exact Bs.zero256.2
  have HO : Hid (Df.IsB w.heap.size (.slice none 0 0) (Df.frs g 0) W) := Lib.hid (World.ownsRow_nil _ _ _ _)
  go_wp2_with fail
  go_loopw [3, 4, 5, 7] (fun l _ _ i wr => ∃ q : Nat, q ≤ 256 ∧ i = .int .i64 q ∧ Hid (Df.IsB w.heap.size l (Df.frs g q) wr) ∧ Hid (Below w.heap.size w wr)) (fun _ _ _ i _ => 256 - (intOf i).toNat)
  case atStart => exact ⟨0, by omega, rfl, HO, B1⟩
  case round =>
    clear HO B1 HROW
    obtain ⟨q, hq, rfl, HL, HB⟩ := hrel
    by_cases hlt : q < 256
    · have i1 : (0 : Int) ≤ (q : Int) := by omega
      have i2 : (q : Int) < 256 := by omega
      have hat := Bs.arr_at g q hlt
      obtain ⟨a3, n3, c3, rfl⟩ := HL.out.form
      have HI := Df.idx_run g q hlt wr
      have hgq := HG.out q
      have HLEN := Lib.hid (Df.IsB.len HL.out rfl)
      have hle := Df.frs_len g q
      have hn3 : n3 ≤ 256 := by rw [HLEN.out]; omega
      clear hle
      by_cases hc : g q = n3
      · have HF := Lib.hid (show Df.frs g (q + 1) = Df.frs g q ++ [q] by rw [Df.frs, if_pos (by rw [hc, HLEN.out])])
        generalize g q = y at *
        subst hc
        have c1 : IntKind.i64.wrap (y : Int) = (y : Int) := IntWalk.i64_in _ (by omega)
        have c2 : IntKind.u8.wrap (q : Int) = (q : Int) := by simp [IntKind.wrap, IntKind.bits, IntKind.signed]; omega
        go_upto_region 6 with fail
        have BW := Bs.below1 wr (.cells #[.int .u8 q] 5)
        have HL2 := Lib.hid (HL.out.up BW)
        have HB2 := Lib.hid (Bs.below_up HB.out BW)
        have hbs : w.heap.size ≤ (wr.alloc (.cells #[.int .u8 q] 5)).heap.size := HB2.out.size
        have HNB := Lib.hid (Ng.new_at wr _ rfl (.cells #[.int .u8 q] 5))
        have HM := Lib.hid HLEN.out.symm
        clear BW HL HB HI hat
        go_wp2_with (first | (at_builtin; refine Df.append1 rfl _ _ rfl w.heap.size (.slice a3 y c3) (Df.frs g q) rfl HL2.out wr.heap.size 1 q rfl HNB.out y HM.out (by omega) hbs ?_; intro g9 cp9 w9 O9 gr9))
        have HB3 := Lib.hid (HB2.out.grown gr9 hbs (fun i hi => (World.ownsRow.lt HL2.out i hi).1))
        have HL3 : Hid (Df.IsB w.heap.size (.slice (some ⟨g9, 0, none⟩) (y + 1) cp9) (Df.frs g (q + 1)) w9) := Lib.hid (by rw [HF.out]; exact O9)
        clear O9 gr9
        go_roundw
        case rel => exact ⟨q + 1, by omega, by go_num, HL3, HB3⟩
        case measure => simp [intOf]; omega
      · have HF := Lib.hid (show Df.frs g (q + 1) = Df.frs g q by rw [Df.frs, if_neg (by rw [← HLEN.out]; exact hc)])
        have HL3 : Hid (Df.IsB w.heap.size (.slice a3 n3 c3) (Df.frs g (q + 1)) wr) := Lib.hid (by rw [HF.out]; exact HL.out)
        generalize g q = y at *
        have c1 : IntKind.i64.wrap (y : Int) = (y : Int) := IntWalk.i64_in _ (by omega)
        have c3 : ((y : Int) == (n3 : Int)) = false := by simp; omega
        have c4 : (y == n3) = false := by simp; omega
        have c5 : decide (y = n3) = false := decide_eq_false hc
        go_wp2_with fail
        go_roundw
        case rel => exact ⟨q + 1, by omega, by go_num, HL3, HB⟩
        case measure => simp [intOf]; omega
    · obtain rfl : q = 256 := by omega
      go_wp2_with fail
      go_ret
      exact ⟨_, rfl, HL.out, HB.out⟩
end Go.Proofs.Ythapedadnbkgnaa
namespace Go.Proofs.Ythapedadnbkgnaa
set_option linter.unusedVariables false
set_option linter.unusedSimpArgs false
namespace Nf
end Nf
namespace Nf
structure Rise (l : List Int) (P : Nat → Prop) : Prop where
  up : l.Pairwise (· < ·)
  nn : ∀ x ∈ l, 0 ≤ x
  is : ∀ p : Nat, (p : Int) ∈ l ↔ P p
theorem Rise.congr {l : List Int} {P Q : Nat → Prop} (h : Rise l P) (e : ∀ p, P p ↔ Q p) : Rise l Q := ⟨h.up, h.nn, fun p => (h.is p).trans (e p)⟩
theorem rise_nil {P : Nat → Prop} (h : ∀ p, ¬ P p) : Rise [] P := ⟨List.Pairwise.nil, fun x hx => by simp at hx, fun p => by simp [h p]⟩
theorem rise_zero : Rise [0] (fun p => p = 0) := ⟨by simp, fun x hx => by simp at hx; omega, fun p => by simp⟩
theorem rise_eq {a b : List Int} {P : Nat → Prop} (ha : Rise a P) (hb : Rise b P) : a = b := by
  refine rising_eq ha.up hb.up fun x => ?_
  constructor
  · intro h
    have h0 := ha.nn x h
    obtain ⟨q, rfl⟩ : ∃ q : Nat, x = q := ⟨x.toNat, by omega⟩
    exact (hb.is q).2 ((ha.is q).1 h)
  · intro h
    have h0 := hb.nn x h
    obtain ⟨q, rfl⟩ : ∃ q : Nat, x = q := ⟨x.toNat, by omega⟩
    exact (ha.is q).2 ((hb.is q).1 h)
theorem rise_filter (n : Nat) (b : Nat → Bool) : Rise (((List.range n).filter b).map (fun i : Nat => (i : Int))) (fun p => p < n ∧ b p = true) := by
  refine ⟨?_, fun x hx => ?_, fun p => ?_⟩
  · rw [List.pairwise_map]
    refine List.Pairwise.imp (fun h => by omega) (List.Pairwise.filter _ (List.pairwise_lt_range))
  · obtain ⟨y, _, rfl⟩ := List.mem_map.1 hx
    omega
  · constructor
    · intro h
      obtain ⟨y, hy, e⟩ := List.mem_map.1 h
      obtain rfl : y = p := by omega
      simpa using hy
    · intro h
      exact List.mem_map.2 ⟨p, by simpa using h, rfl⟩
def upd (N : List (List Int)) (L F : List Int) : List (List Int) := L.foldl (fun N k => N.set k.toNat (union (N.getD k.toNat []) F)) N
end Nf
end Go.Proofs.Ythapedadnbkgnaa
