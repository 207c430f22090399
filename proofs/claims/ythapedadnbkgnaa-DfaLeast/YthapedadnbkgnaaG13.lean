/- What the program's nodes answers, walked. What slices.IndexFunc, slices.ContainsFunc over expressions, and the program's empty answer, walked. What the program's Build does, walked. Texts that are made of numbers: textOf, walked. slices.Grow and slices.Concat of rows of numbers, walked. -/
import Derived.Test.YthapedadnbkgnaaG2
import Derived.Test.YthapedadnbkgnaaG3
import Derived.Test.YthapedadnbkgnaaG5
import Derived.Test.YthapedadnbkgnaaG8
import Derived.Test.YthapedadnbkgnaaG12
import Derived.Test.YthapedadnbkgnaaG1
import Derived.Deep.AppendLies
import Derived.Laws.BytesArg
import Derived.Laws.MakeOwn
import Derived.Test.YthapedadnbkgnaaG11
import Derived.Lib.AppendZerosOnto
namespace Go.Proofs.Ythapedadnbkgnaa
set_option linter.unusedVariables false
set_option linter.unusedSimpArgs false
open Go.RowKit
def Ng.under : List Rx → Nat
  | [] => 0
  | .node _ _ l :: r => Rx.sizeL l + Ng.under r
theorem Ng.under_all : ∀ l : List Rx, l.length + Ng.under l = Rx.sizeL l
  | [] => rfl
  | .node k f l :: r => by
    have := Ng.under_all r
    simp only [Ng.under, Rx.sizeL, Rx.size, List.length_cons]
    omega
theorem Ng.under_snoc : ∀ (xs : List Rx) (k : Nat) (f : Nat → Bool) (l : List Rx), Ng.under (xs ++ [.node k f l]) = Ng.under xs + Rx.sizeL l
  | [], k, f, l => by simp [Ng.under]
  | .node k' f' l' :: r, k, f, l => by rw [List.cons_append, Ng.under, Ng.under, Ng.under_snoc r]; omega
theorem Ng.under_le : ∀ (xs : List Rx) (q : Nat), Ng.under (xs.take q) ≤ Ng.under xs
  | [], q => by simp [Ng.under]
  | .node k f l :: r, 0 => by simp [Ng.under]
  | .node k f l :: r, q + 1 => by
    have := Ng.under_le r q
    simp only [List.take_succ_cons, Ng.under]
    omega
set_option maxRecDepth 100000 in
set_option maxHeartbeats 2000000 in
theorem nodes_any : ∀ (m : Nat) (l : List Rx), Rx.sizeL l ≤ m → m ≤ 1000000 → ∀ (a : Option Addr) (cap : Nat) (w : World), Rx.InL w l a 0 → Calls Try.prog 25 #[.slice a l.length cap] w fun e w' => e = .returned (.int .i64 (Rx.sizeL l : Nat)) ∧ Below w.heap.size w w' := by
  intro m
  induction m using Nat.strongRecOn with
  | _ m ih =>
    intro l hm hm6 a cap w hl
    have HA := Lib.hid (Ng.under_all l)
    have hle := Rx.length_le l
    have IH := Lib.hid ih; clear ih
    have HL := Lib.hid hl; clear hl
    obtain ⟨n, hn⟩ : ∃ n, l.length = n := ⟨_, rfl⟩
    have HN := Lib.hid hn
    rw [hn] at hle ⊢
    clear hn
    go_enter Try.func25, Try.ntmps25
    go_wp2_with fail
    go_loopw [3, 10] (fun r i wr => ∃ q : Nat, q ≤ n ∧ i = .int .i64 q ∧ r = .int .i64 (n + Ng.under (l.take q) : Nat) ∧ Below w.heap.size w wr) (fun _ i _ => n - (intOf i).toNat)
    case atStart => exact ⟨0, by omega, rfl, by simp [Ng.under], Below.refl _ _⟩
    case round =>
      obtain ⟨q, hq, rfl, rfl, A⟩ := hrel
      by_cases hlt : q < n
      · have hlt' : q < l.length := by rw [HN.out]; exact hlt
        obtain ⟨p, rfl, hp⟩ := HL.out.get q hlt'
        rw [Nat.zero_add] at hp
        have hs := (Rx.part_le (List.getElem_mem hlt')).1
        have hu := Ng.under_le l (q + 1)
        rw [List.take_succ_eq_append_getElem hlt'] at hu
        have HT := Lib.hid (List.take_succ_eq_append_getElem hlt')
        generalize l[q] = y at *
        obtain ⟨k1, f1, l1⟩ := y
        rw [Ng.under_snoc] at hu
        have HT2 := Lib.hid (show Ng.under (l.take (q + 1)) = Ng.under (l.take q) + Rx.sizeL l1 by rw [HT.out, Ng.under_snoc])
        obtain ⟨hk, a1, cap1, ⟨x0, x1, x2, x3, x4, x5⟩, hi⟩ := hp
        replace x0 := Bs.cell_up A x0; replace x1 := Bs.cell_up A x1; replace x2 := Bs.cell_up A x2; replace x3 := Bs.cell_up A x3; replace x4 := Bs.cell_up A x4; replace x5 := Bs.cell_up A x5
        simp only [Rx.size] at hs
        have hall := HA.out
        rw [HN.out] at hall
        have B1 := Bs.below1 wr (.cells #[.int .u8 k1, .int .u64 (Bs.word f1 0), .int .u64 (Bs.word f1 1), .int .u64 (Bs.word f1 2), .int .u64 (Bs.word f1 3), .slice a1 l1.length cap1] 28)
        have HI := Lib.hid (IH.out (Rx.sizeL l1) (by omega) l1 (Nat.le_refl _) (by omega) a1 cap1 _ ((hi.up A).up B1))
        clear hi
        replace A := Bs.below_up A B1
        have i1 : (0 : Int) ≤ (q : Int) := by omega
        have i2 : (q : Int) < (n : Int) := by omega
        have e1 : decide ((q : Int) < (n : Int)) = true := decide_eq_true (by omega)
        have e2 : decide (q < n) = true := decide_eq_true hlt
        have i3 : IntKind.i64.wrap (((n + Ng.under (l.take q) : Nat) : Int) + (Rx.sizeL l1 : Int)) = ((n + Ng.under (l.take q) + Rx.sizeL l1 : Nat) : Int) := by rw [IntWalk.i64_in _ (by omega)]; omega
        obtain ⟨z, hz⟩ : ∃ z : Nat, Rx.sizeL l1 = z := ⟨_, rfl⟩
        obtain ⟨t, ht⟩ : ∃ t : Nat, n + Ng.under (l.take q) = t := ⟨_, rfl⟩
        have HZ := Lib.hid hz
        have HTT := Lib.hid ht
        rw [hz] at HI i3
        rw [ht] at i3 ⊢
        clear B1 hz ht hall hu hs
        go_wp2_with fail
        refine HI.out.mono ?_
        rintro e w1 ⟨rfl, hb1⟩
        replace A := Bs.below_up A hb1
        clear HI hb1 x0 x1 x2 x3 x4 x5
        go_wp2_with fail
        go_roundw
        case rel => exact ⟨q + 1, by omega, by go_num, by rw [HT2.out, HZ.out, ← Nat.add_assoc, HTT.out]; go_num, A⟩
        case measure => simp [intOf]; omega
      · have e1 : decide ((q : Int) < (n : Int)) = false := decide_eq_false (by omega)
        have e2 : decide (q < n) = false := decide_eq_false hlt
        have ht : l.take q = l := List.take_of_length_le (by rw [HN.out]; omega)
        have hall := HA.out
        rw [HN.out] at hall
        rw [ht, hall]
        clear ht hall
        go_wp2_with fail
        go_ret
        exact ⟨rfl, A⟩
end Go.Proofs.Ythapedadnbkgnaa
namespace Go.Proofs.Ythapedadnbkgnaa
set_option linter.unusedVariables false
set_option linter.unusedSimpArgs false
open Go.RowKit
def Px.idx (g : Rx → Bool) : List Rx → Nat → Int
  | [], _ => -1
  | x :: r, i => if g x = true then i else Px.idx g r (i + 1)
theorem Px.idx_any (g : Rx → Bool) : ∀ (l : List Rx) (i : Nat), decide (0 ≤ Px.idx g l i) = l.any g
  | [], i => by simp [Px.idx]
  | x :: r, i => by
    rw [Px.idx, List.any_cons]
    split
    · rename_i h; rw [h]; simp
    · rename_i h
      rw [Px.idx_any g r (i + 1)]
      simp [h]
set_option maxRecDepth 100000 in
set_option maxHeartbeats 1000000 in
theorem indexFunc_any (K : FuncId) (g : Rx → Bool) (l : List Rx) (a : Option Addr) (cap : Nat) (w : World) (hl : Rx.InL w l a 0) (hn : l.length ≤ 100000) (hent : ∀ args w, (callFunc K args).run Try.prog w = .ok (.enter K args) w)
    (hQ : ∀ x ∈ l, ∀ (v : Value) (u : World), Rx.Is u x v → Calls Try.prog K #[v] u (Bs.BPost u (g x))) :
    Calls Try.prog 44 #[.slice a l.length cap, .func (.func K) #[] #[]] w fun e w' => e = .returned (.int .i64 (Px.idx g l 0)) ∧ Below w.heap.size w w' := by
  have HQ := Lib.hid hQ; clear hQ
  have HL := Lib.hid hl; clear hl
  obtain ⟨n, hln⟩ : ∃ n, l.length = n := ⟨_, rfl⟩
  have HN := Lib.hid hln
  rw [hln] at hn ⊢
  clear hln
  go_enter Try.func44, Try.ntmps44
  go_wp2_with fail
  go_loopw [8] (fun i wr => ∃ q : Nat, q ≤ n ∧ i = .int .i64 q ∧ Px.idx g l 0 = Px.idx g (l.drop q) q ∧ Below w.heap.size w wr) (fun i _ => n - (intOf i).toNat)
  case atStart => exact ⟨0, by omega, rfl, by rw [List.drop_zero], Below.refl _ _⟩
  case round =>
    obtain ⟨q, hq, rfl, hI, B⟩ := hrel
    have HI := Lib.hid hI
    clear hI
    by_cases hlt : q < n
    · have hlt' : q < l.length := by rw [HN.out]; exact hlt
      obtain ⟨p, rfl, hp⟩ := HL.out.get q hlt'
      rw [Nat.zero_add] at hp
      replace hp := hp.up B
      have HD := Lib.hid (show Px.idx g (l.drop q) q = if g l[q] = true then (q : Int) else Px.idx g (l.drop (q + 1)) (q + 1) by rw [List.drop_eq_getElem_cons hlt', Px.idx])
      have HM := Lib.hid (HQ.out l[q] (List.getElem_mem hlt'))
      generalize l[q] = y at *
      obtain ⟨k1, f1, a1, n1, cap1, ⟨x0, x1, x2, x3, x4, x5⟩, hi⟩ := hp.open
      have HS := Lib.hid hi
      clear hp hi
      unfold Rx.hdr at HS
      go_wp2_with fail
      refine (HM.out _ wr HS.out).mono ?_
      rintro e w1 ⟨rfl, hb⟩
      replace B := Bs.below_up B hb
      clear hb HM HS x0 x1 x2 x3 x4 x5
      cases hg : g y
      · have HI2 := Lib.hid (show Px.idx g l 0 = Px.idx g (l.drop (q + 1)) (q + 1) by rw [HI.out, HD.out, hg]; simp)
        clear HI HD hg
        go_wp2_with fail
        go_roundw
        case rel => exact ⟨q + 1, by omega, by go_num, HI2.out, B⟩
        case measure => simp [intOf]; omega
      · have HI2 := Lib.hid (show Px.idx g l 0 = (q : Int) by rw [HI.out, HD.out, hg]; simp)
        clear HI HD hg
        go_wp2_with fail
        go_ret
        exact ⟨by rw [HI2.out]; rfl, B⟩
    · have HI2 := Lib.hid (show Px.idx g l 0 = -1 by rw [HI.out, List.drop_eq_nil_of_le (by rw [HN.out]; omega)]; rfl)
      clear HI
      go_wp2_with fail
      go_ret
      exact ⟨by rw [HI2.out]; rfl, B⟩
set_option maxRecDepth 100000 in
set_option maxHeartbeats 400000 in
theorem containsFunc_any (K : FuncId) (g : Rx → Bool) (l : List Rx) (a : Option Addr) (cap : Nat) (w : World) (hl : Rx.InL w l a 0) (hn : l.length ≤ 100000) (hent : ∀ args w, (callFunc K args).run Try.prog w = .ok (.enter K args) w)
    (hQ : ∀ x ∈ l, ∀ (v : Value) (u : World), Rx.Is u x v → Calls Try.prog K #[v] u (Bs.BPost u (g x))) :
    Calls Try.prog 24 #[.slice a l.length cap, .func (.func K) #[] #[]] w (Bs.BPost w (l.any g)) := by
  have I := Lib.hid (indexFunc_any K g l a cap w hl hn hent hQ)
  have HA := Lib.hid (Px.idx_any g l 0)
  clear hl hn hent hQ
  generalize l.any g = b at *
  generalize l.length = n at *
  go_enter Try.func24, Try.ntmps24
  go_wp2_with fail
  refine I.out.mono ?_
  rintro e w1 ⟨rfl, hb⟩
  have HA := HA.out
  generalize Px.idx g l 0 = d at *
  go_wp2_with fail
  go_ret
  exact ⟨by rw [← HA]; rfl, hb⟩
end Go.Proofs.Ythapedadnbkgnaa
namespace Go.Proofs.Ythapedadnbkgnaa
set_option linter.unusedVariables false
set_option linter.unusedSimpArgs false
open Go.RowKit
def Ng.M0 : Nf.Mach := ⟨[], []⟩
def Ng.code (l : List Rx) : Nat := if (l.isEmpty || l.any fun x => !x.may 1) = true then 1 else if (decide (32 < l.length) || decide (2000 < Rx.sizeL l)) = true then 21 else 0
def Ng.BuildPost (w : World) (l : List Rx) (e : Ending) (w' : World) : Prop :=
  (Ng.code l = 0 ∧ ∃ r tr, e = .returned (.tuple #[.pointer (some ⟨r, 0, none⟩), .int .i64 0]) ∧ Ng.At w' w.heap.size r (Nf.build l Ng.M0) tr ((Nf.ends l Ng.M0).map (·.1)) ((Nf.ends l Ng.M0).map (·.2)) ∧ tr.map (·.1) = Rx.setsL l ∧ Below w.heap.size w w') ∨
  (Ng.code l ≠ 0 ∧ e = .returned (.tuple #[.pointer none, .int .i64 (Ng.code l)]) ∧ Below w.heap.size w w')
theorem Ng.mem_new (w : World) (base : Nat) (hb : base ≤ w.heap.size) : Ng.At (w.alloc (.cells #[.slice none 0 0, .slice none 0 0, .slice none 0 0, .slice none 0 0] 65)) base w.heap.size Ng.M0 [] [] [] := by
  refine ⟨fun _ => 0, _, _, _, _, [], by simp [go_sem], by simp [go_sem], by simp [go_sem], by simp [go_sem], fun i _ => by simp [go_sem], hb, rfl, by simp [Value.ownBlock], by simp [Value.ownBlock], by simp [Value.ownBlock], by simp [Value.ownBlock], fun i hi => by simp at hi, Ng.own_nil _ _, World.ownsRow_nil _ _ _ _, Nf.own_nil _ _, Nf.own_nil _ _, rfl, fun i hi => by simp at hi, rfl⟩
theorem Ng.nums_snoc (l : List Nat) (x : Nat) : Ng.nums (l ++ [x]) = Ng.nums l ++ [(x : Int)] := by simp [Ng.nums]
theorem Ng.new_at (w : World) (n : Nat) (hn : n = w.heap.size) (o : Obj) : (w.alloc o).heap[n]? = some o := hn ▸ heap_alloc_new w o
set_option maxRecDepth 100000 in
set_option maxHeartbeats 400000 in
theorem wrong_any (x : Rx) (v : Value) (w : World) (hx : Rx.Is w x v) : Calls Try.prog 22 #[v] w (Bs.BPost w (!x.may 1)) := by
  have hv' : ∃ k f b n c, v = Rx.hdr k f b n c := by
    cases x
    obtain ⟨_, b, c, e, _⟩ := hx
    exact ⟨_, _, b, _, c, e⟩
  obtain ⟨k, f, b, n, c, rfl⟩ := hv'
  have A := Bs.below1 w (.cells #[.int .u8 k, .int .u64 (Bs.word f 0), .int .u64 (Bs.word f 1), .int .u64 (Bs.word f 2), .int .u64 (Bs.word f 3), .slice b n c] 28)
  have E := Lib.hid (Right_any x _ _ (hx.up A))
  unfold Rx.hdr at E ⊢
  clear hx
  generalize x.may 1 = m at *
  go_enter Try.func22, Try.ntmps22
  go_wp2_with fail
  refine E.out.mono ?_
  rintro e u1 ⟨rfl, hb⟩
  replace A := Bs.below_up A hb
  clear E hb
  go_wp2_with fail
  go_ret
  exact ⟨rfl, A⟩
theorem Ng.drop_build (l : List Rx) (q : Nat) (h : q < l.length) (M : Nf.Mach) : Nf.build (l.drop q) M = Nf.build (l.drop (q + 1)) (Nf.lay l[q] M.free.length (M.free.length + 1) M.place.place) ∧ Nf.ends (l.drop q) M = (M.free.length, M.free.length + 1) :: Nf.ends (l.drop (q + 1)) (Nf.lay l[q] M.free.length (M.free.length + 1) M.place.place) := by
  rw [List.drop_eq_getElem_cons h, Nf.build, Nf.ends]
  exact ⟨rfl, rfl⟩
theorem Ng.size_all (l : List Rx) (h : ∀ x ∈ l, x.size ≤ 400) : Rx.sizeL l ≤ 400 * l.length := by
  induction l with
  | nil => simp [Rx.sizeL]
  | cons x r ih =>
    have h1 := h x (by simp)
    have h2 := ih (fun y hy => h y (by simp [hy]))
    simp only [Rx.sizeL, List.length_cons]
    omega
set_option maxRecDepth 100000 in
set_option maxHeartbeats 2000000 in
theorem build_any (l : List Rx) (hlen : l.length ≤ 1000) (al : Option Addr) (cap : Nat) (w : World) (hl : Rx.InL w l al 0) : Calls Try.prog 9 #[.slice al l.length cap] w (Ng.BuildPost w l) := by
  have C := Lib.hid (containsFunc_any 22 (fun x => !x.may 1) l al cap w hl (by omega) (fun _ _ => by kernel_rfl) (fun x _ v u hv => wrong_any x v u hv))
  have HL := Lib.hid hl
  have HCD := Lib.hid (Ng.code.eq_def l)
  clear hl
  by_cases h0 : l = []
  · subst h0
    simp only [List.length_nil]
    clear C
    go_enter Try.func9, Try.ntmps9
    go_wp2_with fail
    go_ret2
    exact .inr ⟨by decide, rfl, Below.refl _ _⟩
  have hne : l.isEmpty = false := by cases l with
    | nil => exact absurd rfl h0
    | cons => rfl
  rw [hne, Bool.false_or] at HCD
  have hpos := List.length_pos_iff.2 h0
  obtain ⟨n, hn⟩ : ∃ n, l.length = n := ⟨_, rfl⟩
  have HN := Lib.hid hn
  rw [hn] at C hlen hpos HCD ⊢
  have e0 : ((n : Int) == 0) = false := by simp; omega
  clear hn hne
  cases hany : (l.any fun x => !x.may 1)
  case true =>
    rw [hany] at C HCD
    simp only [if_true] at HCD
    clear hany
    go_enter Try.func9, Try.ntmps9
    go_wp2_with fail
    refine C.out.mono ?_
    rintro e w1 ⟨rfl, hb⟩
    have HB := Lib.hid hb
    clear C hb
    go_wp2_with fail
    go_ret2
    exact .inr ⟨by rw [HCD.out]; decide, by rw [HCD.out]; rfl, HB.out⟩
  case false =>
    rw [hany] at C HCD
    simp only [Bool.false_eq_true, if_false] at HCD
    have HMAY := Lib.hid (show ∀ x ∈ l, x.may 1 = true from fun x hx => by
      have := List.any_eq_false.1 hany x hx
      simpa using this)
    have hsz : Rx.sizeL l ≤ 400 * n := by
      have := Ng.size_all l (fun x hx => (Rx.may_iff.1 (HMAY.out x hx)).2.2)
      rw [HN.out] at this
      exact this
    clear hany
    by_cases h32 : 32 < n
    · have e1 : decide ((32 : Int) < (n : Int)) = true := decide_eq_true (by omega)
      have e2 : decide (32 < n) = true := decide_eq_true h32
      rw [e2, Bool.true_or, if_pos rfl] at HCD
      clear e2
      go_enter Try.func9, Try.ntmps9
      go_wp2_with fail
      refine C.out.mono ?_
      rintro e w1 ⟨rfl, hb⟩
      have HB := Lib.hid hb
      clear C hb
      go_wp2_with fail
      go_ret2
      exact .inr ⟨by rw [HCD.out]; decide, by rw [HCD.out]; rfl, HB.out⟩
    have e1 : decide ((32 : Int) < (n : Int)) = false := decide_eq_false (by omega)
    have e2 : decide (32 < n) = false := decide_eq_false h32
    rw [e2, Bool.false_or] at HCD
    have hsz6 : Rx.sizeL l ≤ 1000000 := by omega
    obtain ⟨sz, hszz⟩ : ∃ sz, Rx.sizeL l = sz := ⟨_, rfl⟩
    have HSZ := Lib.hid hszz
    have hnod := Lib.hid (fun (u : World) (hu : Rx.InL u l al 0) => nodes_any sz l (by rw [hszz]; exact Nat.le_refl _) (by omega) al cap u hu)
    rw [hszz] at HCD hsz hsz6 hnod
    rw [HN.out] at hnod
    clear hszz
    go_enter Try.func9, Try.ntmps9
    go_wp2_with fail
    refine C.out.mono ?_
    rintro e w1 ⟨rfl, hb⟩
    have HB := Lib.hid hb
    have ND := Lib.hid (hnod.out w1 (HL.out.up hb))
    clear C hb hnod
    go_wp2_with fail
    refine ND.out.mono ?_
    rintro e w2 ⟨rfl, hb⟩
    have HB2 := Lib.hid (Bs.below_up HB.out hb)
    clear ND hb HB
    by_cases h20 : 2000 < sz
    · have e3 : decide ((2000 : Int) < (sz : Int)) = true := decide_eq_true (by omega)
      have e4 : decide (2000 < sz) = true := decide_eq_true h20
      rw [e4, if_pos rfl] at HCD
      go_wp2_with fail
      go_ret2
      exact .inr ⟨by rw [HCD.out]; decide, by rw [HCD.out]; rfl, HB2.out⟩
    have e3 : decide ((2000 : Int) < (sz : Int)) = false := decide_eq_false (by omega)
    have e4 : decide (2000 < sz) = false := decide_eq_false h20
    rw [e4] at HCD
    simp only [Bool.false_eq_true, if_false] at HCD
    have hsw : w.heap.size ≤ w2.heap.size := HB2.out.size
    have A0 := Lib.hid (Ng.mem_new w2 w.heap.size hsw)
    have B3 := Lib.hid (Bs.below_up HB2.out (Bs.below1 w2 (.cells #[.slice none 0 0, .slice none 0 0, .slice none 0 0, .slice none 0 0] 65)))
    go_wp2_with fail
    generalize w2.alloc (.cells #[.slice none 0 0, .slice none 0 0, .slice none 0 0, .slice none 0 0] 65) = U at *
    generalize w2.heap.size = r at *
    clear HB2 e1 e2 e3 e4 hsw
    go_loopw [30] (fun i wr => ∃ (q : Nat) (Mq : Nf.Mach) (tq : List Ng.Tr) (sq eq : List Nat), q ≤ n ∧ i = .int .i64 q ∧ Hid (Nf.build (l.drop q) Mq = Nf.build l Ng.M0) ∧ Hid (sq ++ (Nf.ends (l.drop q) Mq).map (·.1) = (Nf.ends l Ng.M0).map (·.1) ∧ eq ++ (Nf.ends (l.drop q) Mq).map (·.2) = (Nf.ends l Ng.M0).map (·.2)) ∧ Hid (Ng.At wr w.heap.size r Mq tq sq eq) ∧ Hid (tq.map (·.1) = Rx.setsL (l.take q)) ∧ Hid (Below w.heap.size w wr) ∧ Hid (Ng.Fit Mq (Rx.sizeL (l.drop q) + (n - q))) ∧ sq.length = q ∧ eq.length = q) (fun i _ => n - (intOf i).toNat)
    case atStart => exact ⟨0, Ng.M0, [], [], [], by omega, rfl, Lib.hid (by simp), Lib.hid (by simp), A0, Lib.hid (by simp [Rx.setsL]), B3, Lib.hid ⟨by simp [Ng.M0, HSZ.out]; omega, by simp [Ng.M0, Ng.tot, HSZ.out]; omega, by simp [Ng.M0, HSZ.out]; omega⟩, rfl, rfl⟩
    case round =>
      clear A0 B3
      obtain ⟨q, Mq, tq, sq, eq, hq, rfl, HBU, HEN, HAT, HTQ, HB, HF, hsq, heq⟩ := hrel
      have hbase : w.heap.size ≤ wr.heap.size := HB.out.size
      by_cases hlt : q < n
      · have hlt' : q < l.length := by rw [HN.out]; exact hlt
        obtain ⟨p, rfl, hp⟩ := HL.out.get q hlt'
        rw [Nat.zero_add] at hp
        have HSD := Lib.hid (Ng.sizeL_drop l q hlt')
        have HTK := Lib.hid (Rx.setsL_take l q hlt')
        have HDB := Lib.hid (Ng.drop_build l q hlt' Mq)
        have OK := Lib.hid (lay_any w l[q].size l[q] (Nat.le_refl _) (Rx.may_iff.1 (HMAY.out l[q] (List.getElem_mem hlt'))).1)
        generalize l[q] = y at *
        obtain ⟨k1, f1, a1, n1, cap1, ⟨x0, x1, x2, x3, x4, x5⟩, hi⟩ := hp.open
        have A := HB.out
        replace x0 := Bs.cell_up A x0; replace x1 := Bs.cell_up A x1; replace x2 := Bs.cell_up A x2; replace x3 := Bs.cell_up A x3; replace x4 := Bs.cell_up A x4; replace x5 := Bs.cell_up A x5
        have HI := Lib.hid hi
        clear hp hi A
        unfold Rx.hdr at HI
        have B1 := Bs.below1 wr (.cells #[.int .u8 k1, .int .u64 (Bs.word f1 0), .int .u64 (Bs.word f1 1), .int .u64 (Bs.word f1 2), .int .u64 (Bs.word f1 3), .slice a1 n1 cap1] 28)
        have HX := Lib.hid (HAT.out.new B1)
        have HND := Lib.hid (Rx.nod_new wr k1 f1 a1 n1 cap1)
        have hbs : w.heap.size ≤ (wr.alloc (.cells #[.int .u8 k1, .int .u64 (Bs.word f1 0), .int .u64 (Bs.word f1 1), .int .u64 (Bs.word f1 2), .int .u64 (Bs.word f1 3), .slice a1 n1 cap1] 28)).heap.size := Nat.le_trans hbase B1.size
        have hpl : wr.heap.size < (wr.alloc (.cells #[.int .u8 k1, .int .u64 (Bs.word f1 0), .int .u64 (Bs.word f1 1), .int .u64 (Bs.word f1 2), .int .u64 (Bs.word f1 3), .slice a1 n1 cap1] 28)).heap.size := by simp
        have hFl := HF.out.len
        have hys := y.size_pos
        have C := Lib.hid (place_any _ w.heap.size r wr.heap.size Mq tq sq eq HX.out hpl hbs (by omega))
        have HB1 := Lib.hid (HB.out.trans (B1.mono hbase))
        have i1 : (0 : Int) ≤ (q : Int) := by omega
        have i2 : (q : Int) < (n : Int) := by omega
        have e1 : decide ((q : Int) < (n : Int)) = true := decide_eq_true (by omega)
        have e2 : decide (q < n) = true := decide_eq_true hlt
        clear B1
        go_wp2_with fail
        refine C.out.mono ?_
        rintro e w1 ⟨rfl, X1, b1, hp1⟩
        have hsz2 : w.heap.size ≤ w1.heap.size := Nat.le_trans hbs b1.size
        have hpl2 : wr.heap.size < w1.heap.size := Nat.lt_of_lt_of_le hpl b1.size
        have hpl3 : Mq.place.free.length = Mq.free.length + 1 := Mq.place_len
        have C2 := Lib.hid (place_any w1 w.heap.size r wr.heap.size Mq.place tq sq eq X1 hpl2 hsz2 (by rw [hpl3, HSD.out] at *; omega))
        rw [hpl3] at C2
        have HB2 := Lib.hid (HB1.out.trans b1)
        have HP1 := Lib.hid hp1
        clear C X1 b1 hp1 x0 x1 x2 x3 x4 x5
        go_wp2_with fail
        refine C2.out.mono ?_
        rintro e w2 ⟨rfl, X2, b2, hp2⟩
        have hsz3 : w.heap.size ≤ w2.heap.size := Nat.le_trans hsz2 b2.size
        have HB3 := Lib.hid (HB2.out.trans b2)
        obtain ⟨y0, y1, y2, y3, y4, y5⟩ := Ng.nod_same HND.out (hp2.trans HP1.out)
        simp only [Nat.zero_add] at y1 y2 y3 y4 y5
        have hpl4 : Mq.place.place.free.length = Mq.free.length + 2 := by rw [Nf.Mach.place_len, hpl3]
        have g2 := (Ng.grow_place Mq).trans (Ng.grow_place Mq.place) (Nat.le_refl _) (Nat.le_refl _) (Nat.le_refl _)
        have C3 := Lib.hid (OK.out _ HI.out r Mq.place.place tq sq eq Mq.free.length (Mq.free.length + 1) w2 HB3.out X2.at (by omega) (by omega) (HF.out.grow g2 (by rw [HSD.out]; omega) (by rw [HSD.out]; omega) (by rw [HSD.out]; omega)))
        have HGL := Lib.hid (g2.trans (Ng.grow_lay y Mq.free.length (Mq.free.length + 1) Mq.place.place) (Nat.le_refl _) (Nat.le_refl _) (Nat.le_refl _))
        clear C2 X2 b2 hp2 g2
        go_wp2_with fail
        refine C3.out.mono ?_
        rintro e w3 ⟨t3, rfl, X3, h3, b3⟩
        have hsz4 : w.heap.size ≤ w3.heap.size := Nat.le_trans hsz3 b3.size
        have HB4 := Lib.hid (HB3.out.trans b3)
        have H3 := Lib.hid h3
        obtain ⟨M3, hM3⟩ : ∃ M3, Nf.lay y Mq.free.length (Mq.free.length + 1) Mq.place.place = M3 := ⟨_, rfl⟩
        rw [hM3] at X3 HGL HDB
        clear hM3 C3 h3 b3 y0 y1 y2 y3 y4 y5 hpl3 hpl4 hpl2 hsz2 hsz3 HX HND HP1
        obtain ⟨col, vf, vo, vs, ve, rows, HM⟩ := X3
        obtain ⟨a7, n7, c7, hvs⟩ := (Nf.Own.row HM.os (fun _ h => h)).form
        obtain ⟨a8, n8, c8, hve⟩ := (Nf.Own.row HM.oe (fun _ h => h)).form
        subst hvs
        subst hve
        have B5 := Bs.below1 w3 (.cells #[.int .i64 (Mq.free.length : Nat)] 3)
        have HM5 := Lib.hid (HM.up B5)
        have c2 := HM5.out.c2
        have k2 := HM.c2
        have HN5 := Lib.hid (Ng.new_at w3 _ rfl (.cells #[.int .i64 (Mq.free.length : Nat)] 3))
        have hsz5 : w.heap.size ≤ (w3.alloc (.cells #[.int .i64 (Mq.free.length : Nat)] 3)).heap.size := Nat.le_trans hsz4 B5.size
        have HB5 := Lib.hid (HB4.out.trans (B5.mono hsz4))
        have hls : (Ng.nums sq).length ≤ 10000000 := by rw [List.length_map]; omega
        have hlse : (Ng.nums eq).length ≤ 10000000 := by rw [List.length_map]; omega
        have HQS := Lib.hid (show (Ng.nums sq).length = q by rw [List.length_map]; exact hsq)
        have HQE := Lib.hid (show (Ng.nums eq).length = q by rw [List.length_map]; exact heq)
        have HSQ := Lib.hid hsq
        have HEQ := Lib.hid heq
        clear hsq heq
        clear HM B5
        go_upto_region 13 with (first
          | (at_builtin; refine Nf.appendL rfl _ _ rfl w.heap.size _ (Ng.nums sq) rfl HM5.out.os w3.heap.size 1 _ rfl HN5.out hls hsz5 ?_; intro g5 cp5 w5 O5 gr5 l5; rw [HQS.out]; rw [HQS.out] at O5; have s1 := HM5.out.still gr5 HM5.out.ks (by decide) (by decide) HM5.out.c2; have s2 := s1.1; have s3 := s1.2; clear s1))
        have HM7 := HM5.out.start (x := Mq.free.length) (g := g5) (n := q + 1) (cap := cp5) gr5 (by rw [Ng.nums_snoc]; exact O5) l5
        have HB6 := Lib.hid (HB5.out.trans (Ng.bel gr5 (fun k hk => (World.ownsRow.lt HM5.out.os k hk).1) hsz5 HM5.out.rb 2 (.slice (some ⟨g5, 0, none⟩) (q + 1) cp5)))
        generalize w5.setCell ⟨r, 2, none⟩ (.slice (some ⟨g5, 0, none⟩) (q + 1) cp5) = W6 at *
        clear HM5 O5 gr5 l5 s2 s3 c2 k2 HN5 HB5
        have hsz6' : w.heap.size ≤ W6.heap.size := HB6.out.size
        have B7 := Bs.below1 W6 (.cells #[.int .i64 ((Mq.free.length : Int) + 1)] 3)
        have HM8 := Lib.hid (HM7.up B7)
        have k3 := HM7.c3
        have HN8 := Lib.hid (Ng.new_at W6 _ rfl (.cells #[.int .i64 ((Mq.free.length : Int) + 1)] 3))
        have hsz8 : w.heap.size ≤ (W6.alloc (.cells #[.int .i64 ((Mq.free.length : Int) + 1)] 3)).heap.size := Nat.le_trans hsz6' B7.size
        have HB8 := Lib.hid (HB6.out.trans (B7.mono hsz6'))
        clear HM7 B7
        go_wp2_with (first
          | (at_builtin; refine Nf.appendL rfl _ _ rfl w.heap.size _ (Ng.nums eq) rfl HM8.out.oe W6.heap.size 1 _ rfl HN8.out hlse hsz8 ?_; intro g9 cp9 w9 O9 gr9 l9; rw [HQE.out]; rw [HQE.out] at O9; have s1 := HM8.out.still gr9 HM8.out.ke (by decide) (by decide) HM8.out.c3; have s2 := s1.1; have s3 := s1.2; clear s1))
        have HM9 := Lib.hid (HM8.out.end_ (x := Mq.free.length + 1) (g := g9) (n := q + 1) (cap := cp9) gr9 (by rw [Ng.nums_snoc, show ((Mq.free.length + 1 : Nat) : Int) = (Mq.free.length : Int) + 1 by omega]; exact O9) l9)
        have HB9 := Lib.hid (HB8.out.trans (Ng.bel gr9 (fun k hk => (World.ownsRow.lt HM8.out.oe k hk).1) hsz8 HM8.out.rb 3 (.slice (some ⟨g9, 0, none⟩) (q + 1) cp9)))
        clear HM8 O9 gr9 l9 s2 s3
        go_roundw
        case rel =>
          refine ⟨q + 1, M3, t3, sq ++ [Mq.free.length], eq ++ [Mq.free.length + 1], by omega, by go_num, Lib.hid ?_, Lib.hid ?_, Lib.hid ⟨_, _, _, _, _, _, HM9.out⟩, Lib.hid ?_, HB9, Lib.hid ?_, by simp [HSQ.out], by simp [HEQ.out]⟩
          · rw [← HDB.out.1]; exact HBU.out
          · have h1 := HEN.out
            rw [HDB.out.2] at h1
            simpa using h1
          · rw [H3.out, HTQ.out, HTK.out]
          · exact HF.out.grow HGL.out (by rw [HSD.out]; omega) (by rw [HSD.out]; omega) (by rw [HSD.out]; omega)
        case measure => simp [intOf]; omega
      · have hd : l.drop q = [] := List.drop_eq_nil_of_le (by rw [HN.out]; omega)
        have ht : l.take q = l := List.take_of_length_le (by rw [HN.out]; omega)
        have h1 := HBU.out
        have h2 := HEN.out
        have h3 := HTQ.out
        rw [hd] at h1 h2
        rw [ht] at h3
        simp only [Nf.build, Nf.ends, List.map_nil, List.append_nil] at h1 h2
        have H1 := Lib.hid h1
        have H2 := Lib.hid h2
        have H3 := Lib.hid h3
        have e1 : decide ((q : Int) < (n : Int)) = false := decide_eq_false (by omega)
        have e2 : decide (q < n) = false := decide_eq_false hlt
        clear hd ht h1 h2 h3
        go_wp2_with fail
        go_ret2
        refine .inl ⟨HCD.out, r, tq, rfl, ?_, H3.out, HB.out⟩
        rw [← H1.out, ← H2.out.1, ← H2.out.2]
        exact HAT.out
end Go.Proofs.Ythapedadnbkgnaa
namespace Go.Proofs.Ythapedadnbkgnaa
set_option linter.unusedVariables false
set_option linter.unusedSimpArgs false
open Go.RowKit
def Df.byts (l : List Nat) : List Value := l.map fun (c : Nat) => .int .u8 (c : Int)
theorem Df.byts_append (a b : List Nat) : Df.byts (a ++ b) = Df.byts a ++ Df.byts b := by simp [Df.byts]
def Df.IsB (base : Nat) (v : Value) (l : List Nat) (w : World) : Prop := w.ownsRow base 5 1 v l.length (Df.byts l)
theorem Df.IsB.up {base : Nat} {v : Value} {l : List Nat} {w w' : World} (h : Df.IsB base v l w) (hb : Below w.heap.size w w') : Df.IsB base v l w' := Bs.row_up h hb
theorem Df.infoByte : (Try.prog.info? 5).map (fun i => (i.zero, i.size, i.bytes)) = some (some (.int .u8 0), 1, 1) := by kernel_rfl
def Df.str (l : List Nat) : ByteArray := strOfNums (l.map fun (c : Nat) => (c : Int))
theorem Df.conv {base : Nat} {v : Value} {l : List Nat} {W : World} (h : Df.IsB base v l W) : (convert 72 9 v).run Try.prog W = .ok (.string (Df.str l)) W := by
  rcases h.2 with ⟨rfl, h0⟩ | ⟨g, cap, cur, hv, _⟩
  · have hl : l = [] := List.eq_nil_of_length_eq_zero h0
    subst hl
    exact run_convert_bytes_nil (P := Try.prog) W 72 5 Try.underlying72 Try.underlying5 0 0 9 Try.underlying9
  · subst hv
    refine run_convert_bytes_arg (P := Try.prog) W 72 5 Try.underlying72 Try.underlying5 g 0 l.length cap (l.map fun (c : Nat) => (c : Int)) (by simp) (fun i hi => ?_) 9 Try.underlying9
    have h1 := World.ownsRow.cellAt h i (by omega)
    rw [Nat.zero_add, h1]
    simp [Df.byts, hi, List.getD]
theorem Df.IsB.form {base : Nat} {v : Value} {l : List Nat} {W : World} (h : Df.IsB base v l W) : ∃ a n c, v = .slice a n c := by
  rcases h.2 with ⟨rfl, h0⟩ | ⟨g, cap, cur, hv, _⟩
  · exact ⟨_, _, _, rfl⟩
  · exact ⟨_, _, _, hv⟩
theorem Df.text_len (l : List Int) : (Df.text l).length = 2 * l.length := by
  induction l with
  | nil => rfl
  | cons x r ih => rw [Df.text_cons, List.length_append, ih]; simp [Df.two]; omega
theorem Df.text_append (a b : List Int) : Df.text (a ++ b) = Df.text a ++ Df.text b := by simp [Df.text]
theorem Df.text_take (l : List Int) (k : Nat) (h : k < l.length) : Df.text (l.take (k + 1)) = Df.text (l.take k) ++ Df.two l[k] := by
  rw [List.take_succ_eq_append_getElem h, Df.text_append]
  simp [Df.text]
theorem Df.append2 {ops : Array Oper} {rest : List Oper} {o : Oper} {a : Act} {Q : Exit → Act → World → Prop} {W : World} (hgd : o.guard = none) (s x : Operand)
    (ho : o.op = .call { callee := .builtin .append, args := #[s, x], argTypes := #[72, 72] })
    (base : Nat) (v : Value) (ns : List Nat) (hs : a.eval s = v) (O : Df.IsB base v ns W) (B c : Nat) (u1 u2 : Value) (hx : a.eval x = .slice (some ⟨B, 0, none⟩) 2 c) (hB : W.heap[B]? = some (.cells #[u1, u2] 5)) (hu1 : u1.oneCell' = true) (hu2 : u2.oneCell' = true) (m : Nat) (hm : ns.length = m) (hl : m ≤ 10000000) (hbase : base ≤ W.heap.size)
    (h : ∀ g cap w', w'.ownsRow base 5 1 (.slice (some ⟨g, 0, none⟩) (m + 2) cap) (m + 2) (Df.byts ns ++ [u1, u2]) → W.grownBy w' v.ownBlock → wpList Try.prog ops Q rest (a.put o.dst (.slice (some ⟨g, 0, none⟩) (m + 2) cap)) w') : wpList Try.prog ops Q (o :: rest) a W := by
  subst hm
  obtain ⟨iI, hiI, hz0, hz1, hz2⟩ := info_parts Df.infoByte
  refine wpList_append_lies W hgd s x 72 ho base 5 iI _ 1 1 Try.underlying72 hiI hz0 hz1 hz2 rfl (by decide) v ns.length (Df.byts ns) hs O ⟨B, 0, none⟩ 2 c [u1, u2] hx rfl (World.news_of_block hB) (by simp [hu1, hu2]) (by decide) (by unfold maxLen; omega) (by omega) hbase _ rfl ?_
  intro g cap w' o1 o2 o3 _
  exact h g cap w' o1 o2
theorem Df.byts_two {z : Int} (h : -1 ≤ z ∧ z < 65535) : Df.byts (Df.two z) = [.int .u8 (z / 256 % 256), .int .u8 (z % 256)] := by
  have h1 : ((z / 256 % 256).toNat : Int) = z / 256 % 256 := by omega
  have h2 : ((z % 256).toNat : Int) = z % 256 := by omega
  simp [Df.byts, Df.two, h1, h2]
set_option maxRecDepth 100000 in
set_option maxHeartbeats 1000000 in
theorem textOf_any (l : List Int) (v : Value) (w : World) (h : Nf.Row w (fun _ => True) v l) (hl : l.length ≤ 100000) (hb : Df.Ok l) : Calls Try.prog 73 #[v] w fun e w' => e = .returned (.string (Df.str (Df.text l))) ∧ Below w.heap.size w w' := by
  obtain ⟨iI, hiI, hz0, hz1, hz2⟩ := info_parts Df.infoByte
  obtain ⟨a, n, c, rfl⟩ := h.form
  have HN : Hid (n = l.length) := Lib.hid h.at.1
  have HR := Lib.hid h
  have HOK := Lib.hid hb
  have hn : n ≤ 100000 := by rw [HN.out]; exact hl
  have i0 : IntKind.i64.wrap (2 * (n : Int)) = ((2 * n : Nat) : Int) := by rw [IntWalk.i64_in _ (by omega)]; omega
  obtain ⟨wM, hrM, hoM, hgM⟩ := run_makeSlice_owned (P := Try.prog) w w.heap.size 72 5 iI _ 1 Try.underlying72 hiI hz0 hz1 .i64 .i64 (2 * n) (by omega) (by rw [hz2]; omega) (by unfold maxLen; omega) (Nat.le_refl _)
  rw [show ((2 * n : Nat) : Int) = 2 * (n : Int) by omega] at hrM i0
  clear h hb hl
  go_enter Try.func73, Try.ntmps73
  go_wp2_with fail
  have HO : Hid (Df.IsB w.heap.size (.slice (some ⟨w.heap.size, 0, none⟩) 0 (2 * n)) [] wM) := Lib.hid hoM
  have A0 := Lib.hid (show Below w.heap.size w wM from (Below.refl w.heap.size w).grown hgM (Nat.le_refl _) (fun k hk => by cases hk))
  clear hoM hgM hrM i0
  go_loopw [3, 12] (fun b i wr => ∃ k : Nat, k ≤ n ∧ i = .int .i64 k ∧ Hid (Df.IsB w.heap.size b (Df.text (l.take k)) wr) ∧ Hid (Below w.heap.size w wr)) (fun _ i _ => n - (intOf i).toNat)
  case atStart => exact ⟨0, by omega, rfl, by simpa [Df.text] using HO, A0⟩
  case round =>
    clear HO A0
    obtain ⟨k, hk, rfl, HO, HA⟩ := hrel
    obtain ⟨a3, n3, c3, rfl⟩ := HO.out.form
    by_cases hlt : k < n
    · have hlt' : k < l.length := by rw [← HN.out]; exact hlt
      obtain ⟨x, rfl, hx⟩ := (HR.out.up HA.out).at.2 k hlt'
      have hok := HOK.out _ (List.getElem_mem hlt')
      have HT := Lib.hid (Df.text_take l k hlt')
      generalize l[k] = z at *
      have i1 : (0 : Int) ≤ (k : Int) := by omega
      have i2 : (k : Int) < (n : Int) := by omega
      go_upto_region 5 with fail
      clear hx
      have BW := Bs.below1 wr (.cells #[.int .u8 (z / 256 % 256), .int .u8 (z % 256)] 5)
      have HO2 := Lib.hid (HO.out.up BW)
      have HA2 := Lib.hid (Bs.below_up HA.out BW)
      have hbs : w.heap.size ≤ (wr.alloc (.cells #[.int .u8 (z / 256 % 256), .int .u8 (z % 256)] 5)).heap.size := HA2.out.size
      have HNB := Lib.hid (Ng.new_at wr _ rfl (.cells #[.int .u8 (z / 256 % 256), .int .u8 (z % 256)] 5))
      have HTW := Lib.hid (Df.byts_two hok)
      have HLN := Lib.hid (show (Df.text (l.take k)).length = 2 * k by rw [Df.text_len, List.length_take]; omega)
      clear BW hok HO HA
      go_wp2_with (first | (at_builtin; refine Df.append2 rfl _ _ rfl w.heap.size (.slice a3 n3 c3) (Df.text (l.take k)) rfl HO2.out wr.heap.size 2 _ _ rfl HNB.out rfl rfl (2 * k) HLN.out (by omega) hbs ?_; intro g9 cp9 w9 O9 gr9))
      have HA3 := Lib.hid (HA2.out.grown gr9 hbs (fun i hi => (World.ownsRow.lt HO2.out i hi).1))
      have HO3 : Hid (Df.IsB w.heap.size (.slice (some ⟨g9, 0, none⟩) (2 * k + 2) cp9) (Df.text (l.take (k + 1))) w9) := Lib.hid (by
        unfold Df.IsB
        rw [HT.out, List.length_append, HLN.out, Df.byts_append, HTW.out]
        exact O9)
      clear O9 gr9
      go_roundw
      case rel => exact ⟨k + 1, by omega, by go_num, HO3, HA3⟩
      case measure => simp [intOf]; omega
    · have ht : l.take k = l := List.take_of_length_le (by rw [← HN.out]; omega)
      rw [ht] at HO
      have Q := Df.conv HO.out
      go_wp2_with fail
      go_ret
      exact ⟨rfl, HA.out⟩
end Go.Proofs.Ythapedadnbkgnaa
namespace Go.Proofs.Ythapedadnbkgnaa
set_option linter.unusedVariables false
set_option linter.unusedSimpArgs false
open Go.RowKit
set_option maxRecDepth 100000 in
set_option maxHeartbeats 1000000 in
theorem growI_any (n : Nat) (w : World) (hn : n ≤ 10000000) : Calls Try.prog 96 #[.slice none 0 0, .int .i64 n] w fun e w' => ∃ v, e = .returned v ∧ Nf.Own w.heap.size v [] w' ∧ Below w.heap.size w w' := by
  obtain ⟨iI, hiI, hz0, hz1, hz2⟩ := info_parts Nf.infoInt
  have h1 : ¬ ((n : Int) < 0) := by omega
  have d1 : decide ((n : Int) < 0) = false := decide_eq_false h1
  have i0 : IntKind.i64.wrap (n : Int) = (n : Int) := IntWalk.i64_in _ (by omega)
  by_cases h0 : n = 0
  · subst h0
    go_enter Try.func96, Try.ntmps96
    go_wp2_with fail
    go_ret
    exact ⟨_, rfl, Nf.own_nil _ _, Below.refl _ _⟩
  · have hpos : 0 < n := by omega
    have h2 : (0 : Int) < (n : Int) := by omega
    have d2 : decide ((n : Int) > 0) = true := decide_eq_true (by omega)
    have hrz : ∀ ty, (Builtin.append_ #[38, 3] ty #[.slice none 0 0, .int .i64 n]).run Try.prog w = _ := fun ty => Lib.run_append_nil_zeros w 38 3 ty 3 iI _ .i64 .i64 Try.underlying38 Try.underlying3 hiI hz0 n hpos (by rw [hz1]; decide) (by omega) (by rw [hz2]; omega)
    have hG : n ≤ grownCap w n 0 3 := grownCap_ge w _ _ _
    have hm : grownCap w n 0 3 ≤ maxLen := grownCap_le_maxLen w n 0 3 (by unfold maxLen; omega)
    generalize grownCap w n 0 3 = G at *
    have hsz : (Builtin.zeroCells (Value.int .i64 0).cells n ++ Builtin.zeroCells (Value.int .i64 0).cells (G - n)).size = G * 1 := by
      simp [Builtin.zeroCells, Value.cells]
      omega
    generalize Builtin.zeroCells (Value.int .i64 0).cells n ++ Builtin.zeroCells (Value.int .i64 0).cells (G - n) = Z at *
    have HO := Lib.hid (World.ownsRow_made (base := w.heap.size) (e := 3) (size := 1) w.drew Z G (Nat.le_of_eq (by simp)) hm hsz)
    have A0 : Hid (Below w.heap.size w (w.drew.alloc (.cells Z 3))) := Lib.hid (Bs.below_up (Below.drew (Below.refl _ _)) (Bs.below1 _ _))
    clear hsz hm hz0 hz1 hz2 hiI
    go_enter Try.func96, Try.ntmps96
    go_wp2_with (at_builtin; refine Lib.wpList_append_run _ rfl _ _ _ _ rfl _ _ rfl rfl _ _ (hrz _) ?_)
    go_ret
    exact ⟨_, rfl, HO.out, A0.out⟩
def Df.Rws (w : World) (rows : List Value) (N : List (List Int)) : Prop := rows.length = N.length ∧ ∀ i (h : i < rows.length) (h' : i < N.length), Nf.Row w (fun _ => True) rows[i] N[i]
theorem Df.Rws.up {w w' : World} {rows : List Value} {N : List (List Int)} (h : Df.Rws w rows N) (hb : Below w.heap.size w w') : Df.Rws w' rows N := ⟨h.1, fun i h1 h2 => (h.2 i h1 h2).up hb⟩
def Df.tot (N : List (List Int)) (k : Nat) : Nat := (N.take k).flatten.length
theorem Df.tot_take (N : List (List Int)) (k : Nat) (h : k < N.length) : Df.tot N (k + 1) = Df.tot N k + N[k].length := by
  unfold Df.tot
  rw [List.take_succ_eq_append_getElem h, List.flatten_append, List.flatten_singleton, List.length_append]
theorem Df.flat_take (N : List (List Int)) (k : Nat) (h : k < N.length) : (N.take (k + 1)).flatten = (N.take k).flatten ++ N[k] := by
  rw [List.take_succ_eq_append_getElem h, List.flatten_append, List.flatten_singleton]
theorem Df.tot_le (N : List (List Int)) (k : Nat) : Df.tot N k ≤ N.flatten.length := by
  unfold Df.tot
  conv => rhs; rw [← List.take_append_drop k N]
  rw [List.flatten_append, List.length_append]
  omega
set_option maxRecDepth 100000 in
set_option maxHeartbeats 1000000 in
theorem concatI_any (rows : List Value) (N : List (List Int)) (a : Option Addr) (n c : Nat) (w : World) (hn : rows.length = n) (hS : Ng.Sv w a rows) (hR : Df.Rws w rows N) (hl : N.flatten.length ≤ 1000000) (hc : n ≤ 1000000) :
    Calls Try.prog 87 #[.slice a n c] w fun e w' => ∃ v, e = .returned v ∧ Nf.Own w.heap.size v N.flatten w' ∧ Below w.heap.size w w' := by
  have HN : Hid (rows.length = n) := Lib.hid hn
  have HS := Lib.hid hS
  have HR := Lib.hid hR
  have HL := Lib.hid hl
  clear hn hS hR hl
  go_enter Try.func87, Try.ntmps87
  go_wp2_with fail
  go_loopw [3, 5, 11] (fun s _ i wr => ∃ k : Nat, k ≤ n ∧ i = .int .i64 k ∧ s = .int .i64 (Df.tot N k : Nat) ∧ wr = w) (fun _ _ i _ => n - (intOf i).toNat)
  case atStart => exact ⟨0, by omega, rfl, by simp [Df.tot], by first | rfl | trivial⟩
  case round =>
    obtain ⟨k, hk, rfl, rfl, hwr⟩ := hrel
    subst hwr
    by_cases hlt : k < n
    · have hk1 : k < rows.length := by rw [HN.out]; exact hlt
      have hk2 : k < N.length := by rw [← HR.out.1]; exact hk1
      obtain ⟨ad, rfl, hx⟩ := HS.out k hk1
      obtain ⟨a5, c5, e5, _⟩ := HR.out.2 k hk1 hk2
      rw [e5] at hx
      have HT := Lib.hid (Df.tot_take N k hk2)
      have hle : Df.tot N k + N[k].length ≤ 1000000 := by rw [← HT.out]; exact Nat.le_trans (Df.tot_le N _) HL.out
      generalize N[k].length = m at *
      clear e5
      have i1 : (0 : Int) ≤ (k : Int) := by omega
      have i2 : (k : Int) < (n : Int) := by omega
      have i3 : IntKind.i64.wrap (((Df.tot N k : Nat) : Int) + (m : Int)) = ((Df.tot N (k + 1) : Nat) : Int) := by rw [HT.out, IntWalk.i64_in _ (by omega)]; omega
      have i4 : ¬ (((Df.tot N (k + 1) : Nat) : Int) < 0) := by omega
      have i5 : decide (((Df.tot N (k + 1) : Nat) : Int) < 0) = false := decide_eq_false i4
      obtain ⟨t2, ht2⟩ : ∃ t2, t2 = Df.tot N (k + 1) := ⟨_, rfl⟩
      rw [← ht2] at i3 i4 i5
      have HT2 := Lib.hid ht2
      clear ht2
      go_wp2_with fail
      go_roundw
      case rel => exact ⟨k + 1, by omega, by go_num, by rw [← HT2.out], by first | rfl | trivial⟩
      case measure => simp [intOf]; omega
    · obtain rfl : k = n := by omega
      obtain ⟨W0, hW0⟩ : ∃ W, W = wr := ⟨_, rfl⟩
      subst hW0
      have HE := Lib.hid (show Df.tot N k = N.flatten.length by unfold Df.tot; rw [List.take_of_length_le (by rw [← HR.out.1, HN.out]; omega)])
      have hle : Df.tot N k ≤ 1000000 := by rw [HE.out]; exact HL.out
      generalize Df.tot N k = t at *
      go_wp2_with fail
      refine (growI_any t _ (by omega)).mono ?_
      rintro e w1 ⟨v1, rfl, o1, b1⟩
      have HO1 : Hid (Nf.Own W0.heap.size v1 (N.take 0).flatten w1) := Lib.hid (by simpa using o1)
      have A1 := Lib.hid b1
      clear o1 b1
      go_wp2_with fail
      go_loopw [6, 8, 27] (fun s _ i wq => ∃ k' : Nat, k' ≤ k ∧ i = .int .i64 k' ∧ Hid (Nf.Own W0.heap.size s (N.take k').flatten wq) ∧ Hid (Below W0.heap.size W0 wq)) (fun _ _ i _ => k - (intOf i).toNat)
      case atStart => exact ⟨0, by omega, rfl, HO1, A1⟩
      case round =>
        clear HO1 A1
        obtain ⟨k', hk', rfl, HO, HA⟩ := hrel
        by_cases hlt' : k' < k
        · have hk1 : k' < rows.length := by rw [HN.out]; exact hlt'
          have hk2 : k' < N.length := by rw [← HR.out.1]; exact hk1
          obtain ⟨ad, rfl, hx⟩ := (HS.out.up HA.out) k' hk1
          obtain ⟨a5, c5, e5, _, _, hs5, _⟩ := ((HR.out.up HA.out).2 k' hk1 hk2)
          rw [e5] at hx
          clear e5
          have HS5 := Lib.hid hs5
          have HF := Lib.hid (Df.flat_take N k' hk2)
          have hle' : ((N.take k').flatten).length + N[k'].length ≤ 10000000 := by
            rw [← List.length_append, ← HF.out]
            exact Nat.le_trans (Df.tot_le N (k' + 1)) (Nat.le_trans HL.out (by omega))
          have HLE := Lib.hid hle'
          have hbs : W0.heap.size ≤ wr.heap.size := HA.out.size
          clear hle' hs5
          generalize N[k'] = l5 at *
          obtain ⟨m5, hm5⟩ : ∃ m5, l5.length = m5 := ⟨_, rfl⟩
          have HM5 := Lib.hid hm5
          rw [hm5] at hx
          clear hm5
          have i1 : (0 : Int) ≤ (k' : Int) := by omega
          have i2 : (k' : Int) < (k : Int) := by omega
          go_wp2_with (first | (at_builtin; refine Nf.append rfl _ _ rfl W0.heap.size _ _ rfl HO.out a5 c5 m5 l5 HM5.out rfl HS5.out HLE.out hbs ?_; intro v9 w9 O9 gr9))
          have HA9 := Lib.hid (HA.out.grown gr9 hbs (fun i hi => (World.ownsRow.lt HO.out i hi).1))
          have HO9 : Hid (Nf.Own W0.heap.size v9 (N.take (k' + 1)).flatten w9) := Lib.hid (by rw [HF.out]; exact O9)
          clear O9 gr9
          go_roundw
          case rel => exact ⟨k' + 1, by omega, by go_num, HO9, HA9⟩
          case measure => simp [intOf]; omega
        · have ht : N.take k' = N := List.take_of_length_le (by rw [← HR.out.1, HN.out]; omega)
          rw [ht] at HO
          go_wp2_with fail
          go_ret
          exact ⟨_, rfl, HO.out, HA.out⟩
end Go.Proofs.Ythapedadnbkgnaa
