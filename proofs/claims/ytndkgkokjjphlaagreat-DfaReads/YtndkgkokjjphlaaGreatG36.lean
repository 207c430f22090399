/- The law NfaRuns, walked. The law DfaReads, walked. An expression that comes in, opened to its tree. Rows of expressions, and fronts, that come in, opened. -/
import Derived.Test.YtndkgkokjjphlaaGreatG34
import Derived.Test.YtndkgkokjjphlaaGreatG6
import Derived.Test.YtndkgkokjjphlaaGreatG35
import Derived.Test.YtndkgkokjjphlaaGreatG32
import Derived.Test.YtndkgkokjjphlaaGreatG3
import Derived.Deep.Slices
import Derived.ChangeSame
import Derived.OpenShut
import Derived.WideKeyArr2
import Derived.Laws.IdiomArrays
namespace Go.Proofs.YtndkgkokjjphlaaGreat
set_option linter.unusedVariables false
set_option linter.unusedSimpArgs false
open Go.RowKit
theorem Nr.by_px (s : ByteArray) : Tb.by s = Px.by s := by
  funext i
  simp only [Tb.by, Px.by]
  split
  · rename_i h
    have h' : i < s.data.toList.length := by simpa using h
    rw [List.getD_eq_getElem?_getD, List.getElem?_eq_getElem h']
    simp only [Option.getD_some, Array.getElem_toList]
    rfl
  · rename_i h
    have h' : s.data.toList.length ≤ i := by
      have : ¬ i < s.data.toList.length := by simpa using h
      omega
    rw [List.getD_eq_getElem?_getD, List.getElem?_eq_none h']
    rfl
theorem Ng.code_size {l : List Rx} (h : Ng.code l = 0) : ∀ y ∈ l, y.size ≤ 400 := by
  intro y hy
  have hm : y.may 1 = true := by
    cases hm : y.may 1 with
    | true => rfl
    | false =>
      unfold Ng.code at h
      rw [if_pos (by rw [Bool.or_eq_true]; exact .inr (List.any_eq_true.2 ⟨y, hy, by simp [hm]⟩))] at h
      omega
  exact (Rx.may_iff.1 hm).2.2
def Nr.hit (l : List Rx) (s : ByteArray) (k : Nat) : Bool := match l[k]? with
  | some x => Rx.sp (Tb.by s) s.size x 0 s.size
  | none => false
theorem Nr.hit_get {l : List Rx} {s : ByteArray} {k : Nat} (h : k < l.length) : Nr.hit l s k = Rx.sp (Tb.by s) s.size l[k] 0 s.size := by
  unfold Nr.hit
  rw [List.getElem?_eq_getElem h]
theorem Nr.frr_hit {l : List Rx} (hw : Rx.wfL l = true) (s : ByteArray) (r : Nat) : Nf.frr l (Px.by s) s.size r ↔ Nr.hit l s r = true := by
  rw [Nf.frr_go hw]
  constructor
  · rintro ⟨h, hg⟩
    rw [Nr.hit_get h, Nr.by_px]
    exact (Rx.sp_iff _ _ _ (Rx.wfL_all.1 hw _ (List.getElem_mem h)) 0 s.size (by omega)).2 hg
  · intro h
    have hl : r < l.length := by
      unfold Nr.hit at h
      cases e : l[r]? with
      | none => rw [e] at h; simp at h
      | some x => exact (List.getElem?_eq_some_iff.1 e).1
    refine ⟨hl, ?_⟩
    rw [Nr.hit_get hl, Nr.by_px] at h
    exact (Rx.sp_iff _ _ _ (Rx.wfL_all.1 hw _ (List.getElem_mem hl)) 0 s.size (by omega)).1 h
structure Nr.From (l : List Rx) (s : ByteArray) (k : Nat) (mn : Int) (ok : Bool) : Prop where
  no : ok = false → mn = 0 ∧ ∀ j, k ≤ j → Nr.hit l s j = false
  yes : ok = true → ∃ m : Nat, mn = m ∧ k ≤ m ∧ Nr.hit l s m = true ∧ ∀ j, k ≤ j → j < m → Nr.hit l s j = false
theorem Nr.From.hit {l : List Rx} {s : ByteArray} {k : Nat} {mn : Int} {ok : Bool} (h : Nr.hit l s k = true) : Nr.From l s k k true := ⟨fun e => by simp at e, fun _ => ⟨k, rfl, by omega, h, fun j h1 h2 => by omega⟩⟩
theorem Nr.From.miss {l : List Rx} {s : ByteArray} {k : Nat} {mn : Int} {ok : Bool} (H : Nr.From l s (k + 1) mn ok) (h : Nr.hit l s k = false) : Nr.From l s k mn ok := by
  have two : ∀ j, k ≤ j → j = k ∨ k + 1 ≤ j := fun j hj => by omega
  refine ⟨fun e => ⟨(H.no e).1, fun j hj => ?_⟩, fun e => ?_⟩
  · rcases two j hj with rfl | hj
    · exact h
    · exact (H.no e).2 j hj
  · obtain ⟨m, h1, h2, h3, h4⟩ := H.yes e
    refine ⟨m, h1, by omega, h3, fun j hj hm => ?_⟩
    rcases two j hj with rfl | hj
    · exact h
    · exact h4 j hj hm
theorem Nr.from_end (l : List Rx) (s : ByteArray) (k : Nat) (h : l.length ≤ k) : Nr.From l s k 0 false := ⟨fun _ => ⟨rfl, fun j hj => by
  unfold Nr.hit
  rw [List.getElem?_eq_none (by omega)]⟩, fun e => by simp at e⟩
theorem Nr.rule_from {l : List Rx} (hw : Rx.wfL l = true) {s : ByteArray} {fr : List Int} (h : Nf.Rise fr (Nf.frr l (Px.by s) s.size)) {mn : Int} {ok : Bool} (H : Nr.From l s 0 mn ok) : Nf.rule fr = (mn, ok) := by
  cases ok with
  | false =>
    obtain ⟨h1, h2⟩ := H.no rfl
    have : fr = [] := by
      cases fr with
      | nil => rfl
      | cons x r =>
        have h0 := h.nn x (by simp)
        obtain ⟨k, rfl⟩ : ∃ k : Nat, x = k := ⟨x.toNat, by omega⟩
        have h3 := (h.is k).1 (by simp)
        rw [Nr.frr_hit hw, h2 k (by omega)] at h3
        simp at h3
    rw [this, h1]
    rfl
  | true =>
    obtain ⟨m, rfl, _, h3, h4⟩ := H.yes rfl
    have hm := (h.is m).2 ((Nr.frr_hit hw s m).2 h3)
    cases fr with
    | nil => simp at hm
    | cons x r =>
      simp only [Nf.rule]
      have h5 := Nr.rule_le (x :: r) m hm
      simp only [Nf.rule] at h5
      have h6 : Nf.least x r ∈ x :: r := by
        rcases Nf.least_mem r x with e | e
        · rw [e]; simp
        · exact List.mem_cons_of_mem _ e
      have h0 := h.nn _ h6
      obtain ⟨k, hk⟩ : ∃ k : Nat, Nf.least x r = k := ⟨(Nf.least x r).toNat, by omega⟩
      rw [hk] at h5 h6 ⊢
      have h7 := (h.is k).1 h6
      rw [Nr.frr_hit hw] at h7
      have : ¬ k < m := fun hlt => by rw [h4 k (by omega) hlt] at h7; simp at h7
      have : k = m := by omega
      rw [this]
end Go.Proofs.YtndkgkokjjphlaaGreat
namespace Go.Proofs.YtndkgkokjjphlaaGreat
set_option linter.unusedVariables false
set_option linter.unusedSimpArgs false
open Go.RowKit
namespace Df
theorem Plan.silent {l : List Rx} {F : List Fr} {nx : List (List Nat)} {r p : List Int} {st : Nat} {S : List Nat} (h : Plan l F nx r p st S) {b : Nat → Nat} (hb : ∀ i, b i < 256) (q : Nat) (hk : rle (Df.fat l b q).2 = -1) : Df.rlv (kg l) (tN p nx S) (tR r S) (Df.rnv (kg l) (tN p nx S) (tR r S) b q) = (0, false) := by
  have hrt := h.rtg
  have hr := h.rule hb q
  unfold Df.rlv Df.rnv
  rw [if_pos hrt, kg_rn l _ hb]
  refine if_neg ?_
  rintro ⟨_, h2, _, h4⟩
  rw [(hr.2 h2).1, hk] at h4
  omega
theorem Plan.hits {l : List Rx} {F : List Fr} {nx : List (List Nat)} {r p : List Int} {st : Nat} {S : List Nat} (h : Plan l F nx r p st S) (hw : Rx.wfL l = true) (s : ByteArray) {mn : Int} {ok : Bool} (H : Nr.From l s 0 mn ok) : Df.rlv (kg l) (tN p nx S) (tR r S) (Df.rnv (kg l) (tN p nx S) (tR r S) (Px.by s) s.size) = (mn, ok) := by
  have hr := Nr.rule_from hw (Df.fat_rise l (Px.by s) s.size).2 H
  cases ok with
  | false =>
    rw [(H.no rfl).1]
    refine h.silent (Df.by_lt s) _ ?_
    unfold rle
    rw [hr]
    rfl
  | true =>
    obtain ⟨m, rfl, _⟩ := H.yes rfl
    refine h.says (Df.by_lt s) _ ?_ (by omega)
    unfold rle
    rw [hr]
    rfl
end Df
def Df.relB (D : Array Value) (s : ByteArray) (k x : Int) (ok : Bool) : List (Value → World → Prop) :=
  [fun v _ => v = .agg D, fun v _ => v = .agg D, fun v _ => v = .string s, fun v _ => v = .int .i64 k, fun v _ => v = .tuple #[.int .i64 x, .bool ok], fun v _ => v = .tuple #[.int .i64 x, .bool ok], fun v _ => v = .int .i64 x, fun v _ => v = .bool ok, fun v _ => v = .int .i64 x, fun v _ => v = .bool ok]
theorem Df.relB_up (D : Array Value) (s : ByteArray) (k x : Int) (ok : Bool) : Rg.Ups (Df.relB D s k x ok) := by
  refine ⟨?_, ?_, ?_, ?_, ?_, ?_, ?_, ?_, ?_, ?_, trivial⟩ <;> exact fun v w w' h _ => h
set_option maxRecDepth 100000 in
set_option maxHeartbeats 4000000 in
theorem dfaReadsLaw_any (l : List Rx) (hln : l.length ≤ maxLen) (al : Option Addr) (cap : Nat) (w : World) (hl : Rx.InL w l al 0) (s : ByteArray) (hs : s.size ≤ maxLen) : Calls Tryz.prog 4 #[.slice al l.length cap, .string s] w (Bs.BPost w true) := by
  have HMS := Lib.hid hs
  have hs : s.size ≤ 9223372036854775807 := by have := HMS.out; unfold maxLen at this; omega
  obtain ⟨n, hn⟩ : ∃ n, l.length = n := ⟨_, rfl⟩
  have HN := Lib.hid hn
  have HLN := Lib.hid hln
  have HL := Lib.hid hl
  rw [hn] at hln ⊢
  clear hn hl
  have AL := Lib.hid (alive8_any w)
  go_enter Tryz.func4, Tryz.ntmps4
  go_wp2_with fail
  refine AL.out.mono ?_
  rintro e w1 ⟨rfl, A⟩
  replace HL := Lib.hid (HL.out.up A)
  have G := Lib.hid (great_any l HLN.out al cap w1 HL.out)
  rw [HN.out] at G
  clear AL
  go_wp2_with fail
  refine G.out.mono ?_
  rintro e w2 ⟨rfl, b1⟩
  replace A := Bs.below_up A b1
  replace HL := Lib.hid (HL.out.up b1)
  clear G b1
  cases hg : Ng.great l
  case true =>
    clear hg
    go_wp2_with fail
    go_ret
    exact ⟨rfl, A⟩
  case false =>
    have hl40 : n ≤ 40 := by rw [← HN.out]; exact Nr.great_len hg
    have HL10 := Lib.hid (show l.length ≤ 1000 by rw [HN.out]; omega)
    clear hg
    by_cases h20 : 20 < s.size
    · have e1 : decide ((20 : Int) < (s.size : Int)) = true := decide_eq_true (by omega)
      have e2 : decide (20 < s.size) = true := decide_eq_true h20
      go_wp2_with fail
      go_ret
      exact ⟨rfl, A⟩
    have e1 : decide ((20 : Int) < (s.size : Int)) = false := decide_eq_false (by omega)
    have e2 : decide (20 < s.size) = false := decide_eq_false h20
    have C := Lib.hid (build_any l HL10.out al cap w2 HL.out)
    rw [HN.out] at C
    go_wp2_with fail
    clear e1 e2
    refine C.out.mono ?_
    rintro e w3 hpo
    by_cases hcd : Ng.code l = 0
    · obtain ⟨r, rfl, MC, b1⟩ := Ng.build_yes hpo hcd
      replace A := Bs.below_up A b1
      replace HL := Lib.hid (HL.out.up b1)
      have HM1 := Lib.hid MC
      have HWF := Lib.hid (Ng.fits_of hcd).wf
      have HSZ := Lib.hid (Ng.code_size hcd)
      have C1 := Lib.hid (buildD_any w3 _ r l HM1.out)
      have zz := Df.zero258.1
      have HZ0 := Df.zT_size
      clear C hpo MC b1
      go_upto_region 8 with fail
      go_wp2_with fail
      refine C1.out.mono ?_
      rintro e w5 hpo
      have HZ := Lib.hid (heap_alloc_new w5 (.cells Df.zT 42))
      rcases hpo with ⟨v, F, nx, p, st, S, rfl, tv, bel, pl⟩ | ⟨rfl, bel, _⟩
      rotate_left
      · have HZI := Lib.hid (show (Tryz.prog.info? 42).map (·.size) = some Df.zT.size by rw [Df.zT_size]; exact Df.zero258.2)
        have HZO := Lib.hid (show Df.zT.all (·.oneCell') = true by unfold Df.zT Bs.zeros; rw [Array.all_append, Bs.arr_one]; simp [Value.oneCell'])
        have hb := Df.below_row (Bs.below1 w5 (.cells Df.zT 42)) (Nat.le_refl _) Df.zT
        replace A := Bs.below_up (Bs.below_up A bel) hb
        clear HM1 C1 bel hb HZ0 HWF HSZ
        generalize Df.zT = D at *
        go_wp2_with (first
          | (refine wpList_store_row rfl 42 _ _ rfl w5.heap.size D rfl rfl 42 D HZ.out HZI.out rfl HZO.out ?_))
        go_ret
        exact ⟨rfl, A⟩
      obtain ⟨t1, m1, q1, rows, t2, m2, q2, rfl, _, _⟩ := tv.is
      unfold Df.tab at tv ⊢
      have hsz : (Bs.arr (Df.kg l) ++ #[Value.slice t1 m1 q1, Value.slice t2 m2 q2]).size = 258 := by rw [Array.size_append, Bs.arr_size]; rfl
      have hone : (Bs.arr (Df.kg l) ++ #[Value.slice t1 m1 q1, Value.slice t2 m2 q2]).all (·.oneCell') = true := by rw [Array.all_append, Bs.arr_one]; simp [Value.oneCell']
      generalize Bs.arr (Df.kg l) ++ #[Value.slice t1 m1 q1, Value.slice t2 m2 q2] = D at *
      have HDI := Lib.hid (show (Tryz.prog.info? 42).map (·.size) = some D.size by rw [hsz]; exact Df.zero258.2)
      have HDO := Lib.hid hone
      have HDS := Lib.hid hsz
      have HPL := Lib.hid pl
      have hb := Df.below_row (Bs.below1 w5 (.cells Df.zT 42)) (Nat.le_refl _) D
      have HRW := Lib.hid (show Df.AW ((w5.alloc (.cells Df.zT 42)).setRow w5.heap.size D) w5.heap.size D (Df.kg l) (Df.tN p nx S) (Df.tR (Df.rl F) S) ((w5.alloc (.cells Df.zT 42)).setRow w5.heap.size D) from
        ⟨setRow_heap _ _ _ _ _ _ HZ.out, tv.up hb, Below.refl _ _⟩)
      replace A := Bs.below_up (Bs.below_up A bel) hb
      replace HL := Lib.hid ((HL.out.up bel).up hb)
      clear HM1 C1 hsz hone tv bel hb HZ0 pl
      go_upto_region 11 with (first
        | (refine wpList_store_row rfl 42 _ _ rfl w5.heap.size D rfl rfl 42 Df.zT HZ.out HDI.out (by rw [Df.zT_size, HDS.out]) HDO.out ?_))
      clear zz HZ
      generalize (w5.alloc (.cells Df.zT 42)).setRow w5.heap.size D = W5 at *
      generalize w5.heap.size = b7 at *
      obtain ⟨K1, hK1⟩ : ∃ K, Df.rnv (Df.kg l) (Df.tN p nx S) (Df.tR (Df.rl F) S) (Px.by s) s.size = K := ⟨_, rfl⟩
      obtain ⟨X1, hX1⟩ : ∃ K, (Df.rlv (Df.kg l) (Df.tN p nx S) (Df.tR (Df.rl F) S) K1).1 = K := ⟨_, rfl⟩
      obtain ⟨O1, hO1⟩ : ∃ K, (Df.rlv (Df.kg l) (Df.tN p nx S) (Df.tR (Df.rl F) S) K1).2 = K := ⟨_, rfl⟩
      have hs1 : Df.rlv (Df.kg l) (Df.tN p nx S) (Df.tR (Df.rl F) S) K1 = (X1, O1) := by rw [← hX1, ← hO1]
      have HRU := Lib.hid (fun (mn : Int) (ok : Bool) (H : Nr.From l s 0 mn ok) => show mn = X1 ∧ ok = O1 from by
        have := HPL.out.hits HWF.out s H
        rw [hK1, hs1] at this
        injection this with a b
        exact ⟨a.symm, b.symm⟩)
      have HC1 := Lib.hid (fun u h => Df.run_says (v := .agg D) s s.size rfl (by omega) hK1 u h)
      have HD1 := Lib.hid (fun u h => Df.rule_says (v := .agg D) hs1 u h)
      clear hs1 hK1 hX1 hO1 HPL
      refine Rg.regionW (by kernel_rfl) (by kernel_rfl) (Rg.rel (Df.relB D s K1 X1 O1)) (Df.AW W5 b7 D (Df.kg l) (Df.tN p nx S) (Df.tR (Df.rl F) S)) (fun w w' => Below w.heap.size w w') (fun i v w w' h _ hb => Rg.rel_up (Df.relB_up _ _ _ _ _) h hb) (HRW.out.up (Below.refl _ _).drew) ⟨?_, ?_, ?_, ?_, ?_, ?_, ?_, ?_, ?_, ?_, trivial⟩ ?_
      · intro f' u hw hd
        have HU := Lib.hid hw
        clear hw hd
        simp only [Rg.all, Act.put, List.setIfInBounds_toArray, List.set_cons_zero, List.set_cons_succ]
        exact Df.step_load 42 (.tmp 7) rfl b7 rfl 42 D (0, 0) _ HU.out.row Tryz.underlying42 rfl HDI.out ⟨rfl, HU.out, Below.refl _ _⟩
      · intro f' u hw hd
        have HU := Lib.hid hw
        clear hw hd
        simp only [Rg.all, Act.put, List.setIfInBounds_toArray, List.set_cons_zero, List.set_cons_succ]
        exact Df.step_load 42 (.tmp 7) rfl b7 rfl 42 D (0, 0) _ HU.out.row Tryz.underlying42 rfl HDI.out ⟨rfl, HU.out, Below.refl _ _⟩
      · intro f' u hw hd
        have HU := Lib.hid hw
        clear hw hd
        simp only [Rg.step, Rg.all, Act.put, List.setIfInBounds_toArray, List.set_cons_zero, List.set_cons_succ]
        go_simp
        exact ⟨rfl, HU.out, Below.refl _ _⟩
      · intro f' u hw hd
        have r1 : f' 1 = .agg D := hd _ (List.mem_cons_self ..) rfl
        have r2 : f' 2 = .string s := hd _ (List.mem_cons_of_mem _ (List.mem_cons_self ..)) rfl
        have C := Lib.hid (HC1.out u hw.tv)
        have HU := Lib.hid hw
        clear hw hd
        simp only [Rg.step, Rg.all, Act.put, List.setIfInBounds_toArray, List.set_cons_zero, List.set_cons_succ]
        go_simp
        refine C.out.mono ?_
        rintro e u1 ⟨rfl, b3⟩
        exact ⟨_, rfl, rfl, HU.out.up b3, b3⟩
      · intro f' u hw hd
        have r0 : f' 0 = .agg D := hd _ (List.mem_cons_self ..) rfl
        have r2 : f' 3 = .int .i64 K1 := hd _ (List.mem_cons_of_mem _ (List.mem_cons_self ..)) rfl
        have C := Lib.hid (HD1.out u hw.tv)
        have HU := Lib.hid hw
        clear hw hd
        simp only [Rg.step, Rg.all, Act.put, List.setIfInBounds_toArray, List.set_cons_zero, List.set_cons_succ]
        go_simp
        refine C.out.mono ?_
        rintro e u1 ⟨rfl, b3⟩
        exact ⟨_, rfl, rfl, HU.out.up b3, b3⟩
      · intro f' u hw hd
        have r := (show f' 4 = .tuple #[.int .i64 X1, .bool O1] from hd _ (List.mem_cons_self ..) rfl)
        have HU := Lib.hid hw
        clear hw hd
        simp only [Rg.step, Rg.all, Act.put, List.setIfInBounds_toArray, List.set_cons_zero, List.set_cons_succ]
        go_simp
        exact ⟨rfl, HU.out, Below.refl _ _⟩
      · intro f' u hw hd
        have r := (show f' 5 = .tuple #[.int .i64 X1, .bool O1] from hd _ (List.mem_cons_self ..) rfl)
        have HU := Lib.hid hw
        clear hw hd
        simp only [Rg.step, Rg.all, Act.put, List.setIfInBounds_toArray, List.set_cons_zero, List.set_cons_succ]
        go_simp
        exact ⟨rfl, HU.out, Below.refl _ _⟩
      · intro f' u hw hd
        have r := (show f' 5 = .tuple #[.int .i64 X1, .bool O1] from hd _ (List.mem_cons_self ..) rfl)
        have HU := Lib.hid hw
        clear hw hd
        simp only [Rg.step, Rg.all, Act.put, List.setIfInBounds_toArray, List.set_cons_zero, List.set_cons_succ]
        go_simp
        exact ⟨rfl, HU.out, Below.refl _ _⟩
      · intro f' u hw hd
        have r := (show f' 6 = .int .i64 X1 from hd _ (List.mem_cons_self ..) rfl)
        have HU := Lib.hid hw
        clear hw hd
        simp only [Rg.step, Rg.all, Act.put, List.setIfInBounds_toArray, List.set_cons_zero, List.set_cons_succ]
        go_simp
        exact ⟨rfl, HU.out, Below.refl _ _⟩
      · intro f' u hw hd
        have r := (show f' 7 = .bool O1 from hd _ (List.mem_cons_self ..) rfl)
        have HU := Lib.hid hw
        clear hw hd
        simp only [Rg.step, Rg.all, Act.put, List.setIfInBounds_toArray, List.set_cons_zero, List.set_cons_succ]
        go_simp
        exact ⟨rfl, HU.out, Below.refl _ _⟩
      intro f' w6 hw hR
      have r7 : f' 8 = .int .i64 X1 := hR 8 (by decide)
      have r8 : f' 9 = .bool O1 := hR 9 (by decide)
      replace A := Bs.below_up A hw.bel
      replace HL := Lib.hid (HL.out.up hw.bel)
      clear hw hR HRW HC1 HD1
      simp only [Rg.all, Act.put, List.setIfInBounds_toArray, List.set_cons_zero, List.set_cons_succ, r7, r8]
      clear r7 r8
      have hmx : n ≤ 1000 := by omega
      have i0 : IntKind.i64.wrap ((n : Int) - 1) = (n : Int) - 1 := IntWalk.i64_in _ (by omega)
      go_wp2_with fail
      go_loopw [11, 12, 13] (fun m b i wr => ∃ (k : Nat) (mn : Int) (ok : Bool), k ≤ n ∧ i = .int .i64 ((k : Int) - 1) ∧ m = .int .i64 mn ∧ b = .bool ok ∧ Hid (Nr.From l s k mn ok) ∧ Hid (Below w6.heap.size w6 wr)) (fun _ _ i _ => (intOf i + 1).toNat)
      case atStart => exact ⟨n, 0, false, by omega, rfl, rfl, rfl, Lib.hid (Nr.from_end l s n (by rw [HN.out]; omega)), Lib.hid (Below.refl _ _)⟩
      case round =>
        obtain ⟨k, mn, ok, hk, rfl, rfl, rfl, HFR, HBW⟩ := hrel
        cases k with
        | zero =>
          obtain ⟨hp1, hp2⟩ := HRU.out mn ok HFR.out
          subst hp1
          subst hp2
          replace A := Bs.below_up A HBW.out
          go_wp2_with fail
          go_ret
          exact ⟨rfl, A⟩
        | succ k =>
          have hkl : k < l.length := by rw [HN.out]; omega
          obtain ⟨p, rfl, hp⟩ := (HL.out.up HBW.out).get k hkl
          rw [Nat.zero_add] at hp
          have hyw := Rx.wfL_all.1 HWF.out _ (List.getElem_mem hkl)
          have hys := HSZ.out _ (List.getElem_mem hkl)
          have HHG := Lib.hid (Nr.hit_get (s := s) hkl)
          generalize l[k] = y at *
          obtain ⟨k1, f1, a1, n1, cap1, ⟨x0, x1, x2, x3, x4, x5⟩, hi⟩ := hp.open
          have C := Lib.hid (refMatches_any s (by omega) y (by omega) hyw _ wr hi)
          rw [← HHG.out] at C
          unfold Rx.hdr at C
          have i1 : ((k : Int) + 1 - 1) = (k : Int) := by omega
          have i2 : (0 : Int) ≤ (k : Int) := by omega
          have i3 : (k : Int) < (n : Int) := by omega
          have i4 : IntKind.i64.wrap ((k : Int) - 1) = (k : Int) - 1 := IntWalk.i64_in _ (by omega)
          have i5 : (((k + 1 : Nat) : Int) - 1) = (k : Int) := by omega
          rw [i5]
          clear hp hi
          go_wp2_with fail
          refine C.out.mono ?_
          rintro e w7 ⟨rfl, b1⟩
          have HB7 := Lib.hid (Bs.below_up HBW.out b1)
          clear C x0 x1 x2 x3 x4 x5 b1
          cases hh : Nr.hit l s k
          · have HF9 := Lib.hid (HFR.out.miss hh)
            clear hh
            go_wp2_with fail
            go_roundw
            case rel => exact ⟨_, _, _, _, _, _, _, _, _, _, _, _, _, _, ⟨k, _, _, by omega, by go_num, rfl, rfl, HF9, HB7⟩, rfl⟩
            case measure => simp [intOf] <;> omega
          · have HF9 := Lib.hid (Nr.From.hit (mn := 0) (ok := false) hh)
            clear hh
            go_wp2_with fail
            go_roundw
            case rel => exact ⟨_, _, _, _, _, _, _, _, _, _, _, _, _, _, ⟨k, _, _, by omega, by go_num, rfl, rfl, HF9, HB7⟩, rfl⟩
            case measure => simp [intOf] <;> omega
    · obtain ⟨rfl, b1⟩ := Ng.build_no hpo hcd
      replace A := Bs.below_up A b1
      have hcb : Ng.code l = 1 ∨ Ng.code l = 21 := by
        revert hcd
        unfold Ng.code
        split
        · intro _; exact .inl rfl
        · split
          · intro _; exact .inr rfl
          · intro h; exact absurd rfl h
      clear C hpo b1 hcd
      rcases hcb with h | h
      · rw [h]
        clear h
        go_wp2_with fail
        go_ret
        exact ⟨rfl, A⟩
      · rw [h]
        clear h
        go_wp2_with fail
        go_ret
        exact ⟨rfl, A⟩
end Go.Proofs.YtndkgkokjjphlaaGreat
namespace Go.Proofs.YtndkgkokjjphlaaGreat
set_option linter.unusedVariables false
set_option linter.unusedSimpArgs false
open Go.ChangeShapes Go.WideShapes Go.Deep Go.RowKit
theorem Rx.add_zero (a : Addr) : a.add 0 = a := by unfold Addr.add; rw [if_pos rfl]
theorem Rx.add_form (a : Addr) (n : Nat) (h : n ≠ 0) : a.add n = ⟨a.block, a.off + n, none⟩ := by unfold Addr.add; rw [if_neg h]
theorem Rx.word_nat {x : Int} (h : (Lit.int .u64 x).wf = true) : ∃ n : Nat, x = n ∧ n < 18446744073709551616 := by
  simp [Lit.wf, IntKind.min, IntKind.max, IntKind.signed, IntKind.bits] at h
  exact ⟨x.toNat, by omega, by omega⟩
theorem Rx.byte_nat {x : Int} (h : (Lit.int .u8 x).wf = true) : ∃ n : Nat, x = n ∧ n < 256 := by
  simp [Lit.wf, IntKind.min, IntKind.max, IntKind.signed, IntKind.bits] at h
  exact ⟨x.toNat, by omega, by omega⟩
theorem Rx.reg_cells : Tryz.prog.cellsOf 57 = 6 := by kernel_rfl
theorem Rx.one_byte : Tryz.prog.cellsOf 5 = 1 := by kernel_rfl
theorem Rx.set_cells : Tryz.prog.cellsOf 55 = 4 := by kernel_rfl
theorem Rx.one_row : Tryz.prog.cellsOf 22 = 1 := by kernel_rfl
theorem Rx.set_open {H : Type} {enc : TypeId × Value → H} {W : World} {base : Nat} {spare : Nat → Bool} {held : Bool} {fuel : Nat} {v0 v1 v2 v3 : Value} {x : DataW H × List MemPlace}
    (h : DataW.trod enc Tryz.prog W base spare held fuel 55 [v0, v1, v2, v3] = some x) : ∃ f : Nat → Bool, v0 = .int .u64 (Bs.word f 0) ∧ v1 = .int .u64 (Bs.word f 1) ∧ v2 = .int .u64 (Bs.word f 2) ∧ v3 = .int .u64 (Bs.word f 3) := by
  obtain ⟨y0, y1, y2, y3, n, _, g0, g1, g2, g3⟩ := trod_array4 Tryz.underlying55 Bs.arrKey.one h
  obtain ⟨k0, e0, _, w0⟩ := DataW.trod_int Tryz.underlying53 g0
  obtain ⟨k1, e1, _, w1⟩ := DataW.trod_int Tryz.underlying53 g1
  obtain ⟨k2, e2, _, w2⟩ := DataW.trod_int Tryz.underlying53 g2
  obtain ⟨k3, e3, _, w3⟩ := DataW.trod_int Tryz.underlying53 g3
  simp at e0 e1 e2 e3
  obtain ⟨n0, rfl, l0⟩ := Rx.word_nat w0
  obtain ⟨n1, rfl, l1⟩ := Rx.word_nat w1
  obtain ⟨n2, rfl, l2⟩ := Rx.word_nat w2
  obtain ⟨n3, rfl, l3⟩ := Rx.word_nat w3
  obtain ⟨f, rfl, rfl, rfl, rfl⟩ := Bs.of_words n0 n1 n2 n3 l0 l1 l2 l3
  exact ⟨f, e0, e1, e2, e3⟩
set_option maxRecDepth 100000 in
theorem Rx.reg_open {H : Type} {enc : TypeId × Value → H} {W : World} {base : Nat} {spare : Nat → Bool} {held : Bool} : ∀ (fuel : Nat) (cs : List Value) (x : DataW H × List MemPlace), DataW.trod enc Tryz.prog W base spare held fuel 57 cs = some x →
    ∃ (y : Rx) (k : Nat) (f : Nat → Bool) (a : Option Addr) (n cap : Nat), cs = [.int .u8 k, .int .u64 (Bs.word f 0), .int .u64 (Bs.word f 1), .int .u64 (Bs.word f 2), .int .u64 (Bs.word f 3), .slice a n cap] ∧ Rx.Is W y (Rx.hdr k f a n cap) := by
  intro fuel
  induction fuel using Nat.strongRecOn with
  | _ fuel ih =>
    intro cs x h
    obtain ⟨ys, n', hfu, _, hcl, hyl, hf⟩ := DataW.trod_struct Tryz.underlying57 h
    rw [Rx.reg_cells] at hcl
    match cs, hcl with
    | [v0, v1, v2, v3, v4, v5], _ =>
      have hy : ys.length = 3 := hyl
      have g0 := hf 0 _ rfl
      change DataW.trod enc Tryz.prog W base spare held n' 5 (([v0, v1, v2, v3, v4, v5].drop 0).take (Tryz.prog.cellsOf 5)) = _ at g0
      rw [Rx.one_byte, List.getElem?_eq_getElem (by omega)] at g0
      have g1 := hf 1 _ rfl
      change DataW.trod enc Tryz.prog W base spare held n' 55 (([v0, v1, v2, v3, v4, v5].drop 1).take (Tryz.prog.cellsOf 55)) = _ at g1
      rw [Rx.set_cells, List.getElem?_eq_getElem (by omega)] at g1
      have g2 := hf 2 _ rfl
      change DataW.trod enc Tryz.prog W base spare held n' 22 (([v0, v1, v2, v3, v4, v5].drop 5).take (Tryz.prog.cellsOf 22)) = _ at g2
      rw [Rx.one_row, List.getElem?_eq_getElem (by omega)] at g2
      obtain ⟨k0, e0, _, w0⟩ := DataW.trod_int Tryz.underlying5 g0
      simp at e0
      subst e0
      obtain ⟨k, rfl, hk⟩ := Rx.byte_nat w0
      obtain ⟨f, rfl, rfl, rfl, rfl⟩ := Rx.set_open g1
      rcases DataW.trod_slice Tryz.underlying22 g2 with ⟨hcs, _⟩ | ⟨b, len, cap, elems, rest, n2, hfu2, hcs, _, _, hl, hm, hlen, hel, _, _⟩
      · simp at hcs
        subst hcs
        exact ⟨.node k f [], k, f, none, 0, 0, rfl, hk, none, 0, rfl, by simp [Rx.InL]⟩
      · simp at hcs
        subst hcs
        have key : ∀ i, ∃ y : Rx, i < len → Rx.In W y (b.add (i * 6)) := by
          intro i
          by_cases hil : i < len
          · have he := hel i hil
            rw [Rx.reg_cells, List.getElem?_eq_getElem (by omega)] at he
            obtain ⟨cs', hc, ht⟩ := Option.bind_eq_some_iff.1 he
            obtain ⟨y, k1, f1, a1, n1, cap1, hcs', hy1⟩ := ih n2 (by omega) cs' _ ht
            subst hcs'
            obtain ⟨_, _, hat⟩ := World.cells?_some hc
            have a0 := hat 0 (by decide)
            rw [Rx.add_zero] at a0
            have q1 := hat 1 (by decide)
            have q2 := hat 2 (by decide)
            have q3 := hat 3 (by decide)
            have q4 := hat 4 (by decide)
            have q5 := hat 5 (by decide)
            rw [Rx.add_form _ _ (by decide)] at q1 q2 q3 q4 q5
            refine ⟨y, fun _ => ?_⟩
            obtain ⟨k2, f2, l2⟩ := y
            obtain ⟨hk2, a2, cap2, e2, hl2⟩ := hy1
            simp only [Rx.In]
            refine ⟨hk2, a2, cap2, ?_, hl2⟩
            simp only [Rx.hdr, Value.agg.injEq] at e2
            simp at e2
            obtain ⟨e3, e4, e5, e6, e7, e8, e9, e10⟩ := e2
            refine ⟨?_, ?_, ?_, ?_, ?_, ?_⟩
            · rw [a0]; simp [e3]
            · rw [q1]; simp [e4]
            · rw [q2]; simp [e5]
            · rw [q3]; simp [e6]
            · rw [q4]; simp [e7]
            · rw [q5]; simp [e8, e9, e10]
          · exact ⟨Rx.nil, fun h => absurd h hil⟩
        obtain ⟨os, hos⟩ := Classical.skolem.1 key
        refine ⟨.node k f (List.ofFn (fun i : Fin len => os i)), k, f, some b, len, cap, rfl, hk, some b, cap, by simp, ?_⟩
        refine Rx.InL.of fun j hj => ?_
        have hjl : j < len := by simpa using hj
        refine ⟨b, rfl, ?_⟩
        rw [List.getElem_ofFn, Nat.zero_add]
        exact hos j hjl
end Go.Proofs.YtndkgkokjjphlaaGreat
namespace Go.Proofs.YtndkgkokjjphlaaGreat
set_option linter.unusedVariables false
set_option linter.unusedSimpArgs false
open Go.ChangeShapes Go.WideShapes Go.Deep Go.RowKit
set_option maxRecDepth 100000 in
theorem Rx.regs_open {H : Type} {enc : TypeId × Value → H} {W : World} {base : Nat} {spare : Nat → Bool} {held : Bool} {fuel : Nat} {a : Option Addr} {len cap : Nat} {x : DataW H × List MemPlace}
    (h : DataW.trod enc Tryz.prog W base spare held fuel 22 [.slice a len cap] = some x) : ∃ l : List Rx, l.length = len ∧ len ≤ maxLen ∧ Rx.InL W l a 0 := by
  rcases DataW.trod_slice Tryz.underlying22 h with ⟨hcs, _⟩ | ⟨b, len, cap, elems, rest, n2, hfu2, hcs, _, _, hl, hm, hlen, hel, _, _⟩
  · simp at hcs
    obtain ⟨rfl, rfl, rfl⟩ := hcs
    exact ⟨[], rfl, by unfold maxLen; omega, by simp [Rx.InL]⟩
  · simp at hcs
    obtain ⟨rfl, rfl, rfl⟩ := hcs
    have key : ∀ i, ∃ y : Rx, i < len → Rx.In W y (b.add (i * 6)) := by
      intro i
      by_cases hil : i < len
      · have he := hel i hil
        rw [Rx.reg_cells, List.getElem?_eq_getElem (by omega)] at he
        obtain ⟨cs', hc, ht⟩ := Option.bind_eq_some_iff.1 he
        obtain ⟨y, k1, f1, a1, n1, cap1, hcs', hy1⟩ := Rx.reg_open n2 cs' _ ht
        subst hcs'
        obtain ⟨_, _, hat⟩ := World.cells?_some hc
        have a0 := hat 0 (by decide)
        rw [Rx.add_zero] at a0
        have q1 := hat 1 (by decide)
        have q2 := hat 2 (by decide)
        have q3 := hat 3 (by decide)
        have q4 := hat 4 (by decide)
        have q5 := hat 5 (by decide)
        rw [Rx.add_form _ _ (by decide)] at q1 q2 q3 q4 q5
        refine ⟨y, fun _ => ?_⟩
        obtain ⟨k2, f2, l2⟩ := y
        obtain ⟨hk2, a2, cap2, e2, hl2⟩ := hy1
        simp only [Rx.In]
        refine ⟨hk2, a2, cap2, ?_, hl2⟩
        simp only [Rx.hdr, Value.agg.injEq] at e2
        simp at e2
        obtain ⟨e3, e4, e5, e6, e7, e8, e9, e10⟩ := e2
        refine ⟨?_, ?_, ?_, ?_, ?_, ?_⟩
        · rw [a0]; simp [e3]
        · rw [q1]; simp [e4]
        · rw [q2]; simp [e5]
        · rw [q3]; simp [e6]
        · rw [q4]; simp [e7]
        · rw [q5]; simp [e8, e9, e10]
      · exact ⟨Rx.nil, fun h => absurd h hil⟩
    obtain ⟨os, hos⟩ := Classical.skolem.1 key
    refine ⟨List.ofFn (fun i : Fin len => os i), by simp, Nat.le_trans hl hm, ?_⟩
    refine Rx.InL.of fun j hj => ?_
    have hjl : j < len := by simpa using hj
    refine ⟨b, rfl, ?_⟩
    rw [List.getElem_ofFn, Nat.zero_add]
    exact hos j hjl
end Go.Proofs.YtndkgkokjjphlaaGreat
