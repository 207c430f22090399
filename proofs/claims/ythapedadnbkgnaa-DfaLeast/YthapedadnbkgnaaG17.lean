/- The classes of a machine's bytes, walked. Plain facts for the least table: fronts that are met one behind the other; the front behind some bytes. A region that draws its order, some edges of which bind no order: plain. A region that draws its order, whose world and answers hang on which operations are done, and on something of one's own that is kept beside (which blocks were made): plain. A rule for drawn regions with guards, whatever they say: what a guard doesn't want is left out. -/
import Derived.Test.YthapedadnbkgnaaG14
import Derived.Test.YthapedadnbkgnaaG16
import Derived.Test.YthapedadnbkgnaaG1
import Derived.Test.YthapedadnbkgnaaG4
namespace Go.Proofs.Ythapedadnbkgnaa
set_option linter.unusedVariables false
set_option linter.unusedSimpArgs false
open Go.RowKit
def Df.sts (l : List Rx) (k : Nat) : List (Nat → Bool) := (List.range k).map fun (i : Nat) => Ng.setAt l (i : Int)
theorem Df.sts_succ (l : List Rx) (k : Nat) : Df.sts l (k + 1) = Df.sts l k ++ [Ng.setAt l (k : Int)] := by simp [Df.sts, List.range_succ]
theorem Df.sts_len (l : List Rx) (k : Nat) : (Df.sts l k).length = k := by simp [Df.sts]
theorem Df.below_row {w wr : World} {g : Nat} (h : Below w.heap.size w wr) (hg : w.heap.size ≤ g) (cs : Array Value) : Below w.heap.size w (wr.setRow g cs) :=
  ⟨by rw [setRow_os]; exact h.os, by rw [setRow_tape]; exact h.tape, by rw [setRow_output]; exact h.output, by rw [setRow_size]; exact h.size, fun k hk => by rw [setRow_other _ _ _ _ (by omega)]; exact h.block k hk⟩
set_option maxRecDepth 100000 in
set_option maxHeartbeats 400000 in
theorem classesD_any (w : World) (base r : Nat) (l : List Rx) (H : Ng.Mc w base r l) (hn : Nf.onesL l ≤ 500000) : Calls Try.prog 28 #[.pointer (some ⟨r, 0, none⟩)] w fun e w' => e = .returned (.agg (Bs.arr (Bs.kls (Df.sts l (Nf.onesL l))))) ∧ Below w.heap.size w w' := by
  have zz := Bs.zero256.1
  have B1 := Bs.below1 w (.cells Bs.zeros 36)
  have HH := Lib.hid (H.up B1)
  have HB := Lib.hid B1
  have hZ := heap_alloc_new w (.cells Bs.zeros 36)
  have HZ := Lib.hid hZ
  have hsz : w.heap.size < (w.alloc (.cells Bs.zeros 36)).heap.size := by simp [go_sem]
  clear B1 H hZ
  go_enter Try.func28, Try.ntmps28
  go_upto_region 1 with fail
  clear zz
  generalize w.alloc (.cells Bs.zeros 36) = W at *
  have C := Lib.hid (ones_any W base r l HH.out)
  go_wp2_with fail
  refine C.out.mono ?_
  rintro e w1 ⟨rfl, rfl⟩
  clear C
  obtain ⟨n, hN⟩ : ∃ n, Nf.onesL l = n := ⟨_, rfl⟩
  have HN := Lib.hid hN
  rw [hN] at hn ⊢
  clear hN
  have HO : Hid (Sr.Own W.heap.size (.slice none 0 0) (Df.sts l 0) W) := Lib.hid (Sr.own_nil _ _)
  have HA := Lib.hid (Below.refl W.heap.size W)
  go_wp2_with fail
  go_loopw [3, 4, 9] (fun s _ i wr => ∃ q : Nat, q ≤ n ∧ i = .int .i64 q ∧ Hid (Sr.Own W.heap.size s (Df.sts l q) wr) ∧ Hid (Below W.heap.size W wr)) (fun _ _ i _ => n - (intOf i).toNat)
  case atStart => exact ⟨0, by omega, rfl, HO, HA⟩
  case round =>
    clear HO HA
    obtain ⟨q, hq, rfl, HO, HA⟩ := hrel
    by_cases hlt : q < n
    · have i1 : (q : Int) < (n : Int) := by omega
      have C := Lib.hid (set_any wr base r l (HH.out.up HA.out) q)
      go_wp2_with fail
      refine C.out.mono ?_
      rintro e w2 ⟨rfl, hb⟩
      have HO2 := Lib.hid (HO.out.up hb)
      have HA2 := Lib.hid (Bs.below_up HA.out hb)
      have HS := Lib.hid (Df.sts_succ l q)
      clear hb C HO HA
      generalize Ng.setAt l (q : Int) = f at *
      unfold Bs.val
      have BW := Bs.below1 w2 (.cells #[.int .u64 (Bs.word f 0), .int .u64 (Bs.word f 1), .int .u64 (Bs.word f 2), .int .u64 (Bs.word f 3)] 25)
      have HO3 := Lib.hid (HO2.out.up BW)
      have HA3 := Lib.hid (Bs.below_up HA2.out BW)
      have hbs : W.heap.size ≤ (w2.alloc (.cells #[.int .u64 (Bs.word f 0), .int .u64 (Bs.word f 1), .int .u64 (Bs.word f 2), .int .u64 (Bs.word f 3)] 25)).heap.size := HA3.out.size
      have HNB := Lib.hid (show ∀ j u, (Sr.cells [f])[j]? = some u → (w2.alloc (.cells #[.int .u64 (Bs.word f 0), .int .u64 (Bs.word f 1), .int .u64 (Bs.word f 2), .int .u64 (Bs.word f 3)] 25)).cell? ((⟨w2.heap.size, 0, none⟩ : Addr).add j) = some u from World.news_of_block (heap_alloc_new w2 _))
      have HLQ := Lib.hid (show (Df.sts l q).length + [f].length ≤ 1000000 by rw [Df.sts_len, List.length_singleton]; omega)
      clear BW HO2 HA2
      go_wp2_with (first | (at_builtin; refine Sr.append rfl _ _ rfl W.heap.size _ (Df.sts l q) rfl HO3.out ⟨w2.heap.size, 0, none⟩ 1 [f] rfl HNB.out (by simp) HLQ.out hbs ?_; intro v9 w9 O9 gr9))
      have HA4 := Lib.hid (HA3.out.grown gr9 hbs (fun i hi => (World.ownsRow.lt HO3.out.1 i hi).1))
      have HO4 : Hid (Sr.Own W.heap.size v9 (Df.sts l (q + 1)) w9) := Lib.hid (by rw [HS.out]; exact O9)
      clear O9 gr9
      go_roundw
      case rel => exact ⟨q + 1, by omega, by go_num, HO4, HA4⟩
      case measure => simp [intOf]; omega
    · obtain rfl : q = n := by omega
      obtain ⟨a, cap, e3, hR⟩ := HO.out.slice
      rw [Df.sts_len] at e3
      have C := classes_any a (Df.sts l q) cap wr hR (by rw [Df.sts_len]; omega)
      rw [Df.sts_len] at C
      have CH := Lib.hid C
      clear C
      subst e3
      go_wp2_with fail
      refine CH.out.mono ?_
      rintro e w2 ⟨rfl, hb⟩
      have HA2 := Lib.hid (Bs.below_up HA.out hb)
      have hZ2 : w2.heap[w.heap.size]? = some (.cells Bs.zeros 36) := by rw [hb.block _ (Nat.lt_of_lt_of_le hsz HA.out.size), HA.out.block _ hsz]; exact HZ.out
      have HZ2 := Lib.hid hZ2
      have hs2 : w.heap.size < w2.heap.size := Nat.lt_of_lt_of_le hsz HA2.out.size
      have HB2 := Lib.hid (HB.out.trans (HA2.out.mono (Nat.le_of_lt hsz)))
      clear hb CH hZ2 hR
      obtain ⟨K, hK⟩ : ∃ K, Bs.kls (Df.sts l q) = K := ⟨_, rfl⟩
      have HK := Lib.hid (show Bs.kls (Df.sts l (Nf.onesL l)) = K by rw [HN.out, hK])
      rw [hK]
      clear hK
      have HZ3 : Hid ((w2.alloc (.cells Bs.zeros 36)).heap[w2.heap.size]? = some (.cells (Bs.arr fun _ => 0) 36)) := Lib.hid (heap_alloc_new w2 _)
      have HB3 := Lib.hid (Bs.below_up HB2.out (Bs.below1 w2 (.cells Bs.zeros 36)))
      have HZ4 : Hid ((w2.alloc (.cells Bs.zeros 36)).heap[w.heap.size]? = some (.cells (Bs.arr fun _ => 0) 36)) := Lib.hid (by rw [(Bs.below1 w2 (.cells Bs.zeros 36)).block _ hs2]; exact HZ2.out)
      have zz := Bs.zero256.1
      go_wp2_with (first
        | (refine wpList_store_row rfl 36 _ _ rfl w2.heap.size (Bs.arr K) rfl rfl 36 (Bs.arr fun _ => 0) HZ3.out (by rw [Bs.arr_size]; exact Bs.zero256.2) (by rw [Bs.arr_size, Bs.arr_size]) (Bs.arr_one _) ?_))
      have HR5 : Hid (((w2.alloc (.cells Bs.zeros 36)).setRow w2.heap.size (Bs.arr K)).heap[w2.heap.size]? = some (.cells (Bs.arr K) 36)) := Lib.hid (setRow_heap _ _ _ _ _ _ HZ3.out)
      have HZ5 : Hid (((w2.alloc (.cells Bs.zeros 36)).setRow w2.heap.size (Bs.arr K)).heap[w.heap.size]? = some (.cells (Bs.arr fun _ => 0) 36)) := Lib.hid (by rw [setRow_other _ _ _ _ (by omega)]; exact HZ4.out)
      have HB5 := Lib.hid (Df.below_row (g := w2.heap.size) HB3.out (by omega) (Bs.arr K))
      clear HZ3 HZ4 HB3 zz
      generalize (w2.alloc (.cells Bs.zeros 36)).setRow w2.heap.size (Bs.arr K) = W5 at *
      refine wp_load_row 36 (.tmp 5) ?m2 w2.heap.size ?m3 36 (Bs.arr K) (0, 0) _ ?m4 Try.underlying36 ?m5 ?m6 ?m7
      case m2 => rfl
      case m3 => rfl
      case m4 => exact HR5.out
      case m5 => rfl
      case m6 => rw [Bs.arr_size]; exact Bs.zero256.2
      go_wp2_with (first
        | (refine wpList_store_row rfl 36 _ _ rfl w.heap.size (Bs.arr K) rfl rfl 36 (Bs.arr fun _ => 0) HZ5.out (by rw [Bs.arr_size]; exact Bs.zero256.2) (by rw [Bs.arr_size, Bs.arr_size]) (Bs.arr_one _) ?_))
      have h6 : (W5.setRow w.heap.size (Bs.arr K)).heap[w.heap.size]? = some (.cells (Bs.arr K) 36) := setRow_heap _ _ _ _ _ _ HZ5.out
      have h7 : (Try.prog.info? 36).map (·.size) = some (Bs.arr K).size := by rw [Bs.arr_size]; exact Bs.zero256.2
      have hld := run_loadVar_row (P := Try.prog) _ _ _ 36 _ _ _ h6 Try.underlying36 rfl h7
      have hb6 := Df.below_row HB5.out (Nat.le_refl _) (Bs.arr K)
      refine bodyPost_ret (v := .agg (Bs.arr K)) ?_ ?_ ?_
      · simp [results, asAddr, hld, Act.put, Result.andThen]
      · rfl
      · exact ⟨by rw [HK.out], hb6⟩
end Go.Proofs.Ythapedadnbkgnaa
namespace Go.Proofs.Ythapedadnbkgnaa
set_option linter.unusedVariables false
set_option linter.unusedSimpArgs false
namespace Df
section
variable {α : Type} [DecidableEq α]
theorem mem_meets : ∀ (us ks : List α) (x : α), x ∈ us.foldl meet ks ↔ x ∈ ks ∨ x ∈ us
  | [], ks, x => by simp
  | u :: us, ks, x => by
    rw [List.foldl_cons, mem_meets us, mem_meet, List.mem_cons]
    constructor
    · rintro ((h | h) | h)
      · exact .inl h
      · exact .inr (.inl h)
      · exact .inr (.inr h)
    · rintro (h | h | h)
      · exact .inl (.inl h)
      · exact .inl (.inr h)
      · exact .inr h
theorem meet_pre (ks : List α) (t : α) : ∃ ys, meet ks t = ks ++ ys := by
  unfold meet; split
  · exact ⟨[], by simp⟩
  · exact ⟨[t], rfl⟩
theorem meets_pre : ∀ (us ks : List α), ∃ ys, us.foldl meet ks = ks ++ ys
  | [], ks => ⟨[], by simp⟩
  | u :: us, ks => by
    obtain ⟨y1, e1⟩ := meet_pre ks u
    obtain ⟨y2, e2⟩ := meets_pre us (meet ks u)
    exact ⟨y1 ++ y2, by rw [List.foldl_cons, e2, e1, List.append_assoc]⟩
theorem meets_nodup : ∀ (us : List α) {ks : List α}, ks.Nodup → (us.foldl meet ks).Nodup
  | [], _, h => h
  | u :: us, _, h => by rw [List.foldl_cons]; exact meets_nodup us (meet_nodup h u)
theorem idx_pre {ks ys : List α} {x : α} (h : x ∈ ks) : idx (ks ++ ys) x = idx ks x := by unfold idx; rw [List.idxOf_append, if_pos h]
theorem get_idx {ks : List α} {x : α} (h : x ∈ ks) : ks[idx ks x]? = some x := by
  rw [List.getElem?_eq_getElem (idx_lt h)]
  exact congrArg some (List.getElem_idxOf (idx_lt h))
theorem idx_get {ks : List α} (hn : ks.Nodup) {i : Nat} (hi : i < ks.length) : idx ks ks[i] = i := by
  have h1 := idx_lt (List.getElem_mem hi)
  have h2 := get_idx (List.getElem_mem hi)
  rw [List.getElem?_eq_getElem h1] at h2
  injection h2 with h2
  have key : ∀ {a b : Nat} (ha : a < ks.length) (hb : b < ks.length), a < b → ks[a] ≠ ks[b] := fun ha hb hab => (List.pairwise_iff_getElem.1 hn) _ _ ha hb hab
  rcases Nat.lt_trichotomy (idx ks ks[i]) i with h3 | h3 | h3
  · exact absurd h2 (key h1 hi h3)
  · exact h3
  · exact absurd h2.symm (key hi h1 h3)
def pass (g : α → List α) (F : List α) (i : Nat) : List α := ((F[i]?.map g).getD []).foldl meet F
def gone (g : α → List α) (F0 : List α) : Nat → List α
  | 0 => F0
  | i + 1 => pass g (gone g F0 i) i
theorem pass_at (g : α → List α) (F : List α) {i : Nat} (hi : i < F.length) : pass g F i = (g F[i]).foldl meet F := by simp [pass, hi]
theorem gone_succ (g : α → List α) (F0 : List α) {i : Nat} (hi : i < (gone g F0 i).length) : gone g F0 (i + 1) = (g (gone g F0 i)[i]).foldl meet (gone g F0 i) := pass_at g _ hi
theorem gone_pre (g : α → List α) (F0 : List α) (i : Nat) : ∀ d, ∃ ys, gone g F0 (i + d) = gone g F0 i ++ ys
  | 0 => ⟨[], by simp⟩
  | d + 1 => by
    obtain ⟨y1, e1⟩ := gone_pre g F0 i d
    obtain ⟨y2, e2⟩ := meets_pre (((gone g F0 (i + d))[i + d]?.map g).getD []) (gone g F0 (i + d))
    refine ⟨y1 ++ y2, ?_⟩
    have e3 : gone g F0 (i + (d + 1)) = pass g (gone g F0 (i + d)) (i + d) := rfl
    rw [e3, pass, e2, e1, List.append_assoc]
theorem gone_nodup (g : α → List α) {F0 : List α} (h : F0.Nodup) : ∀ i, (gone g F0 i).Nodup
  | 0 => h
  | i + 1 => meets_nodup _ (gone_nodup g h i)
theorem gone_get (g : α → List α) (F0 : List α) {i n j : Nat} (hin : i ≤ n) (hj : j < (gone g F0 i).length) : ∃ h : j < (gone g F0 n).length, (gone g F0 n)[j] = (gone g F0 i)[j] := by
  obtain ⟨d, rfl⟩ := Nat.exists_eq_add_of_le hin
  obtain ⟨ys, e⟩ := gone_pre g F0 i d
  have hl : j < (gone g F0 (i + d)).length := by rw [e, List.length_append]; omega
  refine ⟨hl, ?_⟩
  simp only [e]
  exact List.getElem_append_left hj
def Went (g : α → List α) (F0 : List α) (n : Nat) : Prop := ∀ i, i < n → i < (gone g F0 i).length
theorem Went.succ {g : α → List α} {F0 : List α} {n : Nat} (h : Went g F0 n) (hn : n < (gone g F0 n).length) : Went g F0 (n + 1) := fun i hi => by
  rcases Nat.lt_or_ge i n with h1 | h1
  · exact h i h1
  · obtain rfl : i = n := by omega
    exact hn
theorem Went.le {g : α → List α} {F0 : List α} {n : Nat} (h : Went g F0 n) : n ≤ (gone g F0 n).length := by
  cases n with
  | zero => exact Nat.zero_le _
  | succ n =>
    have h1 := h n (by omega)
    obtain ⟨h2, _⟩ := gone_get g F0 (Nat.le_succ n) h1
    exact h2
theorem Went.closed {g : α → List α} {F0 : List α} {n : Nat} (h : Went g F0 n) {j : Nat} (hj : j < n) : ∃ hl : j < (gone g F0 n).length, ∀ y ∈ g (gone g F0 n)[j], y ∈ gone g F0 n := by
  have h1 := h j hj
  obtain ⟨h2, e2⟩ := gone_get g F0 (show j ≤ n by omega) h1
  refine ⟨h2, fun y hy => ?_⟩
  rw [e2] at hy
  have h3 : y ∈ gone g F0 (j + 1) := by rw [gone_succ g F0 h1, mem_meets]; exact .inr hy
  obtain ⟨i, hi, e⟩ := List.getElem_of_mem h3
  obtain ⟨h4, e4⟩ := gone_get g F0 (show j + 1 ≤ n by omega) hi
  rw [← e, ← e4]
  exact List.getElem_mem h4
inductive From (g : α → List α) (F0 : List α) : α → Prop
  | base {x : α} : x ∈ F0 → From g F0 x
  | step {x y : α} : From g F0 x → y ∈ g x → From g F0 y
theorem gone_from (g : α → List α) (F0 : List α) : ∀ n x, x ∈ gone g F0 n → From g F0 x
  | 0, x, h => .base h
  | n + 1, x, h => by
    have h' : x ∈ pass g (gone g F0 n) n := h
    unfold pass at h'
    rw [mem_meets] at h'
    rcases h' with h' | h'
    · exact gone_from g F0 n x h'
    · by_cases hn : n < (gone g F0 n).length
      · rw [List.getElem?_eq_getElem hn] at h'
        exact .step (gone_from g F0 n _ (List.getElem_mem hn)) h'
      · rw [List.getElem?_eq_none (by omega)] at h'
        simp at h'
end
abbrev Fr := List Int × List Int
open Classical in
noncomputable def riseOf (n : Nat) (P : Nat → Prop) : List Int := ((List.range n).filter fun p => decide (P p)).map fun i : Nat => (i : Int)
open Classical in
theorem rise_of {n : Nat} {P : Nat → Prop} (h : ∀ p, P p → p < n) : Nf.Rise (riseOf n P) P :=
  (Nf.rise_filter n _).congr fun p => by
    exact ⟨fun h1 => of_decide_eq_true h1.2, fun h1 => ⟨h p h1, decide_eq_true h1⟩⟩
theorem riseOf_le (n : Nat) (P : Nat → Prop) : (riseOf n P).length ≤ n := by
  unfold riseOf
  rw [List.length_map]
  have := List.length_filter_le (fun p => @decide (P p) (Classical.propDecidable _)) (List.range n)
  simpa using this
theorem riseOf_lt {n : Nat} {P : Nat → Prop} {x : Int} (h : x ∈ riseOf n P) : 0 ≤ x ∧ x < n := by
  unfold riseOf at h
  obtain ⟨p, hp, rfl⟩ := List.mem_map.1 h
  have := (List.mem_filter.1 hp).1
  have := List.mem_range.1 this
  omega
noncomputable def sf (l : List Rx) (c : Nat) (f : Fr) : Fr :=
  (riseOf (Nf.onesL l) (fun p => ∃ k : Nat, (k : Int) ∈ f.1 ∧ Nf.onL l k c ∧ Nf.folA l k p), riseOf l.length (fun q => ∃ k : Nat, (k : Int) ∈ f.1 ∧ Nf.onL l k c ∧ Nf.rlst l q k))
noncomputable def s0 (l : List Rx) : Fr := (riseOf (Nf.onesL l) (fun p => ∃ r, Nf.rfst l r p), riseOf l.length (Nf.remp l))
theorem sf_rise (l : List Rx) (c : Nat) (f : Fr) : Nf.Rise (sf l c f).1 (fun p => ∃ k : Nat, (k : Int) ∈ f.1 ∧ Nf.onL l k c ∧ Nf.folA l k p) ∧ Nf.Rise (sf l c f).2 (fun q => ∃ k : Nat, (k : Int) ∈ f.1 ∧ Nf.onL l k c ∧ Nf.rlst l q k) :=
  ⟨rise_of fun _ ⟨_, _, _, h⟩ => (Nf.folA_lt _ _ _ h).2, rise_of fun _ ⟨_, _, _, h⟩ => (Ng.rlst_lt _ _ _ h).1⟩
theorem s0_rise (l : List Rx) : Nf.Rise (s0 l).1 (fun p => ∃ r, Nf.rfst l r p) ∧ Nf.Rise (s0 l).2 (Nf.remp l) :=
  ⟨rise_of fun _ ⟨_, h⟩ => (Ng.rfst_lt _ _ _ h).2, rise_of fun _ h => Ng.remp_lt _ _ h⟩
def FOk (l : List Rx) (f : Fr) : Prop := f.1.length ≤ Nf.onesL l ∧ f.2.length ≤ l.length ∧ (∀ x ∈ f.1, 0 ≤ x ∧ x < Nf.onesL l) ∧ ∀ x ∈ f.2, 0 ≤ x ∧ x < l.length
theorem sf_ok (l : List Rx) (c : Nat) (f : Fr) : FOk l (sf l c f) := ⟨riseOf_le _ _, riseOf_le _ _, fun _ h => riseOf_lt h, fun _ h => riseOf_lt h⟩
theorem s0_ok (l : List Rx) : FOk l (s0 l) := ⟨riseOf_le _ _, riseOf_le _ _, fun _ h => riseOf_lt h, fun _ h => riseOf_lt h⟩
theorem none_ok (l : List Rx) : FOk l ([], []) := ⟨Nat.zero_le _, Nat.zero_le _, fun _ h => by simp at h, fun _ h => by simp at h⟩
theorem sf_eq {l : List Rx} {c : Nat} {fo fr os rs : List Int} (h1 : Nf.Rise os (fun p => ∃ k : Nat, (k : Int) ∈ fo ∧ Nf.onL l k c ∧ Nf.folA l k p)) (h2 : Nf.Rise rs (fun q => ∃ k : Nat, (k : Int) ∈ fo ∧ Nf.onL l k c ∧ Nf.rlst l q k)) : sf l c (fo, fr) = (os, rs) := by
  have h := sf_rise l c (fo, fr)
  rw [← Nf.rise_eq h.1 h1, ← Nf.rise_eq h.2 h2]
theorem s0_eq {l : List Rx} {os rs : List Int} (h1 : Nf.Rise os (fun p => ∃ r, Nf.rfst l r p)) (h2 : Nf.Rise rs (Nf.remp l)) : s0 l = (os, rs) := by
  have h := s0_rise l
  rw [← Nf.rise_eq h.1 h1, ← Nf.rise_eq h.2 h2]
theorem sf_nil (l : List Rx) (c : Nat) (rs : List Int) : sf l c ([], rs) = ([], []) := sf_eq (Nf.rise_nil fun p => by rintro ⟨k, h, _⟩; simp at h) (Nf.rise_nil fun p => by rintro ⟨k, h, _⟩; simp at h)
noncomputable def fat (l : List Rx) (b : Nat → Nat) : Nat → Fr
  | 0 => s0 l
  | q + 1 => sf l (b q) (fat l b q)
theorem sf_alike {l : List Rx} {c d : Nat} (h : ∀ k, k < Nf.onesL l → Ng.setAt l (k : Int) c = Ng.setAt l (k : Int) d) (f : Fr) : sf l c f = sf l d f := by
  have key : ∀ k p, Nf.folA l k p → (Nf.onL l k c ↔ Nf.onL l k d) := fun k p hf => by
    have hk := (Nf.folA_lt _ _ _ hf).1
    rw [Ng.onL_set hk, Ng.onL_set hk, h k hk]
  have key2 : ∀ q k, Nf.rlst l q k → (Nf.onL l k c ↔ Nf.onL l k d) := fun q k hf => by
    have hk := (Ng.rlst_lt _ _ _ hf).2
    rw [Ng.onL_set hk, Ng.onL_set hk, h k hk]
  have h1 := sf_rise l d f
  refine sf_eq (h1.1.congr fun p => ?_) (h1.2.congr fun p => ?_)
  · exact ⟨fun ⟨k, a1, a2, a3⟩ => ⟨k, a1, (key k p a3).2 a2, a3⟩, fun ⟨k, a1, a2, a3⟩ => ⟨k, a1, (key k p a3).1 a2, a3⟩⟩
  · exact ⟨fun ⟨k, a1, a2, a3⟩ => ⟨k, a1, (key2 p k a3).2 a2, a3⟩, fun ⟨k, a1, a2, a3⟩ => ⟨k, a1, (key2 p k a3).1 a2, a3⟩⟩
def kl (l : List Rx) : Nat → Nat := Bs.kls (sts l (Nf.onesL l))
def by_ (l : List Rx) : List Nat := frs (kl l) 256
theorem frs_ncl (fs : List (Nat → Bool)) : ∀ n, (frs (Bs.kls fs) n).length = Bs.ncl fs n
  | 0 => by simp [frs, Bs.ncl, Bs.cnt]
  | n + 1 => by
    have ih := frs_ncl fs n
    rw [frs, ih]
    by_cases h : ∀ d, d < n → Bs.alike fs n d = false
    · have := Bs.kls_new h
      rw [if_pos this.1, List.length_append, List.length_singleton, ih, this.2]
    · have ⟨d, hd⟩ := Classical.not_forall.1 h
      have ⟨hd1, hd2⟩ := Classical.not_imp.1 hd
      have hd3 : Bs.alike fs n d = true := by simpa using hd2
      have := Bs.kls_old hd1 hd3
      have h4 := Bs.kls_lt fs hd1
      rw [if_neg (by rw [this.1]; omega), ih, this.2]
theorem kl_lt (l : List Rx) {c : Nat} (hc : c < 256) : kl l c < (by_ l).length := by
  unfold by_ kl
  rw [frs_ncl]
  exact Bs.kls_lt _ hc
theorem bys_lt {l : List Rx} {c : Nat} (h : c ∈ by_ l) : c < 256 := by
  obtain ⟨k, hk, rfl⟩ := List.getElem_of_mem h
  exact (frs_at (kl l) 256 k hk).2
theorem by_len (l : List Rx) : 1 ≤ (by_ l).length ∧ (by_ l).length ≤ 256 := ⟨by have := kl_lt l (c := 0) (by omega); omega, frs_len _ _⟩
theorem sts_mem {l : List Rx} {n k : Nat} (hk : k < n) : Ng.setAt l (k : Int) ∈ sts l n := List.mem_map.2 ⟨k, List.mem_range.2 hk, rfl⟩
theorem sf_by (l : List Rx) {c : Nat} (hc : c < 256) (f : Fr) : sf l ((by_ l).getD (kl l c) 0) f = sf l c f := by
  have hk : kl l c < (frs (kl l) 256).length := kl_lt l hc
  have h1 := (frs_at (kl l) 256 (kl l c) hk).1
  have e : (by_ l).getD (kl l c) 0 = (frs (kl l) 256)[kl l c] := by rw [List.getD_eq_getElem?_getD]; unfold by_; rw [List.getElem?_eq_getElem hk]; rfl
  rw [e]
  generalize (frs (kl l) 256)[kl l c] = d at *
  have h2 := (Bs.kls_iff (sts l (Nf.onesL l)) d c).1 h1
  exact sf_alike (fun k hk => Bs.alike_iff.1 h2 _ (sts_mem hk)) f
noncomputable def nxt (l : List Rx) (f : Fr) : List Fr := (by_ l).map fun c => sf l c f
theorem nxt_len (l : List Rx) (f : Fr) : (nxt l f).length = (by_ l).length := by simp [nxt]
theorem nxt_get (l : List Rx) (f : Fr) {c : Nat} (hc : c < 256) : (nxt l f)[kl l c]? = some (sf l c f) := by
  have hk := kl_lt l hc
  unfold nxt
  rw [List.getElem?_map, List.getElem?_eq_getElem hk, Option.map_some]
  have h := sf_by l hc f
  rw [List.getD_eq_getElem?_getD, List.getElem?_eq_getElem hk, Option.getD_some] at h
  rw [h]
noncomputable def F0 (l : List Rx) : List Fr := meet [([], [])] (s0 l)
theorem F0_nodup (l : List Rx) : (F0 l).Nodup := meet_nodup (by simp) _
noncomputable abbrev fs (l : List Rx) (n : Nat) : List Fr := gone (nxt l) (F0 l) n
theorem fs_ok {l : List Rx} {n : Nat} {f : Fr} (h : f ∈ fs l n) : FOk l f := by
  have h1 := gone_from _ _ n f h
  cases h1 with
  | base h2 =>
    unfold F0 at h2
    rw [mem_meet, List.mem_singleton] at h2
    rcases h2 with rfl | rfl
    · exact none_ok l
    · exact s0_ok l
  | step h2 h3 =>
    unfold nxt at h3
    obtain ⟨c, _, rfl⟩ := List.mem_map.1 h3
    exact sf_ok l c _
def ft (f : Fr) : List Nat := text (key f.1 f.2)
theorem key_ok {l : List Rx} (hl : Nf.onesL l < 60000) (hn : l.length < 60000) {f : Fr} (h : FOk l f) : Ok (key f.1 f.2) := by
  intro x hx
  simp only [key, List.append_assoc, List.mem_append, List.mem_singleton] at hx
  rcases hx with hx | rfl | hx
  · have := h.2.2.1 x hx; omega
  · omega
  · have := h.2.2.2 x hx; omega
theorem ft_inj {l : List Rx} (hl : Nf.onesL l < 60000) (hn : l.length < 60000) {f g : Fr} (h1 : FOk l f) (h2 : FOk l g) (e : ft f = ft g) : f = g := by
  have h := text_inj (key_ok hl hn h1) (key_ok hl hn h2) e
  have h3 := key_inj (fun x hx => (h1.2.2.1 x hx).1) (fun x hx => (h2.2.2.1 x hx).1) h
  exact Prod.ext h3.1 h3.2
theorem map_meet {α β : Type} [DecidableEq α] [DecidableEq β] (k : α → β) (F : List α) (x : α) (h : ∀ y ∈ F, k y = k x → y = x) : (meet F x).map k = meet (F.map k) (k x) ∧ idx (F.map k) (k x) = idx F x := by
  have hm : k x ∈ F.map k ↔ x ∈ F := ⟨fun h1 => by obtain ⟨y, hy, e⟩ := List.mem_map.1 h1; rw [← h y hy e]; exact hy, fun h1 => List.mem_map.2 ⟨x, h1, rfl⟩⟩
  constructor
  · unfold meet
    by_cases hx : x ∈ F
    · rw [if_pos hx, if_pos (hm.2 hx)]
    · rw [if_neg hx, if_neg (fun e => hx (hm.1 e))]; simp
  · clear hm
    induction F with
    | nil => rfl
    | cons y r ih =>
      unfold idx at ih ⊢
      rw [List.map_cons, List.idxOf_cons, List.idxOf_cons]
      by_cases e : y = x
      · subst e; simp
      · have e2 : k y ≠ k x := fun e2 => e (h y (by simp) e2)
        have b1 : (y == x) = false := by simpa using e
        have b2 : (k y == k x) = false := by simpa using e2
        rw [b1, b2]
        simp only [cond_false]
        rw [ih fun z hz => h z (by simp [hz])]
end Df
end Go.Proofs.Ythapedadnbkgnaa
namespace Go.Proofs.Ythapedadnbkgnaa
set_option linter.unusedVariables false
set_option linter.unusedSimpArgs false
def Rg.textW (ops : Array Oper) : Bool :=
  ops.toList.zipIdx.all fun (o, i) => o.guard.isNone && (match o.op with | .select .. => false | _ => true) &&
    (o.after.toList.all fun e => !(Region.binds .any e) || decide (e.on < i)) &&
    (ops.toList.zipIdx.all fun (o', j) => i == j || (match o.dst with | none => true | some d => !(o'.dst == some d))) &&
    (o.op.operands.toList.all fun x => match x with
      | .tmp t => ops.toList.zipIdx.all fun (o', j) => !(o'.dst == some t) || o.after.toList.any fun e => e.on == j && Region.binds .any e
      | _ => true)
def Rg.StepsW (P : Program) (Rel : Nat → Value → World → Prop) (W : World → Prop) (M : World → World → Prop) (ρ : (Nat → Value) → Operand → Value) : List Oper → Nat → Prop
  | [], _ => True
  | o :: r, i => (∀ (f : Nat → Value) (w : World), W w → (∀ e ∈ o.after.toList, Region.binds .any e = true → Rel e.on (f e.on) w) → Rg.step P (ρ f) o w fun v w' => Rel i v w' ∧ W w' ∧ M w w') ∧ Rg.StepsW P Rel W M ρ r (i + 1)
theorem Rg.StepsW.get {P : Program} {Rel : Nat → Value → World → Prop} {W : World → Prop} {M : World → World → Prop} {ρ : (Nat → Value) → Operand → Value} : ∀ {l : List Oper} {i : Nat}, Rg.StepsW P Rel W M ρ l i → ∀ j o, l[j]? = some o → ∀ (f : Nat → Value) (w : World), W w → (∀ e ∈ o.after.toList, Region.binds .any e = true → Rel e.on (f e.on) w) → Rg.step P (ρ f) o w fun v w' => Rel (i + j) v w' ∧ W w' ∧ M w w'
  | [], _, _, j, o, h => by simp at h
  | o' :: r, i, hs, j, o, h => by
    cases j with
    | zero => simp at h; subst h; exact hs.1
    | succ j =>
      have := Rg.StepsW.get hs.2 j o (by simpa using h)
      rwa [show i + 1 + j = i + (j + 1) by omega] at this
theorem Rg.textW_get {ops : Array Oper} (h : Rg.textW ops = true) {i : Nat} {o : Oper} (ho : ops[i]? = some o) :
    o.guard = none ∧ (∀ cs b, o.op ≠ .select cs b) ∧ (∀ e ∈ o.after, Region.binds .any e = true → e.on < i) ∧ (∀ j o' d, ops[j]? = some o' → i ≠ j → o.dst = some d → o'.dst ≠ some d) ∧
      (∀ t, .tmp t ∈ o.op.operands → ∀ j o', ops[j]? = some o' → o'.dst = some t → ∃ e ∈ o.after, e.on = j ∧ Region.binds .any e = true) := by
  unfold Rg.textW at h
  rw [List.all_eq_true] at h
  have hmem : ∀ {j : Nat} {o' : Oper}, ops[j]? = some o' → (o', j) ∈ ops.toList.zipIdx := fun {j o'} h => by
    rw [List.mem_zipIdx_iff_getElem?]; simpa using h
  have := h (o, i) (hmem ho)
  simp only [Bool.and_eq_true] at this
  obtain ⟨⟨⟨⟨h1, h2⟩, h3⟩, h4⟩, h5⟩ := this
  refine ⟨by simpa using h1, ?_, ?_, ?_, ?_⟩
  · intro cs b e
    rw [e] at h2
    simp at h2
  · intro e he
    rw [List.all_eq_true] at h3
    have := h3 e (by simpa using he)
    intro hbi
    rw [hbi] at this
    simpa using this
  · intro j o' d hj hij hd e
    rw [List.all_eq_true] at h4
    have := h4 (o', j) (hmem hj)
    simp [hd, e, hij] at this
  · intro t ht j o' hj hd
    rw [List.all_eq_true] at h5
    have := h5 (.tmp t) (by simpa using ht)
    simp only [List.all_eq_true] at this
    have := this (o', j) (hmem hj)
    simp only [hd, beq_self_eq_true, Bool.not_true, Bool.false_or, List.any_eq_true] at this
    obtain ⟨e, he1, he2⟩ := this
    simp only [Bool.and_eq_true, beq_iff_eq] at he2
    exact ⟨e, by simpa using he1, he2.1, he2.2⟩
theorem Rg.apart_ofW {ops : Array Oper} (h : Rg.textW ops = true) : Rg.apart ops.toList := by
  have key : ∀ (l : List Oper) (i : Nat), ops.toList.drop i = l → Rg.apart l := by
    intro l
    induction l with
    | nil => intro i _; trivial
    | cons o r ih =>
      intro i hi
      have hget : ∀ j o', (o :: r)[j]? = some o' → ops[i + j]? = some o' := fun j o' hj => by
        rw [← hi, List.getElem?_drop] at hj
        simpa using hj
      refine ⟨?_, ih (i + 1) ?_⟩
      · intro o' ho' d hd
        obtain ⟨j, hj⟩ := List.getElem?_of_mem ho'
        exact (Rg.textW_get h (hget 0 o rfl)).2.2.2.1 (i + (j + 1)) o' d (hget (j + 1) o' (by simpa using hj)) (by omega) hd
      · have := congrArg (List.drop 1) hi
        rw [List.drop_drop] at this
        simpa [Nat.add_comm] using this
  exact key _ 0 (by simp)
theorem Rg.regionW {P : Program} {ops : Array Oper} {Q : Exit → Act → World → Prop} {id : Nat} {a : Act} {w : World} (hm : P.follows .mixedOrders = true) (ht : Rg.textW ops = true)
    (Rel : Nat → Value → World → Prop) (W : World → Prop) (M : World → World → Prop)
    (hM : ∀ i v w w', Rel i v w → W w → M w w' → Rel i v w') (hW : W w.drew)
    (hs : Rg.StepsW P Rel W M (fun f => (Rg.all f ops.toList 0 a).eval) ops.toList 0)
    (he : ∀ (f : Nat → Value) (w : World), W w → (∀ i, i < ops.size → Rel i (f i) w) → Q .normal (Rg.all f ops.toList 0 a) w) : (Code.region id ops true).wp P Q a w := by
  refine wp_region_any hm ?_
  have key : ∀ (n : Nat) (listed : Array Bool) (f : Nat → Value) (w : World), listed.size = ops.size → ((List.range ops.size).countP fun i => !listed.getD i false) ≤ n → W w → (∀ i, listed.getD i false = true → Rel i (f i) w) → wpAny P .any ops Q n listed (Rg.put (fun i => listed.getD i false) f ops.toList 0 a) w := by
    have done : ∀ (listed : Array Bool) (f : Nat → Value) (w : World), listed.size = ops.size → Region.ready .any ops listed = [] → W w → (∀ i, listed.getD i false = true → Rel i (f i) w) → Q .normal (Rg.put (fun i => listed.getD i false) f ops.toList 0 a) w := by
      intro listed f w hsz hr hw hR
      have hall : ∀ i, i < ops.size → listed.getD i false = true := by
        intro i
        induction i using Nat.strongRecOn with
        | _ i ih =>
          intro hi
          by_cases hl : listed.getD i false = true
          · exact hl
          · have ho : ops[i]? = some ops[i] := by simp [hi]
            have hmem : i ∈ Region.ready .any ops listed := mem_ready.2 ⟨by
              rw [Array.getD_eq_getD_getElem?] at hl ⊢
              have : listed[i]? = some listed[i] := by simp [hsz, hi]
              rw [this] at hl ⊢
              simpa using hl, ops[i], ho, fun e he hbi => ih e.on ((Rg.textW_get ht ho).2.2.1 e he hbi) (by have := ((Rg.textW_get ht ho).2.2.1 e he hbi); omega)⟩
            rw [hr] at hmem
            simp at hmem
      rw [Rg.put_all (fun j _ h2 => hall j (by simpa using h2))]
      exact he f w hw (fun i hi => hR i (hall i hi))
    intro n
    induction n with
    | zero =>
      intro listed f w hsz hn hw hR
      have hr : Region.ready .any ops listed = [] := by
        rw [List.eq_nil_iff_forall_not_mem]
        intro i hi
        obtain ⟨h1, o, ho, _⟩ := mem_ready.1 hi
        have hlt : i < ops.size := (Array.getElem?_eq_some_iff.1 ho).1
        have hc : 0 < (List.range ops.size).countP fun i => !listed.getD i false := List.countP_pos_iff.2 ⟨i, by simpa using hlt, by
          rw [Array.getD_eq_getD_getElem?] at h1 ⊢
          have : listed[i]? = some listed[i] := by simp [hsz, hlt]
          rw [this] at h1 ⊢
          simpa using h1⟩
        omega
      exact ⟨hr, done listed f w hsz hr hw hR⟩
    | succ n ih =>
      intro listed f w hsz hn hw hR
      refine ⟨fun hr => done listed f w hsz hr hw hR, fun i hi => ?_⟩
      obtain ⟨h1, o, ho, hdep⟩ := mem_ready.1 hi
      have hlt : i < ops.size := (Array.getElem?_eq_some_iff.1 ho).1
      obtain ⟨g1, g2, g3, g4, g5⟩ := Rg.textW_get ht ho
      have hli : listed.getD i false = false := by
        rw [Array.getD_eq_getD_getElem?] at h1 ⊢
        have : listed[i]? = some listed[i] := by simp [hsz, hlt]
        rw [this] at h1 ⊢
        simpa using h1
      unfold wpOp
      simp only [ho]
      have hwt : Region.wanted o (yielded ops (Rg.put (fun i => listed.getD i false) f ops.toList 0 a).tmps) = true := by simp [Region.wanted, g1]
      rw [if_pos hwt]
      refine .inl ?_
      have hl2 : ops.toList[i]? = some o := by simpa using ho
      refine Rg.step_wp (hs.get i o hl2 f w hw (fun e he hbi => hR _ (hdep e (by simpa using he) hbi))) ?_ ?_
      · refine execOp_congr o g2 fun x hx => ?_
        cases x with
        | tmp t =>
          refine Rg.eval (fun j o' hj hd => ?_) rfl rfl
          rw [Nat.zero_add]
          obtain ⟨e, he1, he2, he3⟩ := g5 t hx j o' (by simpa using hj) hd
          rw [← he2]
          exact hdep e he1 he3
        | const v => rfl
        | global g => rfl
        | func g => rfl
      · rintro v w' ⟨r1, r2, r3⟩
        rw [Nat.zero_add] at r1
        rw [Rg.put_on (Rg.apart_ofW ht) (Nat.zero_le i) (by simpa using hl2) hli]
        have hset : (fun k => if k = i then true else listed.getD k false) = fun k => (listed.setIfInBounds i true).getD k false := by
          funext k
          by_cases hk : k = i
          · subst hk
            simp [Array.getD_eq_getD_getElem?, hsz, hlt]
          · rw [if_neg hk, getD_set_ne false (Ne.symm hk)]
        rw [hset]
        refine ih (listed.setIfInBounds i true) _ w' (by simpa using hsz) ?_ r2 ?_
        · have hcount : ((List.range ops.size).countP fun k => !(listed.setIfInBounds i true).getD k false) < (List.range ops.size).countP fun k => !listed.getD k false := by
            refine Rg.count_lt (x := i) (by simpa using hlt) (fun k _ hk => ?_) (by rw [hli]; rfl) (by simp [Array.getD_eq_getD_getElem?, hsz, hlt])
            by_cases e : k = i
            · subst e; rw [hli]; rfl
            · rw [getD_set_ne false (Ne.symm e)] at hk; exact hk
          omega
        · intro k hk
          by_cases e : k = i
          · subst e; simpa using r1
          · simp only [e, if_false]
            rw [getD_set_ne false (Ne.symm e)] at hk
            exact hM _ _ _ _ (hR k hk) hw r3
  have := key ops.size (Array.replicate ops.size false) (fun _ => undef) w.drew (by simp) (by
    have h := List.countP_le_length (p := fun i => !(Array.replicate ops.size false).getD i false) (l := List.range ops.size)
    simpa using h) hW (fun i hi => by
      simp [Array.getD_eq_getD_getElem?, Array.getElem?_replicate] at hi
      split at hi <;> simp at hi)
  rw [Rg.put_none (fun j _ h2 => by
    simp [Array.getD_eq_getD_getElem?, Array.getElem?_replicate]
    split <;> rfl)] at this
  exact this
end Go.Proofs.Ythapedadnbkgnaa
namespace Go.Proofs.Ythapedadnbkgnaa
set_option linter.unusedVariables false
set_option linter.unusedSimpArgs false
def Rg.StepsY {γ : Type} (P : Program) (Rel : γ → Nat → Value → World → Prop) (W : γ → (Nat → Bool) → World → Prop) (M : Nat → γ → World → γ → World → Prop) (ρ : (Nat → Value) → Operand → Value) : List Oper → Nat → Prop
  | [], _ => True
  | o :: r, i => (∀ (g : γ) (L : Nat → Bool) (f : Nat → Value) (w : World), L i = false → W g L w → (∀ e ∈ o.after.toList, Region.binds .any e = true → L e.on = true ∧ Rel g e.on (f e.on) w) → Rg.step P (ρ f) o w fun v w' => ∃ g', Rel g' i v w' ∧ W g' (fun k => if k = i then true else L k) w' ∧ M i g w g' w') ∧ Rg.StepsY P Rel W M ρ r (i + 1)
theorem Rg.StepsY.get {γ : Type} {P : Program} {Rel : γ → Nat → Value → World → Prop} {W : γ → (Nat → Bool) → World → Prop} {M : Nat → γ → World → γ → World → Prop} {ρ : (Nat → Value) → Operand → Value} : ∀ {l : List Oper} {i : Nat}, Rg.StepsY P Rel W M ρ l i → ∀ j o, l[j]? = some o → ∀ (g : γ) (L : Nat → Bool) (f : Nat → Value) (w : World), L (i + j) = false → W g L w → (∀ e ∈ o.after.toList, Region.binds .any e = true → L e.on = true ∧ Rel g e.on (f e.on) w) → Rg.step P (ρ f) o w fun v w' => ∃ g', Rel g' (i + j) v w' ∧ W g' (fun k => if k = i + j then true else L k) w' ∧ M (i + j) g w g' w'
  | [], _, _, j, o, h => by simp at h
  | o' :: r, i, hs, j, o, h => by
    cases j with
    | zero => simp at h; subst h; exact hs.1
    | succ j =>
      have := Rg.StepsY.get hs.2 j o (by simpa using h)
      rwa [show i + 1 + j = i + (j + 1) by omega] at this
end Go.Proofs.Ythapedadnbkgnaa
namespace Go.Proofs.Ythapedadnbkgnaa
set_option linter.unusedVariables false
set_option linter.unusedSimpArgs false
open Go.RowKit
def Rg.StepsG (P : Program) (Rel : Nat → Value → World → Prop) (W : World → Prop) (M : World → World → Prop) (ρ : (Nat → Value) → Operand → Value) : List Oper → Nat → Prop
  | [], _ => True
  | o :: r, i => (∀ (f : Nat → Value) (w : World), W w → (∀ e ∈ o.after.toList, Rel e.on (f e.on) w) → (match o.guard with
      | none => Rg.step P (ρ f) o w fun v w' => Rel i v w' ∧ W w' ∧ M w w'
      | some (j, b) => if Rg.isB (f j) b = true then Rg.step P (ρ f) o w fun v w' => Rel i v w' ∧ W w' ∧ M w w' else Rel i undef w)) ∧ Rg.StepsG P Rel W M ρ r (i + 1)
theorem Rg.StepsG.get {P : Program} {Rel : Nat → Value → World → Prop} {W : World → Prop} {M : World → World → Prop} {ρ : (Nat → Value) → Operand → Value} : ∀ {l : List Oper} {i : Nat}, Rg.StepsG P Rel W M ρ l i → ∀ (j : Nat) (o : Oper), l[j]? = some o → ∀ (f : Nat → Value) (w : World), W w → (∀ e ∈ o.after.toList, Rel e.on (f e.on) w) → (match o.guard with
      | none => Rg.step P (ρ f) o w fun v w' => Rel (i + j) v w' ∧ W w' ∧ M w w'
      | some (g, b) => if Rg.isB (f g) b = true then Rg.step P (ρ f) o w fun v w' => Rel (i + j) v w' ∧ W w' ∧ M w w' else Rel (i + j) undef w)
  | [], _, _, j, o, h => by simp at h
  | o' :: r, i, hs, j, o, h => by
    cases j with
    | zero => simp at h; subst h; exact hs.1
    | succ j =>
      have := Rg.StepsG.get hs.2 j o (by simpa using h)
      rwa [show i + 1 + j = i + (j + 1) by omega] at this
end Go.Proofs.Ythapedadnbkgnaa
