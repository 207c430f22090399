/- Tables of truths in memory: a row of rows. What the document's Spans and Matches answer, walked. -/
import Derived.Test.YtndkgkokjjphlaaGreatG3
import Derived.Deep.OwnRows
import Derived.Deep.AppendLies
import Derived.Test.YtndkgkokjjphlaaGreatG6
import Derived.Test.YtndkgkokjjphlaaGreatG2
import Derived.Test.YtndkgkokjjphlaaGreatG5
import Derived.StillTailTactics
namespace Go.Proofs.YtndkgkokjjphlaaGreat
set_option linter.unusedVariables false
set_option linter.unusedSimpArgs false
open Go.RowKit
def Tb.sl (n p : Nat) : Value := .slice (some ⟨p, 0, none⟩) n n
theorem Tb.inj {ps : List Nat} (h : ps.Nodup) {i j : Nat} (hi : i < ps.length) (hj : j < ps.length) (e : ps[i] = ps[j]) : i = j := by
  have := List.pairwise_iff_getElem.1 h
  rcases Nat.lt_trichotomy i j with h1 | h1 | h1
  · exact absurd e (this i j hi hj h1)
  · exact h1
  · exact absurd e.symm (this j i hj hi h1)
structure Tb (w : World) (base N g : Nat) (ps : List Nat) (T : Nat → Nat → Bool) : Prop where
  len : ps.length = N
  row : ∀ i (h : i < ps.length), w.rowIs ps[i] 4 N (fun k => .bool (T i k))
  nd : ps.Nodup
  lo : ∀ p ∈ ps, base ≤ p
  out : ∀ i (h : i < ps.length), w.cell? ⟨g, i, none⟩ = some (Tb.sl N ps[i])
  far : g ∉ ps
  glt : g < w.heap.size
theorem Tb.up {w w' : World} {base N g : Nat} {ps : List Nat} {T : Nat → Nat → Bool} (h : Tb w base N g ps T) (hb : Below w.heap.size w w') : Tb w' base N g ps T :=
  ⟨h.len, fun i hi => (h.row i hi).of_block (hb.block _ (h.row i hi).lt), h.nd, h.lo, fun i hi => Bs.cell_up hb (h.out i hi), h.far, Nat.lt_of_lt_of_le h.glt hb.size⟩
theorem Tb.mono {w : World} {base base' N g : Nat} {ps : List Nat} {T : Nat → Nat → Bool} (h : Tb w base N g ps T) (hb : base' ≤ base) : Tb w base' N g ps T :=
  ⟨h.len, h.row, h.nd, fun p hp => Nat.le_trans hb (h.lo p hp), h.out, h.far, h.glt⟩
theorem Tb.congr {w : World} {base N g : Nat} {ps : List Nat} {T T' : Nat → Nat → Bool} (h : Tb w base N g ps T) (e : ∀ a b, a < N → b < N → T a b = T' a b) : Tb w base N g ps T' :=
  ⟨h.len, fun i hi => (h.row i hi).congr (fun k hk => by rw [e i k (by rw [← h.len]; exact hi) hk]), h.nd, h.lo, h.out, h.far, h.glt⟩
theorem Tb.get {w : World} {base N g : Nat} {ps : List Nat} {T : Nat → Nat → Bool} (h : Tb w base N g ps T) {i k : Nat} (hi : i < N) (hk : k < N) : ∃ p, (∃ h : i < ps.length, ps[i] = p) ∧ base ≤ p ∧ w.cell? ⟨g, i, none⟩ = some (.slice (some ⟨p, 0, none⟩) N N) ∧ w.cell? ⟨p, k, none⟩ = some (.bool (T i k)) ∧ w.frozen? ⟨p, k, none⟩ = false ∧ ∀ v, Tb (w.setCell ⟨p, k, none⟩ (.bool v)) base N g ps (fun a b => if a = i ∧ b = k then v else T a b) := by
  have hi' : i < ps.length := by rw [h.len]; exact hi
  refine ⟨ps[i], ⟨hi', rfl⟩, h.lo _ (List.getElem_mem hi'), h.out i hi', (h.row i hi').cell hk, (h.row i hi').frozen k, fun v => ⟨h.len, fun j hj => ?_, h.nd, h.lo, fun j hj => ?_, h.far, ?_⟩⟩
  · by_cases e : j = i
    · subst e
      refine ((h.row j hj).set k (.bool v)).congr (fun b _ => ?_)
      by_cases e : b = k <;> simp [e]
    · refine ((h.row j hj).setOther (fun e' => e ?_) _).congr (fun b _ => by simp [e])
      exact Tb.inj h.nd hj hi' e'
  · refine Bs.cell_set (h.out j hj) (fun e => h.far ?_)
    have e' : ps[i] = g := e
    rw [← e']; exact List.getElem_mem hi'
  · rw [show (w.setCell ⟨ps[i], k, none⟩ (.bool v)).heap.size = w.heap.size by simp [go_sem]]; exact h.glt
structure Tb.Own (base N : Nat) (v : Value) (ps : List Nat) (w : World) : Prop where
  own : w.ownsRow base 101 1 v ps.length (ps.map (Tb.sl N))
  far : ∀ p ∈ ps, some p ≠ v.ownBlock
  row : ∀ i (h : i < ps.length), w.rowIs ps[i] 4 N (fun _ => .bool false)
  nd : ps.Nodup
  lo : ∀ p ∈ ps, base ≤ p
theorem Tb.own_nil (base N : Nat) (w : World) : Tb.Own base N (.slice none 0 0) [] w := ⟨World.ownsRow_nil _ _ _ _, by simp, by simp, by simp, by simp⟩
theorem Tb.Own.up {base N : Nat} {v : Value} {ps : List Nat} {w w' : World} (h : Tb.Own base N v ps w) (hb : Below w.heap.size w w') : Tb.Own base N v ps w' := by
  have hne : v.ownBlock = none ∨ v.ownBlock ≠ none := by
    cases v.ownBlock with
    | none => exact .inl rfl
    | some k => exact .inr (by simp)
  exact ⟨h.own.kept (row := none) ⟨hb.os, hb.tape, hb.output, hb.size, fun k hk _ => hb.block k hk⟩ hne, h.far, fun i hi => (h.row i hi).of_block (hb.block _ (h.row i hi).lt), h.nd, h.lo⟩
theorem Tb.infoB : (Tryz.prog.info? 101).map (fun i => (i.zero, i.size, i.bytes)) = some (some (.slice none 0 0), 1, 24) := by kernel_rfl
theorem Tb.infoC : (Tryz.prog.info? 4).map (fun i => (i.zero, i.size, i.bytes)) = some (some (.bool false), 1, 1) := by kernel_rfl
theorem Tb.append {ops : Array Oper} {rest : List Oper} {o : Oper} {a : Act} {Q : Exit → Act → World → Prop} {W : World} (hgd : o.guard = none) (s x : Operand)
    (ho : o.op = .call { callee := .builtin .append, args := #[s, x], argTypes := #[102, 102] })
    (base N : Nat) (v : Value) (ps : List Nat) (hs : a.eval s = v) (O : Tb.Own base N v ps W) (B c p : Nat) (hx : a.eval x = .slice (some ⟨B, 0, none⟩) 1 c)
    (hB : W.heap[B]? = some (.cells #[.slice (some ⟨p, 0, none⟩) N N] 101)) (hp : W.rowIs p 4 N (fun _ => .bool false)) (hpn : p ∉ ps) (hpb : base ≤ p) (hpo : some p ≠ v.ownBlock) (hl : ps.length ≤ 100000) (hbase : base ≤ W.heap.size)
    (h : ∀ v' w', Tb.Own base N v' (ps ++ [p]) w' → W.grownBy w' v.ownBlock → wpList Tryz.prog ops Q rest (a.put o.dst v') w') : wpList Tryz.prog ops Q (o :: rest) a W := by
  obtain ⟨iE, hiE⟩ : ∃ i, Tryz.prog.info? 101 = some i := by
    have := Tb.infoB
    cases h : Tryz.prog.info? 101 with
    | none => rw [h] at this; simp at this
    | some i => exact ⟨i, rfl⟩
  have hz := Tb.infoB
  rw [hiE] at hz
  simp at hz
  obtain ⟨hz0, hz1, hz2⟩ := hz
  refine wpList_append_lies W hgd s x 102 ho base 101 iE _ 1 24 Tryz.underlying102 hiE hz0 hz1 hz2 rfl (by decide) v ps.length (ps.map (Tb.sl N)) hs O.own ⟨B, 0, none⟩ 1 c [Tb.sl N p] hx rfl (World.news_of_block hB) (by simp [Tb.sl, Value.oneCell']) (by decide) (by unfold maxLen; omega) (by omega) hbase _ rfl ?_
  intro g c' w' o1 o2 o3 o4
  have hfar : ∀ q ∈ ps ++ [p], some q ≠ v.ownBlock ∧ q < W.heap.size ∧ base ≤ q := by
    intro q hq
    rcases List.mem_append.1 hq with hq | hq
    · refine ⟨O.far q hq, ?_, O.lo q hq⟩
      obtain ⟨i, hi, rfl⟩ := List.getElem_of_mem hq
      exact (O.row i hi).lt
    · rw [List.mem_singleton.1 hq]; exact ⟨hpo, hp.lt, hpb⟩
  refine h _ _ ⟨by simpa [List.length_append, List.map_append] using o1, fun q hq => ?_, fun i hi => ?_, ?_, fun q hq => (hfar q hq).2.2⟩ o2
  · obtain ⟨h1, h2, _⟩ := hfar q hq
    simp only [Value.ownBlock]
    rcases o3 with e | e
    · rw [← e]; exact h1
    · intro e'
      injection e' with e'
      omega
  · have hq := hfar (ps ++ [p])[i] (List.getElem_mem hi)
    refine World.rowIs.of_block (w := W) ?_ (o2.block _ hq.2.1 hq.1)
    rw [List.getElem_append]
    split
    · rename_i h1; exact O.row i h1
    · rename_i h1
      have : i - ps.length = 0 := by simp at hi; omega
      simp [this]; exact hp
  · rw [List.nodup_append]
    exact ⟨O.nd, by simp, fun a ha b hb e => by rw [List.mem_singleton.1 hb] at e; exact hpn (e ▸ ha)⟩
theorem Tb.Own.done {base N : Nat} {v : Value} {ps : List Nat} {w : World} (h : Tb.Own base N v ps w) (hl : ps.length = N) (hN : 0 < N) : ∃ g cap, v = .slice (some ⟨g, 0, none⟩) N cap ∧ Tb w base N g ps (fun _ _ => false) := by
  obtain ⟨g, cap, rfl, hb, hlt⟩ := h.own.form (by omega)
  refine ⟨g, cap, by rw [hl], hl, fun i hi => h.row i hi, h.nd, h.lo, fun i hi => ?_, fun hg => h.far g hg (by simp [Value.ownBlock]), hlt⟩
  have := h.own.cells (g := g) (by simp [Value.ownBlock]) i (Tb.sl N ps[i]) (by simp [hi])
  have e0 : (⟨g, 0, none⟩ : Addr).add i = ⟨g, i, none⟩ := by unfold Addr.add; split <;> simp_all
  rw [e0] at this
  exact this
open Go.RowKit
def Tb.Post (w : World) (N : Nat) (T : Nat → Nat → Bool) (e : Ending) (w' : World) : Prop := ∃ g cap ps, e = .returned (.slice (some ⟨g, 0, none⟩) N cap) ∧ Tb w' w.heap.size N g ps T ∧ Below w.heap.size w w'
theorem Tb.Own.form {base N : Nat} {v : Value} {ps : List Nat} {w : World} (h : Tb.Own base N v ps w) : ∃ a n c, v = .slice a n c := by
  rcases h.own.2 with ⟨h0, _⟩ | ⟨g, cap, cur, e, _⟩
  · exact ⟨_, _, _, h0⟩
  · exact ⟨_, _, _, e⟩
def Tb.by (s : ByteArray) (i : Nat) : Nat := if h : i < s.size then s[i].toNat else 0
theorem Tb.wf_kid {k : Nat} {f : Nat → Bool} {l : List Rx} (h : (Rx.node k f l).wf = true) (q : Nat) (hq : q < l.length) : l[q].wf = true := by
  have h2 : Rx.wfL l = true := by simp only [Rx.wf, Bool.and_eq_true] at h; exact h.2
  exact Rx.wfL_all.1 h2 _ (List.getElem_mem hq)
structure Tb.W2 (U : World) (N g : Nat) (ps : List Nat) (T : Nat → Nat → Bool) (b k : Nat) (f : Nat → Bool) (a : Option Addr) (n cap : Nat) (u : World) : Prop where
  tb : Tb u U.heap.size N g ps T
  nd : Rx.Cell u ⟨b, 0, none⟩ k f a n cap
  bel : Below U.heap.size U u
theorem Rx.Cell.away {w : World} {b : Nat} {k : Nat} {f : Nat → Bool} {a : Option Addr} {n cap : Nat} (h : Rx.Cell w ⟨b, 0, none⟩ k f a n cap) {d i : Nat} (hd : d ≠ b) (v : Value) : Rx.Cell (w.setCell ⟨d, i, none⟩ v) ⟨b, 0, none⟩ k f a n cap :=
  ⟨Bs.cell_set h.c0 hd, Bs.cell_set h.c1 hd, Bs.cell_set h.c2 hd, Bs.cell_set h.c3 hd, Bs.cell_set h.c4 hd, Bs.cell_set h.c5 hd⟩
theorem Tb.W2.up {U : World} {N g : Nat} {ps : List Nat} {T : Nat → Nat → Bool} {b k : Nat} {f : Nat → Bool} {a : Option Addr} {n cap : Nat} {u u' : World} (h : Tb.W2 U N g ps T b k f a n cap u) (hb : Below u.heap.size u u') : Tb.W2 U N g ps T b k f a n cap u' := ⟨h.tb.up hb, h.nd.up hb, Bs.below_up h.bel hb⟩
def Tb.rel2 (s : ByteArray) (f : Nat → Bool) (N g capT b c p : Nat) : List (Value → World → Prop) := [
  fun v _ => v = .slice (some ⟨g, 0, none⟩) N capT,
  fun v _ => v = .int .i64 c,
  fun v _ => v = .pointer (some ⟨g, c, none⟩),
  fun v _ => v = .slice (some ⟨p, 0, none⟩) N N,
  fun v _ => v = .int .i64 c,
  fun v _ => v = .int .i64 (c + 1 : Nat),
  fun v _ => v = .pointer (some ⟨b, 1, none⟩),
  fun v _ => v = Bs.val f,
  fun v _ => v = .string s,
  fun v _ => v = .int .i64 c,
  fun v _ => v = .int .u8 (Tb.by s c),
  fun v _ => v = .bool (f (Tb.by s c)),
  fun v _ => v = .pointer (some ⟨p, c + 1, none⟩)]
theorem Tb.rel2_up (s : ByteArray) (f : Nat → Bool) (N g capT b c p : Nat) : Rg.Ups (Tb.rel2 s f N g capT b c p) := by
  refine ⟨?_, ?_, ?_, ?_, ?_, ?_, ?_, ?_, ?_, ?_, ?_, ?_, ?_, trivial⟩
  all_goals intro v w w' h hb
  all_goals exact h
theorem Tb.by_lt (s : ByteArray) (i : Nat) : Tb.by s i < 256 := by
  unfold Tb.by
  split
  · exact s[i].toNat_lt
  · omega
theorem Tb.by_at {s : ByteArray} {i : Nat} (h : i < s.size) : Tb.by s i = s[i].toNat := by rw [Tb.by, dif_pos h]
def Tb.acc (s : Nat → Nat) (n k : Nat) (l : List Rx) : Nat → Nat → Bool := if k = 2 then Rx.spC s n l Rx.idm else Rx.spA s n l (if k = 3 then Rx.non else Rx.idm)
def Tb.com (k : Nat) (m y : Nat → Nat → Bool) : Nat → Nat → Bool := if k = 2 then Rx.catS m y else Rx.altS m y
theorem Tb.spC_snoc (s : Nat → Nat) (n : Nat) (y : Rx) : ∀ (l : List Rx) (m : Nat → Nat → Bool), Rx.spC s n (l ++ [y]) m = Rx.catS (Rx.spC s n l m) (Rx.sp s n y)
  | [], m => by simp [Rx.spC]
  | x :: r, m => by rw [List.cons_append, Rx.spC, Rx.spC, Tb.spC_snoc s n y r]
theorem Tb.spA_snoc (s : Nat → Nat) (n : Nat) (y : Rx) : ∀ (l : List Rx) (m : Nat → Nat → Bool), Rx.spA s n (l ++ [y]) m = Rx.altS (Rx.spA s n l m) (Rx.sp s n y)
  | [], m => by simp [Rx.spA]
  | x :: r, m => by rw [List.cons_append, Rx.spA, Rx.spA, Tb.spA_snoc s n y r]
theorem Tb.acc_succ (s : Nat → Nat) (n k : Nat) (l : List Rx) (q : Nat) (h : q < l.length) : Tb.acc s n k (l.take (q + 1)) = Tb.com k (Tb.acc s n k (l.take q)) (Rx.sp s n l[q]) := by
  rw [List.take_succ_eq_append_getElem h]
  unfold Tb.acc Tb.com
  by_cases h2 : k = 2
  · simp only [if_pos h2]; rw [Tb.spC_snoc]
  · simp only [if_neg h2]; rw [Tb.spA_snoc]
theorem Tb.com_low {k : Nat} {m y : Nat → Nat → Bool} {a b : Nat} (h : b < a) : Tb.com k m y a b = false := by
  unfold Tb.com
  split
  · simp [Rx.catS, Nat.not_le.2 h]
  · simp [Rx.altS, Nat.not_le.2 h]
theorem Tb.sp_node (s : Nat → Nat) (n k : Nat) (f : Nat → Bool) (l : List Rx) (hw : (Rx.node k f l).wf = true) (h1 : k ≠ 1) : Rx.sp s n (.node k f l) = if k = 4 then Rx.war (Tb.acc s n k l) (n + 1) else Tb.acc s n k l := by
  have hk : k ≤ 4 := by simp only [Rx.wf, Bool.and_eq_true, decide_eq_true_eq] at hw; omega
  have : k = 0 ∨ k = 2 ∨ k = 3 ∨ k = 4 := by omega
  rcases this with rfl | rfl | rfl | rfl
  · simp [Rx.sp, Tb.acc]
  · simp [Rx.sp, Tb.acc]
  · simp [Rx.sp, Tb.acc]
  · simp [Rx.sp, Tb.acc]
def Tb.part (m y : Nat → Nat → Bool) (i k j : Nat) : Bool := (List.range j).any fun j => decide (i ≤ j) && (m i j && y j k)
theorem Tb.part_zero (m y : Nat → Nat → Bool) (i k : Nat) : Tb.part m y i k i = false := by
  simp only [Tb.part, List.any_eq_false, List.mem_range]
  intro j hj
  simp [Nat.not_le.2 hj]
theorem Tb.part_succ {m y : Nat → Nat → Bool} {i k j : Nat} (h : i ≤ j) : Tb.part m y i k (j + 1) = (Tb.part m y i k j || (m i j && y j k)) := by
  simp [Tb.part, List.range_succ, h]
theorem Tb.part_done {m y : Nat → Nat → Bool} {i k : Nat} (h : i ≤ k) : Tb.part m y i k (k + 1) = Rx.catS m y i k := by
  simp [Tb.part, Rx.catS, h]
set_option maxRecDepth 100000 in
set_option maxHeartbeats 8000000 in
theorem refSpans_any (s : ByteArray) (hs : s.size ≤ 10000) : ∀ (m : Nat) (x : Rx), x.size ≤ m → m ≤ 1000 → x.wf = true → ∀ (v : Value) (w : World), Rx.Is w x v → Calls Tryz.prog 51 #[v, .string s] w (Tb.Post w (s.size + 1) (Rx.sp (Tb.by s) s.size x)) := by
  intro m
  induction m with
  | zero => intro x h; have := x.size_pos; omega
  | succ m ih =>
    rintro ⟨k, f, l⟩ hm hm4 hwf v w hx
    obtain ⟨hk, a, cap, rfl, hl⟩ := hx
    simp only [Rx.size] at hm
    have hle := Rx.length_le l
    obtain ⟨N, hN⟩ : ∃ N, s.size + 1 = N := ⟨_, rfl⟩
    rw [hN] at ih
    have IH := Lib.hid ih; clear ih
    have HL := Lib.hid hl; clear hl
    have HW := Lib.hid hwf; clear hwf
    obtain ⟨n, hn⟩ : ∃ n, l.length = n := ⟨_, rfl⟩
    have HN := Lib.hid hn
    unfold Rx.hdr
    rw [hn] at hle ⊢
    clear hn
    have hN0 : 0 < N := by omega
    have hwr : IntKind.i64.wrap ((s.size : Int) + 1) = (N : Int) := by rw [IntWalk.i64_in _ (by omega)]; omega
    rw [hN]
    have hmk := run_make_row' (P := Tryz.prog) 101 4 (.bool false) 1 Tryz.underlying101 Tb.infoC rfl .i64 .i64 N (by omega) (by omega)
    have A0 := Bs.below1 w (.cells #[.int .u8 k, .int .u64 (Bs.word f 0), .int .u64 (Bs.word f 1), .int .u64 (Bs.word f 2), .int .u64 (Bs.word f 3), .slice a n cap] 57)
    have ND := Rx.cell_new w k f a n cap 57
    have hUs : w.heap.size < (w.alloc (.cells #[.int .u8 k, .int .u64 (Bs.word f 0), .int .u64 (Bs.word f 1), .int .u64 (Bs.word f 2), .int .u64 (Bs.word f 3), .slice a n cap] 57)).heap.size := by simp [go_sem]
    go_enter Tryz.func51, Tryz.ntmps51
    go_wp2_with fail
    generalize w.alloc (.cells #[.int .u8 k, .int .u64 (Bs.word f 0), .int .u64 (Bs.word f 1), .int .u64 (Bs.word f 2), .int .u64 (Bs.word f 3), .slice a n cap] 57) = U at *
    go_loopw [6, 7] (fun r i wr => ∃ (c : Nat) (ps : List Nat), c ≤ N ∧ i = .int .i64 c ∧ ps.length = c ∧ Tb.Own U.heap.size N r ps wr ∧ Below U.heap.size U wr) (fun _ i _ => N - (intOf i).toNat)
    case atStart => exact ⟨0, [], by omega, rfl, rfl, Tb.own_nil _ _ _, Below.refl _ _⟩
    case round =>
      obtain ⟨c, ps, hc, rfl, hps, O, A⟩ := hrel
      by_cases hlt : c < N
      · have e1 : decide ((c : Int) < (N : Int)) = true := decide_eq_true (by omega)
        have e2 : decide (c < N) = true := decide_eq_true hlt
        have R1 := (World.rowIs_made wr (.bool false) N 4).alloc (.cells #[.slice (some ⟨wr.heap.size, 0, none⟩) N N] 101)
        have O1 := O.up (Bs.below2 wr (.cells (madeCells #[.bool false] N) 4) (.cells #[.slice (some ⟨wr.heap.size, 0, none⟩) N N] 101))
        have A1 := Bs.below_up A (Bs.below2 wr (.cells (madeCells #[.bool false] N) 4) (.cells #[.slice (some ⟨wr.heap.size, 0, none⟩) N N] 101))
        have hB := heap_alloc_new (wr.alloc (.cells (madeCells #[.bool false] N) 4)) (.cells #[.slice (some ⟨wr.heap.size, 0, none⟩) N N] 101)
        rw [show (wr.alloc (.cells (madeCells #[.bool false] N) 4)).heap.size = wr.heap.size + 1 by simp [go_sem]] at hB
        have hpn : wr.heap.size ∉ ps := fun hp => by
          obtain ⟨i, hi, e⟩ := List.getElem_of_mem hp
          have := (O.row i hi).lt
          omega
        have hpo : some wr.heap.size ≠ u6.ownBlock := fun e => by have := O.own.lt _ e.symm; omega
        have hu6 : ∃ a9 n9 c9, u6 = .slice a9 n9 c9 := Tb.Own.form O
        obtain ⟨a9, n9, c9, rfl⟩ := hu6
        have hpb := A.size
        have hsz := A1.size
        go_wp2_with (first | (at_builtin; refine Tb.append rfl _ _ rfl U.heap.size N _ ps rfl O1 (wr.heap.size + 1) 1 wr.heap.size rfl hB R1 hpn hpb hpo (by omega) hsz ?_; intro v7 w4 O4 g4))
        have A4 := A1.grown g4 hsz (fun j hj => (O1.own.lt j hj).1)
        have hu7 := Tb.Own.form O4
        obtain ⟨a7, n7, c7, rfl⟩ := hu7
        clear g4 O1 A1 R1 hB hpo
        go_wp2_with fail
        go_roundw
        case rel => exact ⟨c + 1, ps ++ [wr.heap.size], by omega, by go_num, by simp [hps], O4, A4⟩
        case measure => simp [intOf]; omega
      · have e1 : decide ((c : Int) < (N : Int)) = false := decide_eq_false (by omega)
        have e2 : decide (c < N) = false := decide_eq_false hlt
        obtain ⟨g, capT, rfl, TB⟩ := O.done (by omega) hN0
        clear O hps hc hlt
        have ND0 := Lib.hid ND
        replace ND := ND.up A
        have c0 := ND.c0; have c1 := ND.c1; have c2 := ND.c2; have c3 := ND.c3; have c4 := ND.c4; have c5 := ND.c5
        simp only [Nat.zero_add] at c0 c1 c2 c3 c4 c5
        by_cases h1 : k = 1
        · have h2 : ((k : Int) == 1) = true := by simp; omega
          have HSP := Lib.hid (show Rx.sp (Tb.by s) s.size (.node k f l) = fun i j => decide (i < s.size) && (j == i + 1 && f (Tb.by s i)) by rw [h1, Rx.sp])
          clear h1
          go_wp2_with fail
          go_loopw [8] (fun i wr => ∃ (c : Nat) (T : Nat → Nat → Bool), c ≤ s.size ∧ i = .int .i64 c ∧ Tb.W2 U N g ps T w.heap.size k f a n cap wr ∧ Hid (∀ a b, a < N → b < N → T a b = (decide (a < c) && (b == a + 1 && f (Tb.by s a))))) (fun i _ => s.size - (intOf i).toNat)
          case atStart => exact ⟨0, _, by omega, rfl, ⟨TB, ND, A⟩, Lib.hid (by simp)⟩
          case round =>
            clear TB ND A c0 c1 c2 c3 c4 c5 e1 e2
            obtain ⟨c, T, hc, rfl, W2, HT⟩ := hrel
            by_cases hlt : c < s.size
            · have e1 : decide ((c : Int) < (s.size : Int)) = true := decide_eq_true (by omega)
              have e2 : decide (c < s.size) = true := decide_eq_true hlt
              have i1 : (0 : Int) ≤ (c : Int) := by omega
              have i2 : (c : Int) < (N : Int) := by omega
              have i3 : (0 : Int) ≤ ((c + 1 : Nat) : Int) := by omega
              have i4 : ((c + 1 : Nat) : Int) < (N : Int) := by omega
              have i6 : (0 : Int) ≤ (c : Int) + 1 := by omega
              have i7 : (c : Int) + 1 < (N : Int) := by omega
              have i5 : IntKind.i64.wrap ((c : Int) + 1) = ((c + 1 : Nat) : Int) := by rw [IntWalk.i64_in _ (by omega)]; rfl
              obtain ⟨p, hpc, hp, m1, m2, m3, hset⟩ := W2.tb.get (i := c) (k := c + 1) (by omega) (by omega)
              have HP := Lib.hid hpc
              clear hset m1 m2 m3 hpc
              go_upto_region 11 with fail
              refine Rg.regionT (by kernel_rfl) (by kernel_rfl) (by kernel_rfl) (by decide) (Rg.rel (Tb.rel2 s f N g capT w.heap.size c p)) (Tb.W2 U N g ps T w.heap.size k f a n cap) (fun w w' => Below w.heap.size w w') (fun i v w w' h _ hb => Rg.rel_up (Tb.rel2_up _ _ _ _ _ _ _ _) h hb) (W2.up (Below.refl _ _).drew) ⟨?_, ?_, ?_, ?_, ?_, ?_, ?_, ?_, ?_, ?_, ?_, ?_, ?_, trivial⟩ ?_
              · intro fv u hw hd
                have HW := Lib.hid hw
                clear hw hd
                simp only [Rg.step, Rg.all, Act.put, List.setIfInBounds_toArray, List.set_cons_zero, List.set_cons_succ]
                go_simp
                first | exact ⟨rfl, HW.out, Below.refl _ _⟩ | exact ⟨HW.out, Below.refl _ _⟩
              · intro fv u hw hd
                have HW := Lib.hid hw
                clear hw hd
                simp only [Rg.step, Rg.all, Act.put, List.setIfInBounds_toArray, List.set_cons_zero, List.set_cons_succ]
                go_simp
                first | exact ⟨rfl, HW.out, Below.refl _ _⟩ | exact ⟨HW.out, Below.refl _ _⟩
              · intro fv u hw hd
                have e0 : fv 0 = .slice (some ⟨g, 0, none⟩) N capT := hd _ (List.mem_cons_self ..)
                have e1 : fv 1 = .int .i64 c := hd _ (List.mem_cons_of_mem _ (List.mem_cons_self ..))
                have HW := Lib.hid hw
                clear hw hd
                simp only [Rg.step, Rg.all, Act.put, List.setIfInBounds_toArray, List.set_cons_zero, List.set_cons_succ]
                go_simp
                first | exact ⟨rfl, HW.out, Below.refl _ _⟩ | exact ⟨HW.out, Below.refl _ _⟩
              · intro fv u hw hd
                have e2 : fv 2 = .pointer (some ⟨g, c, none⟩) := hd _ (List.mem_cons_self ..)
                have m1 : u.cell? ⟨g, c, none⟩ = some (.slice (some ⟨p, 0, none⟩) N N) := by
                  obtain ⟨h9, e9⟩ := HP.out
                  have := hw.tb.out c h9
                  rw [e9] at this
                  exact this
                have HW := Lib.hid hw
                clear hw hd
                simp only [Rg.step, Rg.all, Act.put, List.setIfInBounds_toArray, List.set_cons_zero, List.set_cons_succ]
                go_simp
                first | exact ⟨rfl, HW.out, Below.refl _ _⟩ | exact ⟨HW.out, Below.refl _ _⟩
              · intro fv u hw hd
                have HW := Lib.hid hw
                clear hw hd
                simp only [Rg.step, Rg.all, Act.put, List.setIfInBounds_toArray, List.set_cons_zero, List.set_cons_succ]
                go_simp
                first | exact ⟨rfl, HW.out, Below.refl _ _⟩ | exact ⟨HW.out, Below.refl _ _⟩
              · intro fv u hw hd
                have e4 : fv 4 = .int .i64 c := hd _ (List.mem_cons_self ..)
                have HW := Lib.hid hw
                clear hw hd
                simp only [Rg.step, Rg.all, Act.put, List.setIfInBounds_toArray, List.set_cons_zero, List.set_cons_succ]
                go_simp
                first | exact ⟨rfl, HW.out, Below.refl _ _⟩ | exact ⟨HW.out, Below.refl _ _⟩
              · intro fv u hw hd
                have HW := Lib.hid hw
                clear hw hd
                simp only [Rg.step, Rg.all, Act.put, List.setIfInBounds_toArray, List.set_cons_zero, List.set_cons_succ]
                go_simp
                first | exact ⟨rfl, HW.out, Below.refl _ _⟩ | exact ⟨HW.out, Below.refl _ _⟩
              · intro fv u hw hd
                have e6 : fv 6 = .pointer (some ⟨w.heap.size, 1, none⟩) := hd _ (List.mem_cons_self ..)
                have c1 := hw.nd.c1; have c2 := hw.nd.c2; have c3 := hw.nd.c3; have c4 := hw.nd.c4
                simp only [Nat.zero_add] at c1 c2 c3 c4
                have HW := Lib.hid hw
                clear hw hd
                simp only [Rg.step, Rg.all, Act.put, List.setIfInBounds_toArray, List.set_cons_zero, List.set_cons_succ]
                go_simp
                first | exact ⟨rfl, HW.out, Below.refl _ _⟩ | exact ⟨HW.out, Below.refl _ _⟩
              · intro fv u hw hd
                have HW := Lib.hid hw
                clear hw hd
                simp only [Rg.step, Rg.all, Act.put, List.setIfInBounds_toArray, List.set_cons_zero, List.set_cons_succ]
                go_simp
                first | exact ⟨rfl, HW.out, Below.refl _ _⟩ | exact ⟨HW.out, Below.refl _ _⟩
              · intro fv u hw hd
                have HW := Lib.hid hw
                clear hw hd
                simp only [Rg.step, Rg.all, Act.put, List.setIfInBounds_toArray, List.set_cons_zero, List.set_cons_succ]
                go_simp
                first | exact ⟨rfl, HW.out, Below.refl _ _⟩ | exact ⟨HW.out, Below.refl _ _⟩
              · intro fv u hw hd
                have e8 : fv 8 = .string s := hd _ (List.mem_cons_self ..)
                have e9 : fv 9 = .int .i64 c := hd _ (List.mem_cons_of_mem _ (List.mem_cons_self ..))
                have HB := Lib.hid (Tb.by_at hlt)
                have HW := Lib.hid hw
                clear hw hd
                simp only [Rg.step, Rg.all, Act.put, List.setIfInBounds_toArray, List.set_cons_zero, List.set_cons_succ]
                go_simp
                refine ⟨?_, HW.out, Below.refl _ _⟩
                show _ = Value.int .u8 (Tb.by s c)
                rw [HB.out]
              · intro fv u hw hd
                have e7 : fv 7 = Bs.val f := hd _ (List.mem_cons_self ..)
                have e10 : fv 10 = .int .u8 (Tb.by s c) := hd _ (List.mem_cons_of_mem _ (List.mem_cons_self ..))
                have HW := Lib.hid hw
                clear hw hd
                simp only [Rg.step, Rg.all, Act.put, List.setIfInBounds_toArray, List.set_cons_zero, List.set_cons_succ]
                go_simp
                refine (refHas_any f (Tb.by s c) (Tb.by_lt s c) u).mono ?_
                rintro e u1 ⟨rfl, hb⟩
                exact ⟨_, rfl, rfl, HW.out.up hb, hb⟩
              · intro fv u hw hd
                have e3 : fv 3 = .slice (some ⟨p, 0, none⟩) N N := hd _ (List.mem_cons_self ..)
                have e5 : fv 5 = .int .i64 (c + 1 : Nat) := hd _ (List.mem_cons_of_mem _ (List.mem_cons_self ..))
                have HW := Lib.hid hw
                clear hw hd
                simp only [Rg.step, Rg.all, Act.put, List.setIfInBounds_toArray, List.set_cons_zero, List.set_cons_succ]
                go_simp
                first | exact ⟨rfl, HW.out, Below.refl _ _⟩ | exact ⟨HW.out, Below.refl _ _⟩
              · intro fv u hw hR o ho
                have r12 : fv 12 = .pointer (some ⟨p, c + 1, none⟩) := hR 12 (by decide)
                have r11 : fv 11 = .bool (f (Tb.by s c)) := hR 11 (by decide)
                simp at ho
                subst ho
                simp only [Rg.step, Rg.all, Act.put, List.setIfInBounds_toArray, List.set_cons_zero, List.set_cons_succ]
                obtain ⟨p', ⟨h9, hpp⟩, hp', m1, m2, m3, hset⟩ := hw.tb.get (i := c) (k := c + 1) (by omega) (by omega)
                have hpe : p' = p := by obtain ⟨_, e9⟩ := HP.out; rw [← hpp, e9]
                subst hpe
                have HS := Lib.hid (hset (f (Tb.by s c)))
                have HW := Lib.hid hw
                clear hset hw hR
                go_simp
                go_wp2_with fail
                go_roundw
                case rel =>
                  refine ⟨c + 1, _, by omega, by go_num, ⟨HS.out, HW.out.nd.away (by omega) _, HW.out.bel.setCell hp _⟩, Lib.hid fun x y hx hy => ?_⟩
                  rw [HT.out x y hx hy]
                  by_cases ex : x = c
                  · subst ex
                    by_cases ey : y = x + 1
                    · simp [ey]
                    · simp [ey]
                  · have : decide (x < c + 1) = decide (x < c) := by rw [decide_eq_decide]; omega
                    simp [ex, this]
                case measure => simp [intOf]; omega
            · have e1 : decide ((c : Int) < (s.size : Int)) = false := decide_eq_false (by omega)
              have e2 : decide (c < s.size) = false := decide_eq_false hlt
              obtain rfl : c = s.size := by omega
              go_wp2_with fail
              go_ret
              exact ⟨_, _, _, rfl, by rw [HSP.out]; exact (W2.tb.congr HT.out).mono A0.size, Bs.below_up A0 W2.bel⟩
        · have h2 : ((k : Int) == 1) = false := by simp; omega
          have HSP := Lib.hid (Tb.sp_node (Tb.by s) s.size k f l HW.out h1)
          clear h1
          by_cases h3 : k = 3
          · have h4 : ((k : Int) == 3) = true := by simp; omega
            have h7 : ((k : Int) != 3) = false := by simp; omega
            have TA : Tb wr U.heap.size N g ps (Tb.acc (Tb.by s) s.size k (l.take 0)) := TB.congr (fun _ _ _ _ => by simp [Tb.acc, h3, Rx.spA, Rx.non])
            have H3 := Lib.hid h3
            clear h3 TB
            go_wp2_with fail
            clear c0 c1 c2 c3 c4 c5 ND e1 e2
            go_loopw [6, 10] (fun r i wr => ∃ (q g cp : Nat) (ps : List Nat), q ≤ n ∧ r = .slice (some ⟨g, 0, none⟩) N cp ∧ i = .int .i64 q ∧ Tb wr U.heap.size N g ps (Tb.acc (Tb.by s) s.size k (l.take q)) ∧ Below U.heap.size U wr) (fun _ i _ => n - (intOf i).toNat)
            case atStart => exact ⟨0, g, capT, ps, by omega, rfl, rfl, TA, A⟩
            case round =>
              clear TA A
              obtain ⟨q, g, cp, ps, hq, rfl, rfl, TA, A⟩ := hrel
              have ND := ND0.out.up A
              have c0 := ND.c0; have c1 := ND.c1; have c2 := ND.c2; have c3 := ND.c3; have c4 := ND.c4; have c5 := ND.c5
              simp only [Nat.zero_add] at c0 c1 c2 c3 c4 c5
              by_cases hlt : q < n
              · have hlt' : q < l.length := by rw [HN.out]; exact hlt
                obtain ⟨pk, rfl, hpk⟩ := HL.out.get q hlt'
                rw [Nat.zero_add] at hpk
                have hs9 := (Rx.part_le (List.getElem_mem hlt')).1
                have HT := Lib.hid (Tb.acc_succ (Tb.by s) s.size k l q hlt')
                have IQ := Lib.hid (IH.out l[q] (by omega) (by omega) (Tb.wf_kid HW.out q hlt'))
                generalize l[q] = y at *
                obtain ⟨k1, f1, a1, n1, cap1, ⟨x0, x1, x2, x3, x4, x5⟩, hi⟩ := hpk.open
                have AW := Bs.below_up A0 A
                replace x0 := Bs.cell_up AW x0; replace x1 := Bs.cell_up AW x1; replace x2 := Bs.cell_up AW x2; replace x3 := Bs.cell_up AW x3; replace x4 := Bs.cell_up AW x4; replace x5 := Bs.cell_up AW x5
                have HI := Lib.hid (hi.up AW)
                clear hpk hi AW
                unfold Rx.hdr at HI
                have e1 : decide ((q : Int) < (n : Int)) = true := decide_eq_true (by omega)
                have e2 : decide (q < n) = true := decide_eq_true hlt
                have i1 : (0 : Int) ≤ (q : Int) := by omega
                have i2 : (q : Int) < (n : Int) := by omega
                go_wp2_with fail
                refine (IQ.out _ _ HI.out).mono ?_
                rintro e w1 ⟨gy, cy, psy, rfl, TY, A1⟩
                replace TA := TA.up A1
                replace A := Bs.below_up A A1
                clear IQ HI x0 x1 x2 x3 x4 x5 c0 c1 c2 c3 c4 c5 ND A1 e1 e2 i1 i2
                generalize Tb.acc (Tb.by s) s.size k (l.take q) = M at *
                generalize Rx.sp (Tb.by s) s.size y = Y at *
                go_wp2_with fail
                go_loopw [12, 13] (fun r i wr => ∃ (c : Nat) (ps : List Nat), c ≤ N ∧ i = .int .i64 c ∧ ps.length = c ∧ Tb.Own w1.heap.size N r ps wr ∧ Below w1.heap.size w1 wr) (fun _ i _ => N - (intOf i).toNat)
                case atStart => exact ⟨0, [], by omega, rfl, rfl, Tb.own_nil _ _ _, Below.refl _ _⟩
                case round =>
                  obtain ⟨c, ps5, hc, rfl, hps, O, A5⟩ := hrel
                  by_cases hlt : c < N
                  · have e1 : decide ((c : Int) < (N : Int)) = true := decide_eq_true (by omega)
                    have e2 : decide (c < N) = true := decide_eq_true hlt
                    have R1 := (World.rowIs_made wr (.bool false) N 4).alloc (.cells #[.slice (some ⟨wr.heap.size, 0, none⟩) N N] 101)
                    have O1 := O.up (Bs.below2 wr (.cells (madeCells #[.bool false] N) 4) (.cells #[.slice (some ⟨wr.heap.size, 0, none⟩) N N] 101))
                    have A1 := Bs.below_up A5 (Bs.below2 wr (.cells (madeCells #[.bool false] N) 4) (.cells #[.slice (some ⟨wr.heap.size, 0, none⟩) N N] 101))
                    have hB := heap_alloc_new (wr.alloc (.cells (madeCells #[.bool false] N) 4)) (.cells #[.slice (some ⟨wr.heap.size, 0, none⟩) N N] 101)
                    rw [show (wr.alloc (.cells (madeCells #[.bool false] N) 4)).heap.size = wr.heap.size + 1 by simp [go_sem]] at hB
                    have hpn : wr.heap.size ∉ ps5 := fun hp => by
                      obtain ⟨i, hi, e⟩ := List.getElem_of_mem hp
                      have := (O.row i hi).lt
                      omega
                    have hpo : some wr.heap.size ≠ u12.ownBlock := fun e => by have := O.own.lt _ e.symm; omega
                    have hu6 : ∃ a9 n9 c9, u12 = .slice a9 n9 c9 := Tb.Own.form O
                    obtain ⟨a9, n9, c9, rfl⟩ := hu6
                    have hpb := A5.size
                    have hsz := A1.size
                    go_wp2_with (first | (at_builtin; refine Tb.append rfl _ _ rfl w1.heap.size N _ ps5 rfl O1 (wr.heap.size + 1) 1 wr.heap.size rfl hB R1 hpn hpb hpo (by omega) hsz ?_; intro v7 w4 O4 g4))
                    have A4 := A1.grown g4 hsz (fun j hj => (O1.own.lt j hj).1)
                    have hu7 := Tb.Own.form O4
                    obtain ⟨a7, n7, c7, rfl⟩ := hu7
                    clear g4 O1 A1 R1 hB hpo
                    go_wp2_with fail
                    go_roundw
                    case rel => exact ⟨c + 1, ps5 ++ [wr.heap.size], by omega, by go_num, by simp [hps], O4, A4⟩
                    case measure => simp [intOf]; omega
                  · have e1 : decide ((c : Int) < (N : Int)) = false := decide_eq_false (by omega)
                    have e2 : decide (c < N) = false := decide_eq_false hlt
                    obtain ⟨g5, cap5, rfl, TB⟩ := O.done (by omega) hN0
                    clear O hps hc hlt
                    go_wp2_with fail
                    clear e1 e2
                    go_loopw [14] (fun i wr => ∃ (c : Nat) (T : Nat → Nat → Bool), c ≤ N ∧ i = .int .i64 c ∧ Tb wr w1.heap.size N g5 ps5 T ∧ Hid (∀ x z, x < N → z < N → T x z = (decide (x < c) && Tb.com k M Y x z)) ∧ Below w1.heap.size w1 wr) (fun i _ => N - (intOf i).toNat)
                    case atStart => exact ⟨0, _, by omega, rfl, TB, Lib.hid (by simp), A5⟩
                    case round =>
                      clear TB A5
                      obtain ⟨c, T, hc, rfl, TB, HF, A5⟩ := hrel
                      by_cases hltc : c < N
                      · have k1 : decide ((c : Int) < (N : Int)) = true := decide_eq_true (by omega)
                        have k2 : decide (c < N) = true := decide_eq_true hltc
                        have k3 : (0 : Int) ≤ (c : Int) := by omega
                        have k4 : (c : Int) < (N : Int) := by omega
                        go_wp2_with fail
                        go_loopw [15] (fun i wr => ∃ (d : Nat) (T : Nat → Nat → Bool), c ≤ d ∧ d ≤ N ∧ i = .int .i64 d ∧ Tb wr w1.heap.size N g5 ps5 T ∧ Hid (∀ x z, x < N → z < N → T x z = (decide (x < c ∨ (x = c ∧ z < d)) && Tb.com k M Y x z)) ∧ Below w1.heap.size w1 wr) (fun i _ => N - (intOf i).toNat)
                        case atStart =>
                          refine ⟨c, _, Nat.le_refl _, by omega, rfl, TB, Lib.hid fun x z hx hz => ?_, A5⟩
                          rw [HF.out x z hx hz]
                          by_cases e9 : x = c ∧ z < c
                          · rw [Tb.com_low (by omega)]; simp
                          · congr 1
                            rw [decide_eq_decide]
                            omega
                        case round =>
                          clear TB HF A5
                          obtain ⟨d, T, hcd, hd, rfl, TB, HF, A5⟩ := hrel
                          by_cases hltd : d < N
                          · have l1 : decide ((d : Int) < (N : Int)) = true := decide_eq_true (by omega)
                            have l2 : decide (d < N) = true := decide_eq_true hltd
                            have l3 : (0 : Int) ≤ (d : Int) := by omega
                            have l4 : (d : Int) < (N : Int) := by omega
                            have ND := (ND0.out.up A).up A5
                            have c0 := ND.c0; have c1 := ND.c1; have c2 := ND.c2; have c3 := ND.c3; have c4 := ND.c4; have c5 := ND.c5
                            simp only [Nat.zero_add] at c0 c1 c2 c3 c4 c5
                            by_cases h5 : k = 2
                            · exact absurd h5 (by have := H3.out; omega)
                            · have H2 := Lib.hid h5
                              have h6 : ((k : Int) == 2) = false := by simp; omega
                              clear h5
                              obtain ⟨p1, _, _, a1, a2, _, _⟩ := (TA.up A5).get hltc hltd
                              obtain ⟨p2, _, _, b1, b2, _, _⟩ := (TY.up A5).get hltc hltd
                              obtain ⟨p3, hp3, hb3, o1, o2, o3, hset⟩ := TB.get hltc hltd
                              have A5d := A5.drew
                              have HTB := Lib.hid TB
                              clear TB hset
                              cases hm : M c d
                              · rw [hm] at a2
                                have HM := Lib.hid hm
                                clear hm
                                go_upto_region 38 with fail
                                refine Rg.regionV (by kernel_rfl) 218 (by kernel_rfl) (by kernel_rfl) (by exact Nat.le_refl 218) [.slice (some ⟨g5, 0, none⟩) N cap5, .int .i64 c, .pointer (some ⟨g5, c, none⟩), .slice (some ⟨p3, 0, none⟩) N N, .int .i64 d, .slice (some ⟨g, 0, none⟩) N cp, .int .i64 c, .pointer (some ⟨g, c, none⟩), .slice (some ⟨p1, 0, none⟩) N N, .int .i64 d, .pointer (some ⟨p1, d, none⟩), .bool false, .bool false, .slice (some ⟨gy, 0, none⟩) N cy, .int .i64 c, .pointer (some ⟨gy, c, none⟩), .slice (some ⟨p2, 0, none⟩) N N, .int .i64 d, .pointer (some ⟨p2, d, none⟩), .bool (Y c d), .bool (Y c d), .pointer (some ⟨p3, d, none⟩)] [(12, .slice (some ⟨g5, 0, none⟩) N cap5), (14, .int .i64 c), (145, .slice (some ⟨g5, 0, none⟩) N cap5), (146, .int .i64 c), (147, .pointer (some ⟨g5, c, none⟩)), (15, .int .i64 d), (6, .slice (some ⟨g, 0, none⟩) N cp), (150, .slice (some ⟨g, 0, none⟩) N cp), (151, .int .i64 c), (152, .pointer (some ⟨g, c, none⟩)), (153, .slice (some ⟨p1, 0, none⟩) N N), (154, .int .i64 d), (155, .pointer (some ⟨p1, d, none⟩)), (156, .bool false), (11, .slice (some ⟨gy, 0, none⟩) N cy), (158, .slice (some ⟨gy, 0, none⟩) N cy), (159, .int .i64 c), (160, .pointer (some ⟨gy, c, none⟩)), (161, .slice (some ⟨p2, 0, none⟩) N N), (162, .int .i64 d), (163, .pointer (some ⟨p2, d, none⟩)), (157, .bool false), (164, .bool (Y c d)), (148, .slice (some ⟨p3, 0, none⟩) N N), (149, .int .i64 d), (166, .pointer (some ⟨p3, d, none⟩)), (165, .bool (Y c d))] _ (by simp only [Rg.all, Act.put, List.setIfInBounds_toArray, List.set_cons_zero, List.set_cons_succ, List.getD_cons_zero, List.getD_cons_succ]; rfl) ⟨rfl, rfl, rfl, rfl, rfl, rfl, rfl, rfl, rfl, rfl, rfl, rfl, rfl, rfl, rfl, rfl, rfl, rfl, rfl, rfl, rfl, rfl, rfl, rfl, rfl, rfl, rfl, trivial⟩ ?_ ?_
                                · intro E hc hv
                                  obtain ⟨q12, q14, q145, q146, q147, q15, q6, q150, q151, q152, q153, q154, q155, q156, q11, q158, q159, q160, q161, q162, q163, q157, q164, q148, q149, q166, q165, _⟩ := hv
                                  replace a1 := Rx.cell_dr a1
                                  replace a2 := Rx.cell_dr a2
                                  replace b1 := Rx.cell_dr b1
                                  replace b2 := Rx.cell_dr b2
                                  replace o1 := Rx.cell_dr o1
                                  generalize wr.drew = V at *
                                  refine ⟨?_, ?_, ?_, ?_, ?_, ?_, ?_, ?_, ?_, ?_, ?_, ?_, ?_, ?_, ?_, ?_, ?_, ?_, ?_, ?_, ?_, ?_, trivial⟩
                                  all_goals simp only [Rg.isB_u, Rg.isB_tt, Rg.isB_tf, Rg.isB_ft, Rg.isB_ff, List.getD_cons_zero, List.getD_cons_succ, if_true, if_false, Bool.false_eq_true]
                                  all_goals first | rfl | go_simp
                                · intro o ho
                                  simp at ho
                                  subst ho
                                  clear a1 a2 b1 b2 o1 o2 o3 hb3
                                  have TB := HTB.out.up (Below.refl _ _).drew
                                  obtain ⟨p4, hp4, hb3, o1, o2, o3, hset⟩ := TB.get hltc hltd
                                  obtain rfl : p4 = p3 := by obtain ⟨_, e3⟩ := hp3; obtain ⟨_, e4⟩ := hp4; rw [← e4, e3]
                                  have HS := Lib.hid hset
                                  clear hset TB hp3 hp4
                                  generalize wr.drew = V at *
                                  simp only [Rg.step]
                                  go_simp
                                  go_wp2_with fail
                                  go_roundw
                                  case rel =>
                                    refine ⟨d + 1, _, by omega, by omega, by go_num, HS.out _, Lib.hid fun x z hx hz => ?_, A5d.setCell hb3 _⟩
                                    try simp only
                                    rw [HF.out x z hx hz]
                                    by_cases e9 : x = c ∧ z = d
                                    · obtain ⟨rfl, rfl⟩ := e9
                                      simp [Tb.com, H2.out, Rx.altS, HM.out, hcd]
                                    · rw [if_neg e9]
                                      congr 1
                                      rw [decide_eq_decide]
                                      omega
                                  case measure => simp [intOf]; omega
                              · rw [hm] at a2
                                have HM := Lib.hid hm
                                clear hm
                                go_upto_region 38 with fail
                                refine Rg.regionV (by kernel_rfl) 218 (by kernel_rfl) (by kernel_rfl) (by exact Nat.le_refl 218) [.slice (some ⟨g5, 0, none⟩) N cap5, .int .i64 c, .pointer (some ⟨g5, c, none⟩), .slice (some ⟨p3, 0, none⟩) N N, .int .i64 d, .slice (some ⟨g, 0, none⟩) N cp, .int .i64 c, .pointer (some ⟨g, c, none⟩), .slice (some ⟨p1, 0, none⟩) N N, .int .i64 d, .pointer (some ⟨p1, d, none⟩), .bool true, .bool true, undef, undef, undef, undef, undef, undef, undef, .bool true, .pointer (some ⟨p3, d, none⟩)] [(12, .slice (some ⟨g5, 0, none⟩) N cap5), (14, .int .i64 c), (145, .slice (some ⟨g5, 0, none⟩) N cap5), (146, .int .i64 c), (147, .pointer (some ⟨g5, c, none⟩)), (15, .int .i64 d), (6, .slice (some ⟨g, 0, none⟩) N cp), (150, .slice (some ⟨g, 0, none⟩) N cp), (151, .int .i64 c), (152, .pointer (some ⟨g, c, none⟩)), (153, .slice (some ⟨p1, 0, none⟩) N N), (154, .int .i64 d), (155, .pointer (some ⟨p1, d, none⟩)), (156, .bool true), (157, .bool true), (164, undef), (148, .slice (some ⟨p3, 0, none⟩) N N), (149, .int .i64 d), (166, .pointer (some ⟨p3, d, none⟩)), (165, .bool true)] _ (by simp only [Rg.all, Act.put, List.setIfInBounds_toArray, List.set_cons_zero, List.set_cons_succ, List.getD_cons_zero, List.getD_cons_succ]; rfl) ⟨rfl, rfl, rfl, rfl, rfl, rfl, rfl, rfl, rfl, rfl, rfl, rfl, rfl, rfl, rfl, rfl, rfl, rfl, rfl, rfl, trivial⟩ ?_ ?_
                                · intro E hc hv
                                  obtain ⟨q12, q14, q145, q146, q147, q15, q6, q150, q151, q152, q153, q154, q155, q156, q157, q164, q148, q149, q166, q165, _⟩ := hv
                                  replace a1 := Rx.cell_dr a1
                                  replace a2 := Rx.cell_dr a2
                                  replace b1 := Rx.cell_dr b1
                                  replace b2 := Rx.cell_dr b2
                                  replace o1 := Rx.cell_dr o1
                                  generalize wr.drew = V at *
                                  refine ⟨?_, ?_, ?_, ?_, ?_, ?_, ?_, ?_, ?_, ?_, ?_, ?_, ?_, ?_, ?_, ?_, ?_, ?_, ?_, ?_, ?_, ?_, trivial⟩
                                  all_goals simp only [Rg.isB_u, Rg.isB_tt, Rg.isB_tf, Rg.isB_ft, Rg.isB_ff, List.getD_cons_zero, List.getD_cons_succ, if_true, if_false, Bool.false_eq_true]
                                  all_goals first | rfl | go_simp
                                · intro o ho
                                  simp at ho
                                  subst ho
                                  clear a1 a2 b1 b2 o1 o2 o3 hb3
                                  have TB := HTB.out.up (Below.refl _ _).drew
                                  obtain ⟨p4, hp4, hb3, o1, o2, o3, hset⟩ := TB.get hltc hltd
                                  obtain rfl : p4 = p3 := by obtain ⟨_, e3⟩ := hp3; obtain ⟨_, e4⟩ := hp4; rw [← e4, e3]
                                  have HS := Lib.hid hset
                                  clear hset TB hp3 hp4
                                  generalize wr.drew = V at *
                                  simp only [Rg.step]
                                  go_simp
                                  go_wp2_with fail
                                  go_roundw
                                  case rel =>
                                    refine ⟨d + 1, _, by omega, by omega, by go_num, HS.out _, Lib.hid fun x z hx hz => ?_, A5d.setCell hb3 _⟩
                                    try simp only
                                    rw [HF.out x z hx hz]
                                    by_cases e9 : x = c ∧ z = d
                                    · obtain ⟨rfl, rfl⟩ := e9
                                      simp [Tb.com, H2.out, Rx.altS, HM.out, hcd]
                                    · rw [if_neg e9]
                                      congr 1
                                      rw [decide_eq_decide]
                                      omega
                                  case measure => simp [intOf]; omega
                          · have l1 : decide ((d : Int) < (N : Int)) = false := decide_eq_false (by omega)
                            have l2 : decide (d < N) = false := decide_eq_false hltd
                            go_wp2_with fail
                            go_roundw
                            case rel =>
                              refine ⟨c + 1, _, by omega, by go_num, TB, Lib.hid fun x z hx hz => ?_, A5⟩
                              rw [HF.out x z hx hz]
                              congr 1
                              rw [decide_eq_decide]
                              omega
                            case measure => simp [intOf]; omega
                      · have k1 : decide ((c : Int) < (N : Int)) = false := decide_eq_false (by omega)
                        have k2 : decide (c < N) = false := decide_eq_false hltc
                        go_wp2_with fail
                        go_roundw
                        case rel =>
                          refine ⟨q + 1, g5, cap5, ps5, by omega, rfl, by go_num, ?_, A.trans (A5.mono A.size)⟩
                          rw [HT.out]
                          refine (TB.mono A.size).congr fun x z hx hz => ?_
                          rw [HF.out x z hx hz, show c = N by omega]
                          simp [hx]
                        case measure => simp [intOf]; omega
              · have e1 : decide ((q : Int) < (n : Int)) = false := decide_eq_false (by omega)
                have e2 : decide (q < n) = false := decide_eq_false hlt
                have hq' : l.take q = l := List.take_of_length_le (by rw [HN.out]; omega)
                by_cases h5 : k = 4
                · exact absurd h5 (by have := H3.out; omega)
                · have h6 : ((k : Int) == 4) = false := by simp; omega
                  have HG := Lib.hid (show Rx.sp (Tb.by s) s.size (.node k f l) = Tb.acc (Tb.by s) s.size k l by rw [HSP.out, if_neg h5])
                  clear h5
                  rw [hq'] at TA
                  clear hq'
                  go_wp2_with fail
                  go_ret
                  exact ⟨_, _, _, rfl, by rw [HG.out]; exact TA.mono A0.size, Bs.below_up A0 A⟩
          · have h4 : ((k : Int) == 3) = false := by simp; omega
            have h7 : ((k : Int) != 3) = true := by simp; omega
            have H0 := Lib.hid (show ∀ (T : Nat → Nat → Bool) (V : World), Tb V U.heap.size N g ps T → (∀ x z, x < N → z < N → T x z = (decide (x < N) && x == z)) → Tb V U.heap.size N g ps (Tb.acc (Tb.by s) s.size k (l.take 0)) from fun T V h e => h.congr fun x z hx hz => by rw [e x z hx hz]; simp [Tb.acc, h3, Rx.spA, Rx.spC, Rx.idm, hx])
            clear h3
            go_wp2_with fail
            clear c0 c1 c2 c3 c4 c5 ND e1 e2
            go_loopw [9] (fun i wr => ∃ (c : Nat) (T : Nat → Nat → Bool), c ≤ N ∧ i = .int .i64 c ∧ Tb wr U.heap.size N g ps T ∧ Hid (∀ x z, x < N → z < N → T x z = (decide (x < c) && x == z)) ∧ Below U.heap.size U wr) (fun i _ => N - (intOf i).toNat)
            case atStart => exact ⟨0, _, by omega, rfl, TB, Lib.hid (by simp), A⟩
            case round =>
              clear TB A
              obtain ⟨c, T, hc, rfl, TB, HT, A⟩ := hrel
              by_cases hlt : c < N
              · have e1 : decide ((c : Int) < (N : Int)) = true := decide_eq_true (by omega)
                have e2 : decide (c < N) = true := decide_eq_true hlt
                have i1 : (0 : Int) ≤ (c : Int) := by omega
                have i2 : (c : Int) < (N : Int) := by omega
                obtain ⟨p, _, hp, m1, m2, m3, hset⟩ := TB.get hlt hlt
                have HS := Lib.hid (hset true)
                clear hset
                go_wp2_with fail
                go_roundw
                case rel =>
                  refine ⟨c + 1, _, by omega, by go_num, HS.out, Lib.hid fun x z hx hz => ?_, A.setCell hp _⟩
                  try simp only
                  rw [HT.out x z hx hz]
                  by_cases ex : x = c
                  · subst ex
                    by_cases ez : z = x
                    · simp [ez]
                    · have : (x == z) = false := by simp; omega
                      simp [ez, this]
                  · have : decide (x < c + 1) = decide (x < c) := by rw [decide_eq_decide]; omega
                    simp [ex, this]
                case measure => simp [intOf]; omega
              · have e1 : decide ((c : Int) < (N : Int)) = false := decide_eq_false (by omega)
                have e2 : decide (c < N) = false := decide_eq_false hlt
                obtain rfl : N = c := by omega
                have TA := H0.out T wr TB HT.out
                have ND := ND0.out.up A
                have c0 := ND.c0; have c1 := ND.c1; have c2 := ND.c2; have c3 := ND.c3; have c4 := ND.c4; have c5 := ND.c5
                simp only [Nat.zero_add] at c0 c1 c2 c3 c4 c5
                clear TB HT H0
                go_wp2_with fail
                clear c0 c1 c2 c3 c4 c5 ND e1 e2
                go_loopw [6, 10] (fun r i wr => ∃ (q g cp : Nat) (ps : List Nat), q ≤ n ∧ r = .slice (some ⟨g, 0, none⟩) N cp ∧ i = .int .i64 q ∧ Tb wr U.heap.size N g ps (Tb.acc (Tb.by s) s.size k (l.take q)) ∧ Below U.heap.size U wr) (fun _ i _ => n - (intOf i).toNat)
                case atStart => exact ⟨0, g, capT, ps, by omega, rfl, rfl, TA, A⟩
                case round =>
                  clear TA A
                  obtain ⟨q, g, cp, ps, hq, rfl, rfl, TA, A⟩ := hrel
                  have ND := ND0.out.up A
                  have c0 := ND.c0; have c1 := ND.c1; have c2 := ND.c2; have c3 := ND.c3; have c4 := ND.c4; have c5 := ND.c5
                  simp only [Nat.zero_add] at c0 c1 c2 c3 c4 c5
                  by_cases hlt : q < n
                  · have hlt' : q < l.length := by rw [HN.out]; exact hlt
                    obtain ⟨pk, rfl, hpk⟩ := HL.out.get q hlt'
                    rw [Nat.zero_add] at hpk
                    have hs9 := (Rx.part_le (List.getElem_mem hlt')).1
                    have HT := Lib.hid (Tb.acc_succ (Tb.by s) s.size k l q hlt')
                    have IQ := Lib.hid (IH.out l[q] (by omega) (by omega) (Tb.wf_kid HW.out q hlt'))
                    generalize l[q] = y at *
                    obtain ⟨k1, f1, a1, n1, cap1, ⟨x0, x1, x2, x3, x4, x5⟩, hi⟩ := hpk.open
                    have AW := Bs.below_up A0 A
                    replace x0 := Bs.cell_up AW x0; replace x1 := Bs.cell_up AW x1; replace x2 := Bs.cell_up AW x2; replace x3 := Bs.cell_up AW x3; replace x4 := Bs.cell_up AW x4; replace x5 := Bs.cell_up AW x5
                    have HI := Lib.hid (hi.up AW)
                    clear hpk hi AW
                    unfold Rx.hdr at HI
                    have e1 : decide ((q : Int) < (n : Int)) = true := decide_eq_true (by omega)
                    have e2 : decide (q < n) = true := decide_eq_true hlt
                    have i1 : (0 : Int) ≤ (q : Int) := by omega
                    have i2 : (q : Int) < (n : Int) := by omega
                    go_wp2_with fail
                    refine (IQ.out _ _ HI.out).mono ?_
                    rintro e w1 ⟨gy, cy, psy, rfl, TY, A1⟩
                    replace TA := TA.up A1
                    replace A := Bs.below_up A A1
                    clear IQ HI x0 x1 x2 x3 x4 x5 c0 c1 c2 c3 c4 c5 ND A1 e1 e2 i1 i2
                    generalize Tb.acc (Tb.by s) s.size k (l.take q) = M at *
                    generalize Rx.sp (Tb.by s) s.size y = Y at *
                    go_wp2_with fail
                    go_loopw [12, 13] (fun r i wr => ∃ (c : Nat) (ps : List Nat), c ≤ N ∧ i = .int .i64 c ∧ ps.length = c ∧ Tb.Own w1.heap.size N r ps wr ∧ Below w1.heap.size w1 wr) (fun _ i _ => N - (intOf i).toNat)
                    case atStart => exact ⟨0, [], by omega, rfl, rfl, Tb.own_nil _ _ _, Below.refl _ _⟩
                    case round =>
                      obtain ⟨c, ps5, hc, rfl, hps, O, A5⟩ := hrel
                      by_cases hlt : c < N
                      · have e1 : decide ((c : Int) < (N : Int)) = true := decide_eq_true (by omega)
                        have e2 : decide (c < N) = true := decide_eq_true hlt
                        have R1 := (World.rowIs_made wr (.bool false) N 4).alloc (.cells #[.slice (some ⟨wr.heap.size, 0, none⟩) N N] 101)
                        have O1 := O.up (Bs.below2 wr (.cells (madeCells #[.bool false] N) 4) (.cells #[.slice (some ⟨wr.heap.size, 0, none⟩) N N] 101))
                        have A1 := Bs.below_up A5 (Bs.below2 wr (.cells (madeCells #[.bool false] N) 4) (.cells #[.slice (some ⟨wr.heap.size, 0, none⟩) N N] 101))
                        have hB := heap_alloc_new (wr.alloc (.cells (madeCells #[.bool false] N) 4)) (.cells #[.slice (some ⟨wr.heap.size, 0, none⟩) N N] 101)
                        rw [show (wr.alloc (.cells (madeCells #[.bool false] N) 4)).heap.size = wr.heap.size + 1 by simp [go_sem]] at hB
                        have hpn : wr.heap.size ∉ ps5 := fun hp => by
                          obtain ⟨i, hi, e⟩ := List.getElem_of_mem hp
                          have := (O.row i hi).lt
                          omega
                        have hpo : some wr.heap.size ≠ u12.ownBlock := fun e => by have := O.own.lt _ e.symm; omega
                        have hu6 : ∃ a9 n9 c9, u12 = .slice a9 n9 c9 := Tb.Own.form O
                        obtain ⟨a9, n9, c9, rfl⟩ := hu6
                        have hpb := A5.size
                        have hsz := A1.size
                        go_wp2_with (first | (at_builtin; refine Tb.append rfl _ _ rfl w1.heap.size N _ ps5 rfl O1 (wr.heap.size + 1) 1 wr.heap.size rfl hB R1 hpn hpb hpo (by omega) hsz ?_; intro v7 w4 O4 g4))
                        have A4 := A1.grown g4 hsz (fun j hj => (O1.own.lt j hj).1)
                        have hu7 := Tb.Own.form O4
                        obtain ⟨a7, n7, c7, rfl⟩ := hu7
                        clear g4 O1 A1 R1 hB hpo
                        go_wp2_with fail
                        go_roundw
                        case rel => exact ⟨c + 1, ps5 ++ [wr.heap.size], by omega, by go_num, by simp [hps], O4, A4⟩
                        case measure => simp [intOf]; omega
                      · have e1 : decide ((c : Int) < (N : Int)) = false := decide_eq_false (by omega)
                        have e2 : decide (c < N) = false := decide_eq_false hlt
                        obtain ⟨g5, cap5, rfl, TB⟩ := O.done (by omega) hN0
                        clear O hps hc hlt
                        go_wp2_with fail
                        clear e1 e2
                        go_loopw [14] (fun i wr => ∃ (c : Nat) (T : Nat → Nat → Bool), c ≤ N ∧ i = .int .i64 c ∧ Tb wr w1.heap.size N g5 ps5 T ∧ Hid (∀ x z, x < N → z < N → T x z = (decide (x < c) && Tb.com k M Y x z)) ∧ Below w1.heap.size w1 wr) (fun i _ => N - (intOf i).toNat)
                        case atStart => exact ⟨0, _, by omega, rfl, TB, Lib.hid (by simp), A5⟩
                        case round =>
                          clear TB A5
                          obtain ⟨c, T, hc, rfl, TB, HF, A5⟩ := hrel
                          by_cases hltc : c < N
                          · have k1 : decide ((c : Int) < (N : Int)) = true := decide_eq_true (by omega)
                            have k2 : decide (c < N) = true := decide_eq_true hltc
                            have k3 : (0 : Int) ≤ (c : Int) := by omega
                            have k4 : (c : Int) < (N : Int) := by omega
                            go_wp2_with fail
                            go_loopw [15] (fun i wr => ∃ (d : Nat) (T : Nat → Nat → Bool), c ≤ d ∧ d ≤ N ∧ i = .int .i64 d ∧ Tb wr w1.heap.size N g5 ps5 T ∧ Hid (∀ x z, x < N → z < N → T x z = (decide (x < c ∨ (x = c ∧ z < d)) && Tb.com k M Y x z)) ∧ Below w1.heap.size w1 wr) (fun i _ => N - (intOf i).toNat)
                            case atStart =>
                              refine ⟨c, _, Nat.le_refl _, by omega, rfl, TB, Lib.hid fun x z hx hz => ?_, A5⟩
                              rw [HF.out x z hx hz]
                              by_cases e9 : x = c ∧ z < c
                              · rw [Tb.com_low (by omega)]; simp
                              · congr 1
                                rw [decide_eq_decide]
                                omega
                            case round =>
                              clear TB HF A5
                              obtain ⟨d, T, hcd, hd, rfl, TB, HF, A5⟩ := hrel
                              by_cases hltd : d < N
                              · have l1 : decide ((d : Int) < (N : Int)) = true := decide_eq_true (by omega)
                                have l2 : decide (d < N) = true := decide_eq_true hltd
                                have l3 : (0 : Int) ≤ (d : Int) := by omega
                                have l4 : (d : Int) < (N : Int) := by omega
                                have ND := (ND0.out.up A).up A5
                                have c0 := ND.c0; have c1 := ND.c1; have c2 := ND.c2; have c3 := ND.c3; have c4 := ND.c4; have c5 := ND.c5
                                simp only [Nat.zero_add] at c0 c1 c2 c3 c4 c5
                                by_cases h5 : k = 2
                                · have HK := Lib.hid h5
                                  have h6 : ((k : Int) == 2) = true := by simp; omega
                                  clear h5
                                  go_wp2_with fail
                                  clear c0 c1 c2 c3 c4 c5 ND
                                  go_loopw [16] (fun i wr => ∃ (j : Nat) (T : Nat → Nat → Bool), c ≤ j ∧ j ≤ d + 1 ∧ i = .int .i64 j ∧ Tb wr w1.heap.size N g5 ps5 T ∧ Hid (∀ x z, x < N → z < N → T x z = if x = c ∧ z = d then Tb.part M Y c d j else (decide (x < c ∨ (x = c ∧ z < d)) && Tb.com k M Y x z)) ∧ Below w1.heap.size w1 wr) (fun i _ => d + 1 - (intOf i).toNat)
                                  case atStart =>
                                    refine ⟨c, _, Nat.le_refl _, by omega, rfl, TB, Lib.hid fun x z hx hz => ?_, A5⟩
                                    rw [HF.out x z hx hz, Tb.part_zero]
                                    by_cases e9 : x = c ∧ z = d
                                    · rw [if_pos e9]; simp; intro h; omega
                                    · rw [if_neg e9]
                                  case round =>
                                    clear TB HF A5
                                    obtain ⟨j, T, hcj, hjd, rfl, TB, HF, A5⟩ := hrel
                                    by_cases hltj : j < d + 1
                                    · have j1 : decide ((j : Int) ≤ (d : Int)) = true := decide_eq_true (by omega)
                                      have j2 : decide (j ≤ d) = true := decide_eq_true (by omega)
                                      have j3 : (0 : Int) ≤ (j : Int) := by omega
                                      have j4 : (j : Int) < (N : Int) := by omega
                                      have hjN : j < N := by omega
                                      obtain ⟨p1, _, _, a1, a2, _, _⟩ := (TA.up A5).get hltc hjN
                                      obtain ⟨p2, _, _, b1, b2, _, _⟩ := (TY.up A5).get hjN hltd
                                      obtain ⟨p3, hp3, hb3, o1, o2, o3, hset⟩ := TB.get hltc hltd
                                      rw [HF.out c d hltc hltd, if_pos ⟨rfl, rfl⟩] at o2
                                      have A5d := A5.drew
                                      have HTB := Lib.hid TB
                                      clear TB hset
                                      cases ho : Tb.part M Y c d j
                                      · cases hm : M c j
                                        · rw [ho] at o2
                                          rw [hm] at a2
                                          have HV : Hid (Tb.part M Y c d (j + 1) = _) := Lib.hid (Tb.part_succ hcj)
                                          rw [ho] at HV
                                          rw [hm] at HV
                                          clear ho hm
                                          go_upto_region 37 with fail
                                          refine Rg.regionV (by kernel_rfl) 218 (by kernel_rfl) (by kernel_rfl) (by exact Nat.le_refl 218) [.slice (some ⟨g5, 0, none⟩) N cap5, .int .i64 c, .pointer (some ⟨g5, c, none⟩), .slice (some ⟨p3, 0, none⟩) N N, .int .i64 d, .slice (some ⟨g5, 0, none⟩) N cap5, .int .i64 c, .pointer (some ⟨g5, c, none⟩), .slice (some ⟨p3, 0, none⟩) N N, .int .i64 d, .pointer (some ⟨p3, d, none⟩), .bool false, .bool false, .slice (some ⟨g, 0, none⟩) N cp, .int .i64 c, .pointer (some ⟨g, c, none⟩), .slice (some ⟨p1, 0, none⟩) N N, .int .i64 j, .pointer (some ⟨p1, j, none⟩), .bool false, .bool false, undef, undef, undef, undef, undef, undef, undef, .bool false, .bool false, .pointer (some ⟨p3, d, none⟩)] [(12, .slice (some ⟨g5, 0, none⟩) N cap5), (14, .int .i64 c), (114, .slice (some ⟨g5, 0, none⟩) N cap5), (115, .int .i64 c), (116, .pointer (some ⟨g5, c, none⟩)), (15, .int .i64 d), (119, .slice (some ⟨g5, 0, none⟩) N cap5), (120, .int .i64 c), (121, .pointer (some ⟨g5, c, none⟩)), (122, .slice (some ⟨p3, 0, none⟩) N N), (123, .int .i64 d), (124, .pointer (some ⟨p3, d, none⟩)), (125, .bool false), (6, .slice (some ⟨g, 0, none⟩) N cp), (127, .slice (some ⟨g, 0, none⟩) N cp), (128, .int .i64 c), (129, .pointer (some ⟨g, c, none⟩)), (16, .int .i64 j), (130, .slice (some ⟨p1, 0, none⟩) N N), (131, .int .i64 j), (132, .pointer (some ⟨p1, j, none⟩)), (133, .bool false), (134, .bool false), (141, undef), (126, .bool false), (142, .bool false), (117, .slice (some ⟨p3, 0, none⟩) N N), (118, .int .i64 d), (144, .pointer (some ⟨p3, d, none⟩)), (143, .bool false)] _ (by simp only [Rg.all, Act.put, List.setIfInBounds_toArray, List.set_cons_zero, List.set_cons_succ, List.getD_cons_zero, List.getD_cons_succ]; rfl) ⟨rfl, rfl, rfl, rfl, rfl, rfl, rfl, rfl, rfl, rfl, rfl, rfl, rfl, rfl, rfl, rfl, rfl, rfl, rfl, rfl, rfl, rfl, rfl, rfl, rfl, rfl, rfl, rfl, rfl, rfl, trivial⟩ ?_ ?_
                                          · intro E hc hv
                                            obtain ⟨q12, q14, q114, q115, q116, q15, q119, q120, q121, q122, q123, q124, q125, q6, q127, q128, q129, q16, q130, q131, q132, q133, q134, q141, q126, q142, q117, q118, q144, q143, _⟩ := hv
                                            replace a1 := Rx.cell_dr a1
                                            replace a2 := Rx.cell_dr a2
                                            replace b1 := Rx.cell_dr b1
                                            replace b2 := Rx.cell_dr b2
                                            replace o1 := Rx.cell_dr o1
                                            replace o2 := Rx.cell_dr o2
                                            generalize wr.drew = V at *
                                            refine ⟨?_, ?_, ?_, ?_, ?_, ?_, ?_, ?_, ?_, ?_, ?_, ?_, ?_, ?_, ?_, ?_, ?_, ?_, ?_, ?_, ?_, ?_, ?_, ?_, ?_, ?_, ?_, ?_, ?_, ?_, ?_, trivial⟩
                                            all_goals simp only [Rg.isB_u, Rg.isB_tt, Rg.isB_tf, Rg.isB_ft, Rg.isB_ff, List.getD_cons_zero, List.getD_cons_succ, if_true, if_false, Bool.false_eq_true]
                                            all_goals first | rfl | go_simp
                                          · intro o ho
                                            simp at ho
                                            subst ho
                                            clear a1 a2 b1 b2 o1 o2 o3 hb3
                                            have TB := HTB.out.up (Below.refl _ _).drew
                                            obtain ⟨p4, hp4, hb3, o1, o2, o3, hset⟩ := TB.get hltc hltd
                                            obtain rfl : p4 = p3 := by obtain ⟨_, e3⟩ := hp3; obtain ⟨_, e4⟩ := hp4; rw [← e4, e3]
                                            have HS := Lib.hid hset
                                            clear hset TB hp3 hp4
                                            generalize wr.drew = V at *
                                            simp only [Rg.step]
                                            go_simp
                                            go_wp2_with fail
                                            go_roundw
                                            case rel =>
                                              refine ⟨j + 1, _, by omega, by omega, by go_num, HS.out _, Lib.hid fun x z hx hz => ?_, A5d.setCell hb3 _⟩
                                              try simp only
                                              rw [HF.out x z hx hz, HV.out]
                                              by_cases e9 : x = c ∧ z = d
                                              · rw [if_pos e9, if_pos e9]; simp
                                              · rw [if_neg e9, if_neg e9, if_neg e9]
                                            case measure => simp [intOf]; omega
                                        · rw [ho] at o2
                                          rw [hm] at a2
                                          have HV : Hid (Tb.part M Y c d (j + 1) = _) := Lib.hid (Tb.part_succ hcj)
                                          rw [ho] at HV
                                          rw [hm] at HV
                                          clear ho hm
                                          go_upto_region 37 with fail
                                          refine Rg.regionV (by kernel_rfl) 218 (by kernel_rfl) (by kernel_rfl) (by exact Nat.le_refl 218) [.slice (some ⟨g5, 0, none⟩) N cap5, .int .i64 c, .pointer (some ⟨g5, c, none⟩), .slice (some ⟨p3, 0, none⟩) N N, .int .i64 d, .slice (some ⟨g5, 0, none⟩) N cap5, .int .i64 c, .pointer (some ⟨g5, c, none⟩), .slice (some ⟨p3, 0, none⟩) N N, .int .i64 d, .pointer (some ⟨p3, d, none⟩), .bool false, .bool false, .slice (some ⟨g, 0, none⟩) N cp, .int .i64 c, .pointer (some ⟨g, c, none⟩), .slice (some ⟨p1, 0, none⟩) N N, .int .i64 j, .pointer (some ⟨p1, j, none⟩), .bool true, .bool true, .slice (some ⟨gy, 0, none⟩) N cy, .int .i64 j, .pointer (some ⟨gy, j, none⟩), .slice (some ⟨p2, 0, none⟩) N N, .int .i64 d, .pointer (some ⟨p2, d, none⟩), .bool (Y j d), .bool (Y j d), .bool (Y j d), .pointer (some ⟨p3, d, none⟩)] [(12, .slice (some ⟨g5, 0, none⟩) N cap5), (14, .int .i64 c), (114, .slice (some ⟨g5, 0, none⟩) N cap5), (115, .int .i64 c), (116, .pointer (some ⟨g5, c, none⟩)), (15, .int .i64 d), (119, .slice (some ⟨g5, 0, none⟩) N cap5), (120, .int .i64 c), (121, .pointer (some ⟨g5, c, none⟩)), (122, .slice (some ⟨p3, 0, none⟩) N N), (123, .int .i64 d), (124, .pointer (some ⟨p3, d, none⟩)), (125, .bool false), (6, .slice (some ⟨g, 0, none⟩) N cp), (127, .slice (some ⟨g, 0, none⟩) N cp), (128, .int .i64 c), (129, .pointer (some ⟨g, c, none⟩)), (16, .int .i64 j), (130, .slice (some ⟨p1, 0, none⟩) N N), (131, .int .i64 j), (132, .pointer (some ⟨p1, j, none⟩)), (133, .bool true), (11, .slice (some ⟨gy, 0, none⟩) N cy), (135, .slice (some ⟨gy, 0, none⟩) N cy), (136, .int .i64 j), (137, .pointer (some ⟨gy, j, none⟩)), (138, .slice (some ⟨p2, 0, none⟩) N N), (139, .int .i64 d), (140, .pointer (some ⟨p2, d, none⟩)), (134, .bool true), (141, .bool (Y j d)), (126, .bool false), (142, .bool (Y j d)), (117, .slice (some ⟨p3, 0, none⟩) N N), (118, .int .i64 d), (144, .pointer (some ⟨p3, d, none⟩)), (143, .bool (Y j d))] _ (by simp only [Rg.all, Act.put, List.setIfInBounds_toArray, List.set_cons_zero, List.set_cons_succ, List.getD_cons_zero, List.getD_cons_succ]; rfl) ⟨rfl, rfl, rfl, rfl, rfl, rfl, rfl, rfl, rfl, rfl, rfl, rfl, rfl, rfl, rfl, rfl, rfl, rfl, rfl, rfl, rfl, rfl, rfl, rfl, rfl, rfl, rfl, rfl, rfl, rfl, rfl, rfl, rfl, rfl, rfl, rfl, rfl, trivial⟩ ?_ ?_
                                          · intro E hc hv
                                            obtain ⟨q12, q14, q114, q115, q116, q15, q119, q120, q121, q122, q123, q124, q125, q6, q127, q128, q129, q16, q130, q131, q132, q133, q11, q135, q136, q137, q138, q139, q140, q134, q141, q126, q142, q117, q118, q144, q143, _⟩ := hv
                                            replace a1 := Rx.cell_dr a1
                                            replace a2 := Rx.cell_dr a2
                                            replace b1 := Rx.cell_dr b1
                                            replace b2 := Rx.cell_dr b2
                                            replace o1 := Rx.cell_dr o1
                                            replace o2 := Rx.cell_dr o2
                                            generalize wr.drew = V at *
                                            refine ⟨?_, ?_, ?_, ?_, ?_, ?_, ?_, ?_, ?_, ?_, ?_, ?_, ?_, ?_, ?_, ?_, ?_, ?_, ?_, ?_, ?_, ?_, ?_, ?_, ?_, ?_, ?_, ?_, ?_, ?_, ?_, trivial⟩
                                            all_goals simp only [Rg.isB_u, Rg.isB_tt, Rg.isB_tf, Rg.isB_ft, Rg.isB_ff, List.getD_cons_zero, List.getD_cons_succ, if_true, if_false, Bool.false_eq_true]
                                            all_goals first | rfl | go_simp
                                          · intro o ho
                                            simp at ho
                                            subst ho
                                            clear a1 a2 b1 b2 o1 o2 o3 hb3
                                            have TB := HTB.out.up (Below.refl _ _).drew
                                            obtain ⟨p4, hp4, hb3, o1, o2, o3, hset⟩ := TB.get hltc hltd
                                            obtain rfl : p4 = p3 := by obtain ⟨_, e3⟩ := hp3; obtain ⟨_, e4⟩ := hp4; rw [← e4, e3]
                                            have HS := Lib.hid hset
                                            clear hset TB hp3 hp4
                                            generalize wr.drew = V at *
                                            simp only [Rg.step]
                                            go_simp
                                            go_wp2_with fail
                                            go_roundw
                                            case rel =>
                                              refine ⟨j + 1, _, by omega, by omega, by go_num, HS.out _, Lib.hid fun x z hx hz => ?_, A5d.setCell hb3 _⟩
                                              try simp only
                                              rw [HF.out x z hx hz, HV.out]
                                              by_cases e9 : x = c ∧ z = d
                                              · rw [if_pos e9, if_pos e9]; simp
                                              · rw [if_neg e9, if_neg e9, if_neg e9]
                                            case measure => simp [intOf]; omega
                                      · rw [ho] at o2
                                        have HV : Hid (Tb.part M Y c d (j + 1) = _) := Lib.hid (Tb.part_succ hcj)
                                        rw [ho] at HV
                                        clear ho
                                        go_upto_region 37 with fail
                                        refine Rg.regionV (by kernel_rfl) 218 (by kernel_rfl) (by kernel_rfl) (by exact Nat.le_refl 218) [.slice (some ⟨g5, 0, none⟩) N cap5, .int .i64 c, .pointer (some ⟨g5, c, none⟩), .slice (some ⟨p3, 0, none⟩) N N, .int .i64 d, .slice (some ⟨g5, 0, none⟩) N cap5, .int .i64 c, .pointer (some ⟨g5, c, none⟩), .slice (some ⟨p3, 0, none⟩) N N, .int .i64 d, .pointer (some ⟨p3, d, none⟩), .bool true, .bool true, undef, undef, undef, undef, undef, undef, undef, undef, undef, undef, undef, undef, undef, undef, undef, undef, .bool true, .pointer (some ⟨p3, d, none⟩)] [(12, .slice (some ⟨g5, 0, none⟩) N cap5), (14, .int .i64 c), (114, .slice (some ⟨g5, 0, none⟩) N cap5), (115, .int .i64 c), (116, .pointer (some ⟨g5, c, none⟩)), (15, .int .i64 d), (119, .slice (some ⟨g5, 0, none⟩) N cap5), (120, .int .i64 c), (121, .pointer (some ⟨g5, c, none⟩)), (122, .slice (some ⟨p3, 0, none⟩) N N), (123, .int .i64 d), (124, .pointer (some ⟨p3, d, none⟩)), (125, .bool true), (126, .bool true), (142, undef), (117, .slice (some ⟨p3, 0, none⟩) N N), (118, .int .i64 d), (144, .pointer (some ⟨p3, d, none⟩)), (143, .bool true)] _ (by simp only [Rg.all, Act.put, List.setIfInBounds_toArray, List.set_cons_zero, List.set_cons_succ, List.getD_cons_zero, List.getD_cons_succ]; rfl) ⟨rfl, rfl, rfl, rfl, rfl, rfl, rfl, rfl, rfl, rfl, rfl, rfl, rfl, rfl, rfl, rfl, rfl, rfl, rfl, trivial⟩ ?_ ?_
                                        · intro E hc hv
                                          obtain ⟨q12, q14, q114, q115, q116, q15, q119, q120, q121, q122, q123, q124, q125, q126, q142, q117, q118, q144, q143, _⟩ := hv
                                          replace a1 := Rx.cell_dr a1
                                          replace a2 := Rx.cell_dr a2
                                          replace b1 := Rx.cell_dr b1
                                          replace b2 := Rx.cell_dr b2
                                          replace o1 := Rx.cell_dr o1
                                          replace o2 := Rx.cell_dr o2
                                          generalize wr.drew = V at *
                                          refine ⟨?_, ?_, ?_, ?_, ?_, ?_, ?_, ?_, ?_, ?_, ?_, ?_, ?_, ?_, ?_, ?_, ?_, ?_, ?_, ?_, ?_, ?_, ?_, ?_, ?_, ?_, ?_, ?_, ?_, ?_, ?_, trivial⟩
                                          all_goals simp only [Rg.isB_u, Rg.isB_tt, Rg.isB_tf, Rg.isB_ft, Rg.isB_ff, List.getD_cons_zero, List.getD_cons_succ, if_true, if_false, Bool.false_eq_true]
                                          all_goals first | rfl | go_simp
                                        · intro o ho
                                          simp at ho
                                          subst ho
                                          clear a1 a2 b1 b2 o1 o2 o3 hb3
                                          have TB := HTB.out.up (Below.refl _ _).drew
                                          obtain ⟨p4, hp4, hb3, o1, o2, o3, hset⟩ := TB.get hltc hltd
                                          obtain rfl : p4 = p3 := by obtain ⟨_, e3⟩ := hp3; obtain ⟨_, e4⟩ := hp4; rw [← e4, e3]
                                          have HS := Lib.hid hset
                                          clear hset TB hp3 hp4
                                          generalize wr.drew = V at *
                                          simp only [Rg.step]
                                          go_simp
                                          go_wp2_with fail
                                          go_roundw
                                          case rel =>
                                            refine ⟨j + 1, _, by omega, by omega, by go_num, HS.out _, Lib.hid fun x z hx hz => ?_, A5d.setCell hb3 _⟩
                                            try simp only
                                            rw [HF.out x z hx hz, HV.out]
                                            by_cases e9 : x = c ∧ z = d
                                            · rw [if_pos e9, if_pos e9]; simp
                                            · rw [if_neg e9, if_neg e9, if_neg e9]
                                          case measure => simp [intOf]; omega
                                    · have j1 : decide ((j : Int) ≤ (d : Int)) = false := decide_eq_false (by omega)
                                      have j2 : decide (j ≤ d) = false := decide_eq_false (by omega)
                                      obtain rfl : j = d + 1 := by omega
                                      go_wp2_with fail
                                      go_roundw
                                      case rel =>
                                        refine ⟨d + 1, _, by omega, by omega, by go_num, TB, Lib.hid fun x z hx hz => ?_, A5⟩
                                        rw [HF.out x z hx hz]
                                        by_cases e9 : x = c ∧ z = d
                                        · obtain ⟨rfl, rfl⟩ := e9
                                          rw [if_pos ⟨rfl, rfl⟩, Tb.part_done hcd]
                                          simp [Tb.com, HK.out]
                                        · rw [if_neg e9]
                                          congr 1
                                          rw [decide_eq_decide]
                                          omega
                                      case measure => simp [intOf]; omega
                                · have H2 := Lib.hid h5
                                  have h6 : ((k : Int) == 2) = false := by simp; omega
                                  clear h5
                                  obtain ⟨p1, _, _, a1, a2, _, _⟩ := (TA.up A5).get hltc hltd
                                  obtain ⟨p2, _, _, b1, b2, _, _⟩ := (TY.up A5).get hltc hltd
                                  obtain ⟨p3, hp3, hb3, o1, o2, o3, hset⟩ := TB.get hltc hltd
                                  have A5d := A5.drew
                                  have HTB := Lib.hid TB
                                  clear TB hset
                                  cases hm : M c d
                                  · rw [hm] at a2
                                    have HM := Lib.hid hm
                                    clear hm
                                    go_upto_region 38 with fail
                                    refine Rg.regionV (by kernel_rfl) 218 (by kernel_rfl) (by kernel_rfl) (by exact Nat.le_refl 218) [.slice (some ⟨g5, 0, none⟩) N cap5, .int .i64 c, .pointer (some ⟨g5, c, none⟩), .slice (some ⟨p3, 0, none⟩) N N, .int .i64 d, .slice (some ⟨g, 0, none⟩) N cp, .int .i64 c, .pointer (some ⟨g, c, none⟩), .slice (some ⟨p1, 0, none⟩) N N, .int .i64 d, .pointer (some ⟨p1, d, none⟩), .bool false, .bool false, .slice (some ⟨gy, 0, none⟩) N cy, .int .i64 c, .pointer (some ⟨gy, c, none⟩), .slice (some ⟨p2, 0, none⟩) N N, .int .i64 d, .pointer (some ⟨p2, d, none⟩), .bool (Y c d), .bool (Y c d), .pointer (some ⟨p3, d, none⟩)] [(12, .slice (some ⟨g5, 0, none⟩) N cap5), (14, .int .i64 c), (145, .slice (some ⟨g5, 0, none⟩) N cap5), (146, .int .i64 c), (147, .pointer (some ⟨g5, c, none⟩)), (15, .int .i64 d), (6, .slice (some ⟨g, 0, none⟩) N cp), (150, .slice (some ⟨g, 0, none⟩) N cp), (151, .int .i64 c), (152, .pointer (some ⟨g, c, none⟩)), (153, .slice (some ⟨p1, 0, none⟩) N N), (154, .int .i64 d), (155, .pointer (some ⟨p1, d, none⟩)), (156, .bool false), (11, .slice (some ⟨gy, 0, none⟩) N cy), (158, .slice (some ⟨gy, 0, none⟩) N cy), (159, .int .i64 c), (160, .pointer (some ⟨gy, c, none⟩)), (161, .slice (some ⟨p2, 0, none⟩) N N), (162, .int .i64 d), (163, .pointer (some ⟨p2, d, none⟩)), (157, .bool false), (164, .bool (Y c d)), (148, .slice (some ⟨p3, 0, none⟩) N N), (149, .int .i64 d), (166, .pointer (some ⟨p3, d, none⟩)), (165, .bool (Y c d))] _ (by simp only [Rg.all, Act.put, List.setIfInBounds_toArray, List.set_cons_zero, List.set_cons_succ, List.getD_cons_zero, List.getD_cons_succ]; rfl) ⟨rfl, rfl, rfl, rfl, rfl, rfl, rfl, rfl, rfl, rfl, rfl, rfl, rfl, rfl, rfl, rfl, rfl, rfl, rfl, rfl, rfl, rfl, rfl, rfl, rfl, rfl, rfl, trivial⟩ ?_ ?_
                                    · intro E hc hv
                                      obtain ⟨q12, q14, q145, q146, q147, q15, q6, q150, q151, q152, q153, q154, q155, q156, q11, q158, q159, q160, q161, q162, q163, q157, q164, q148, q149, q166, q165, _⟩ := hv
                                      replace a1 := Rx.cell_dr a1
                                      replace a2 := Rx.cell_dr a2
                                      replace b1 := Rx.cell_dr b1
                                      replace b2 := Rx.cell_dr b2
                                      replace o1 := Rx.cell_dr o1
                                      generalize wr.drew = V at *
                                      refine ⟨?_, ?_, ?_, ?_, ?_, ?_, ?_, ?_, ?_, ?_, ?_, ?_, ?_, ?_, ?_, ?_, ?_, ?_, ?_, ?_, ?_, ?_, trivial⟩
                                      all_goals simp only [Rg.isB_u, Rg.isB_tt, Rg.isB_tf, Rg.isB_ft, Rg.isB_ff, List.getD_cons_zero, List.getD_cons_succ, if_true, if_false, Bool.false_eq_true]
                                      all_goals first | rfl | go_simp
                                    · intro o ho
                                      simp at ho
                                      subst ho
                                      clear a1 a2 b1 b2 o1 o2 o3 hb3
                                      have TB := HTB.out.up (Below.refl _ _).drew
                                      obtain ⟨p4, hp4, hb3, o1, o2, o3, hset⟩ := TB.get hltc hltd
                                      obtain rfl : p4 = p3 := by obtain ⟨_, e3⟩ := hp3; obtain ⟨_, e4⟩ := hp4; rw [← e4, e3]
                                      have HS := Lib.hid hset
                                      clear hset TB hp3 hp4
                                      generalize wr.drew = V at *
                                      simp only [Rg.step]
                                      go_simp
                                      go_wp2_with fail
                                      go_roundw
                                      case rel =>
                                        refine ⟨d + 1, _, by omega, by omega, by go_num, HS.out _, Lib.hid fun x z hx hz => ?_, A5d.setCell hb3 _⟩
                                        try simp only
                                        rw [HF.out x z hx hz]
                                        by_cases e9 : x = c ∧ z = d
                                        · obtain ⟨rfl, rfl⟩ := e9
                                          simp [Tb.com, H2.out, Rx.altS, HM.out, hcd]
                                        · rw [if_neg e9]
                                          congr 1
                                          rw [decide_eq_decide]
                                          omega
                                      case measure => simp [intOf]; omega
                                  · rw [hm] at a2
                                    have HM := Lib.hid hm
                                    clear hm
                                    go_upto_region 38 with fail
                                    refine Rg.regionV (by kernel_rfl) 218 (by kernel_rfl) (by kernel_rfl) (by exact Nat.le_refl 218) [.slice (some ⟨g5, 0, none⟩) N cap5, .int .i64 c, .pointer (some ⟨g5, c, none⟩), .slice (some ⟨p3, 0, none⟩) N N, .int .i64 d, .slice (some ⟨g, 0, none⟩) N cp, .int .i64 c, .pointer (some ⟨g, c, none⟩), .slice (some ⟨p1, 0, none⟩) N N, .int .i64 d, .pointer (some ⟨p1, d, none⟩), .bool true, .bool true, undef, undef, undef, undef, undef, undef, undef, .bool true, .pointer (some ⟨p3, d, none⟩)] [(12, .slice (some ⟨g5, 0, none⟩) N cap5), (14, .int .i64 c), (145, .slice (some ⟨g5, 0, none⟩) N cap5), (146, .int .i64 c), (147, .pointer (some ⟨g5, c, none⟩)), (15, .int .i64 d), (6, .slice (some ⟨g, 0, none⟩) N cp), (150, .slice (some ⟨g, 0, none⟩) N cp), (151, .int .i64 c), (152, .pointer (some ⟨g, c, none⟩)), (153, .slice (some ⟨p1, 0, none⟩) N N), (154, .int .i64 d), (155, .pointer (some ⟨p1, d, none⟩)), (156, .bool true), (157, .bool true), (164, undef), (148, .slice (some ⟨p3, 0, none⟩) N N), (149, .int .i64 d), (166, .pointer (some ⟨p3, d, none⟩)), (165, .bool true)] _ (by simp only [Rg.all, Act.put, List.setIfInBounds_toArray, List.set_cons_zero, List.set_cons_succ, List.getD_cons_zero, List.getD_cons_succ]; rfl) ⟨rfl, rfl, rfl, rfl, rfl, rfl, rfl, rfl, rfl, rfl, rfl, rfl, rfl, rfl, rfl, rfl, rfl, rfl, rfl, rfl, trivial⟩ ?_ ?_
                                    · intro E hc hv
                                      obtain ⟨q12, q14, q145, q146, q147, q15, q6, q150, q151, q152, q153, q154, q155, q156, q157, q164, q148, q149, q166, q165, _⟩ := hv
                                      replace a1 := Rx.cell_dr a1
                                      replace a2 := Rx.cell_dr a2
                                      replace b1 := Rx.cell_dr b1
                                      replace b2 := Rx.cell_dr b2
                                      replace o1 := Rx.cell_dr o1
                                      generalize wr.drew = V at *
                                      refine ⟨?_, ?_, ?_, ?_, ?_, ?_, ?_, ?_, ?_, ?_, ?_, ?_, ?_, ?_, ?_, ?_, ?_, ?_, ?_, ?_, ?_, ?_, trivial⟩
                                      all_goals simp only [Rg.isB_u, Rg.isB_tt, Rg.isB_tf, Rg.isB_ft, Rg.isB_ff, List.getD_cons_zero, List.getD_cons_succ, if_true, if_false, Bool.false_eq_true]
                                      all_goals first | rfl | go_simp
                                    · intro o ho
                                      simp at ho
                                      subst ho
                                      clear a1 a2 b1 b2 o1 o2 o3 hb3
                                      have TB := HTB.out.up (Below.refl _ _).drew
                                      obtain ⟨p4, hp4, hb3, o1, o2, o3, hset⟩ := TB.get hltc hltd
                                      obtain rfl : p4 = p3 := by obtain ⟨_, e3⟩ := hp3; obtain ⟨_, e4⟩ := hp4; rw [← e4, e3]
                                      have HS := Lib.hid hset
                                      clear hset TB hp3 hp4
                                      generalize wr.drew = V at *
                                      simp only [Rg.step]
                                      go_simp
                                      go_wp2_with fail
                                      go_roundw
                                      case rel =>
                                        refine ⟨d + 1, _, by omega, by omega, by go_num, HS.out _, Lib.hid fun x z hx hz => ?_, A5d.setCell hb3 _⟩
                                        try simp only
                                        rw [HF.out x z hx hz]
                                        by_cases e9 : x = c ∧ z = d
                                        · obtain ⟨rfl, rfl⟩ := e9
                                          simp [Tb.com, H2.out, Rx.altS, HM.out, hcd]
                                        · rw [if_neg e9]
                                          congr 1
                                          rw [decide_eq_decide]
                                          omega
                                      case measure => simp [intOf]; omega
                              · have l1 : decide ((d : Int) < (N : Int)) = false := decide_eq_false (by omega)
                                have l2 : decide (d < N) = false := decide_eq_false hltd
                                go_wp2_with fail
                                go_roundw
                                case rel =>
                                  refine ⟨c + 1, _, by omega, by go_num, TB, Lib.hid fun x z hx hz => ?_, A5⟩
                                  rw [HF.out x z hx hz]
                                  congr 1
                                  rw [decide_eq_decide]
                                  omega
                                case measure => simp [intOf]; omega
                          · have k1 : decide ((c : Int) < (N : Int)) = false := decide_eq_false (by omega)
                            have k2 : decide (c < N) = false := decide_eq_false hltc
                            go_wp2_with fail
                            go_roundw
                            case rel =>
                              refine ⟨q + 1, g5, cap5, ps5, by omega, rfl, by go_num, ?_, A.trans (A5.mono A.size)⟩
                              rw [HT.out]
                              refine (TB.mono A.size).congr fun x z hx hz => ?_
                              rw [HF.out x z hx hz, show c = N by omega]
                              simp [hx]
                            case measure => simp [intOf]; omega
                  · have e1 : decide ((q : Int) < (n : Int)) = false := decide_eq_false (by omega)
                    have e2 : decide (q < n) = false := decide_eq_false hlt
                    have hq' : l.take q = l := List.take_of_length_le (by rw [HN.out]; omega)
                    by_cases h5 : k = 4
                    · have h6 : ((k : Int) == 4) = true := by simp; omega
                      have HK := Lib.hid h5
                      clear h5
                      go_wp2_with fail
                      have HG := Lib.hid (show Rx.sp (Tb.by s) s.size (.node k f l) = Rx.war (Tb.acc (Tb.by s) s.size k l) N by rw [HSP.out, if_pos HK.out, hN])
                      rw [hq'] at TA
                      clear hq'
                      generalize Tb.acc (Tb.by s) s.size k l = M at *
                      clear c0 c1 c2 c3 c4 c5 ND e1 e2
                      go_loopw [17] (fun i wr => ∃ (j : Nat) (T : Nat → Nat → Bool), j ≤ N ∧ i = .int .i64 j ∧ Tb wr U.heap.size N g ps T ∧ Hid (∀ x z, x < N → z < N → T x z = Rx.war M j x z) ∧ Below U.heap.size U wr) (fun i _ => N - (intOf i).toNat)
                      case atStart => exact ⟨0, _, by omega, rfl, TA, Lib.hid (fun x z _ _ => by rw [Rx.war]), A⟩
                      case round =>
                        clear TA A
                        obtain ⟨j, T, hj, rfl, TB, HF, A⟩ := hrel
                        by_cases hltj : j < N
                        · have j1 : decide ((j : Int) < (N : Int)) = true := decide_eq_true (by omega)
                          have j2 : decide (j < N) = true := decide_eq_true hltj
                          have j3 : (0 : Int) ≤ (j : Int) := by omega
                          have j4 : (j : Int) < (N : Int) := by omega
                          go_wp2_with fail
                          go_loopw [18] (fun i wr => ∃ (c : Nat) (T : Nat → Nat → Bool), c ≤ N ∧ i = .int .i64 c ∧ Tb wr U.heap.size N g ps T ∧ Hid (∀ x z, x < N → z < N → T x z = if x < c then Rx.war M (j + 1) x z else Rx.war M j x z) ∧ Below U.heap.size U wr) (fun i _ => N - (intOf i).toNat)
                          case atStart => exact ⟨0, _, by omega, rfl, TB, Lib.hid (fun x z hx hz => by rw [HF.out x z hx hz]; simp), A⟩
                          case round =>
                            clear TB HF A
                            obtain ⟨c, T, hc, rfl, TB, HF, A⟩ := hrel
                            by_cases hltc : c < N
                            · have k1 : decide ((c : Int) < (N : Int)) = true := decide_eq_true (by omega)
                              have k2 : decide (c < N) = true := decide_eq_true hltc
                              have k3 : (0 : Int) ≤ (c : Int) := by omega
                              have k4 : (c : Int) < (N : Int) := by omega
                              go_wp2_with fail
                              go_loopw [19] (fun i wr => ∃ (d : Nat) (T : Nat → Nat → Bool), d ≤ N ∧ i = .int .i64 d ∧ Tb wr U.heap.size N g ps T ∧ Hid (∀ x z, x < N → z < N → T x z = if x < c ∨ (x = c ∧ z < d) then Rx.war M (j + 1) x z else Rx.war M j x z) ∧ Below U.heap.size U wr) (fun i _ => N - (intOf i).toNat)
                              case atStart => exact ⟨0, _, by omega, rfl, TB, Lib.hid (fun x z hx hz => by rw [HF.out x z hx hz]; simp), A⟩
                              case round =>
                                clear TB HF A
                                obtain ⟨d, T, hd, rfl, TB, HF, A⟩ := hrel
                                by_cases hltd : d < N
                                · have l1 : decide ((d : Int) < (N : Int)) = true := decide_eq_true (by omega)
                                  have l2 : decide (d < N) = true := decide_eq_true hltd
                                  have l3 : (0 : Int) ≤ (d : Int) := by omega
                                  have l4 : (d : Int) < (N : Int) := by omega
                                  obtain ⟨p3, hp3, hb3, o1, o2, o3, hset⟩ := TB.get hltc hltd
                                  obtain ⟨p1, hp1, _, a1, a2, _, _⟩ := TB.get hltc hltj
                                  obtain ⟨p2, _, _, b1, b2, _, _⟩ := TB.get hltj hltd
                                  obtain rfl : p1 = p3 := by obtain ⟨_, e3⟩ := hp3; obtain ⟨_, e4⟩ := hp1; rw [← e4, e3]
                                  have v0 : T c d = Rx.war M j c d := by rw [HF.out c d hltc hltd, if_neg (by omega)]
                                  have v1 : T c j = Rx.war M j c j := by rw [HF.out c j hltc hltj]; split <;> simp [Rx.war_row]
                                  have v2 : T j d = Rx.war M j j d := by rw [HF.out j d hltj hltd]; split <;> simp [Rx.war_col]
                                  rw [v0] at o2; rw [v1] at a2; rw [v2] at b2
                                  have A5d := A.drew
                                  have HTB := Lib.hid TB
                                  clear TB hset v0 v1 v2
                                  cases ho : Rx.war M j c d
                                  · cases hm : Rx.war M j c j
                                    · rw [ho] at o2
                                      rw [hm] at a2
                                      have HV : Hid (Rx.war M (j + 1) c d = _) := Lib.hid (by rw [Rx.war])
                                      rw [ho] at HV
                                      rw [hm] at HV
                                      clear ho hm
                                      go_upto_region 50 with fail
                                      refine Rg.regionV (by kernel_rfl) 218 (by kernel_rfl) (by kernel_rfl) (by exact Nat.le_refl 218) [.slice (some ⟨g, 0, none⟩) N cp, .int .i64 c, .pointer (some ⟨g, c, none⟩), .slice (some ⟨p1, 0, none⟩) N N, .int .i64 d, .slice (some ⟨g, 0, none⟩) N cp, .int .i64 c, .pointer (some ⟨g, c, none⟩), .slice (some ⟨p1, 0, none⟩) N N, .int .i64 d, .pointer (some ⟨p1, d, none⟩), .bool false, .bool false, .slice (some ⟨g, 0, none⟩) N cp, .int .i64 c, .pointer (some ⟨g, c, none⟩), .slice (some ⟨p1, 0, none⟩) N N, .int .i64 j, .pointer (some ⟨p1, j, none⟩), .bool false, .bool false, undef, undef, undef, undef, undef, undef, undef, .bool false, .bool false, .pointer (some ⟨p1, d, none⟩)] [(6, .slice (some ⟨g, 0, none⟩) N cp), (18, .int .i64 c), (186, .slice (some ⟨g, 0, none⟩) N cp), (187, .int .i64 c), (188, .pointer (some ⟨g, c, none⟩)), (19, .int .i64 d), (191, .slice (some ⟨g, 0, none⟩) N cp), (192, .int .i64 c), (193, .pointer (some ⟨g, c, none⟩)), (194, .slice (some ⟨p1, 0, none⟩) N N), (195, .int .i64 d), (196, .pointer (some ⟨p1, d, none⟩)), (197, .bool false), (199, .slice (some ⟨g, 0, none⟩) N cp), (200, .int .i64 c), (201, .pointer (some ⟨g, c, none⟩)), (17, .int .i64 j), (202, .slice (some ⟨p1, 0, none⟩) N N), (203, .int .i64 j), (204, .pointer (some ⟨p1, j, none⟩)), (205, .bool false), (206, .bool false), (213, undef), (198, .bool false), (214, .bool false), (189, .slice (some ⟨p1, 0, none⟩) N N), (190, .int .i64 d), (216, .pointer (some ⟨p1, d, none⟩)), (215, .bool false)] _ (by simp only [Rg.all, Act.put, List.setIfInBounds_toArray, List.set_cons_zero, List.set_cons_succ, List.getD_cons_zero, List.getD_cons_succ]; rfl) ⟨rfl, rfl, rfl, rfl, rfl, rfl, rfl, rfl, rfl, rfl, rfl, rfl, rfl, rfl, rfl, rfl, rfl, rfl, rfl, rfl, rfl, rfl, rfl, rfl, rfl, rfl, rfl, rfl, rfl, trivial⟩ ?_ ?_
                                      · intro E hc hv
                                        obtain ⟨q6, q18, q186, q187, q188, q19, q191, q192, q193, q194, q195, q196, q197, q199, q200, q201, q17, q202, q203, q204, q205, q206, q213, q198, q214, q189, q190, q216, q215, _⟩ := hv
                                        replace a1 := Rx.cell_dr a1
                                        replace a2 := Rx.cell_dr a2
                                        replace b1 := Rx.cell_dr b1
                                        replace b2 := Rx.cell_dr b2
                                        replace o1 := Rx.cell_dr o1
                                        replace o2 := Rx.cell_dr o2
                                        generalize wr.drew = V at *
                                        refine ⟨?_, ?_, ?_, ?_, ?_, ?_, ?_, ?_, ?_, ?_, ?_, ?_, ?_, ?_, ?_, ?_, ?_, ?_, ?_, ?_, ?_, ?_, ?_, ?_, ?_, ?_, ?_, ?_, ?_, ?_, ?_, trivial⟩
                                        all_goals simp only [Rg.isB_u, Rg.isB_tt, Rg.isB_tf, Rg.isB_ft, Rg.isB_ff, List.getD_cons_zero, List.getD_cons_succ, if_true, if_false, Bool.false_eq_true]
                                        all_goals first | rfl | go_simp
                                      · intro o ho
                                        simp at ho
                                        subst ho
                                        clear a1 a2 b1 b2 o1 o2 o3 hb3
                                        have TB := HTB.out.up (Below.refl _ _).drew
                                        obtain ⟨p4, hp4, hb3, o1, o2, o3, hset⟩ := TB.get hltc hltd
                                        obtain rfl : p4 = p1 := by obtain ⟨_, e3⟩ := hp3; obtain ⟨_, e4⟩ := hp4; rw [← e4, e3]
                                        have HS := Lib.hid hset
                                        clear hset TB hp3 hp4
                                        generalize wr.drew = V at *
                                        simp only [Rg.step]
                                        go_simp
                                        go_wp2_with fail
                                        go_roundw
                                        case rel =>
                                          refine ⟨d + 1, _, by omega, by go_num, HS.out _, Lib.hid fun x z hx hz => ?_, A5d.setCell hb3 _⟩
                                          try simp only
                                          rw [HF.out x z hx hz]
                                          by_cases e9 : x = c ∧ z = d
                                          · obtain ⟨rfl, rfl⟩ := e9
                                            rw [if_pos ⟨rfl, rfl⟩, if_pos (by omega), HV.out]; simp
                                          · rw [if_neg e9]
                                            by_cases e8 : x < c ∨ (x = c ∧ z < d)
                                            · rw [if_pos e8, if_pos (by omega)]
                                            · rw [if_neg e8, if_neg (by omega)]
                                        case measure => simp [intOf]; omega
                                    · rw [ho] at o2
                                      rw [hm] at a2
                                      have HV : Hid (Rx.war M (j + 1) c d = _) := Lib.hid (by rw [Rx.war])
                                      rw [ho] at HV
                                      rw [hm] at HV
                                      clear ho hm
                                      go_upto_region 50 with fail
                                      refine Rg.regionV (by kernel_rfl) 218 (by kernel_rfl) (by kernel_rfl) (by exact Nat.le_refl 218) [.slice (some ⟨g, 0, none⟩) N cp, .int .i64 c, .pointer (some ⟨g, c, none⟩), .slice (some ⟨p1, 0, none⟩) N N, .int .i64 d, .slice (some ⟨g, 0, none⟩) N cp, .int .i64 c, .pointer (some ⟨g, c, none⟩), .slice (some ⟨p1, 0, none⟩) N N, .int .i64 d, .pointer (some ⟨p1, d, none⟩), .bool false, .bool false, .slice (some ⟨g, 0, none⟩) N cp, .int .i64 c, .pointer (some ⟨g, c, none⟩), .slice (some ⟨p1, 0, none⟩) N N, .int .i64 j, .pointer (some ⟨p1, j, none⟩), .bool true, .bool true, .slice (some ⟨g, 0, none⟩) N cp, .int .i64 j, .pointer (some ⟨g, j, none⟩), .slice (some ⟨p2, 0, none⟩) N N, .int .i64 d, .pointer (some ⟨p2, d, none⟩), .bool (Rx.war M j j d), .bool (Rx.war M j j d), .bool (Rx.war M j j d), .pointer (some ⟨p1, d, none⟩)] [(6, .slice (some ⟨g, 0, none⟩) N cp), (18, .int .i64 c), (186, .slice (some ⟨g, 0, none⟩) N cp), (187, .int .i64 c), (188, .pointer (some ⟨g, c, none⟩)), (19, .int .i64 d), (191, .slice (some ⟨g, 0, none⟩) N cp), (192, .int .i64 c), (193, .pointer (some ⟨g, c, none⟩)), (194, .slice (some ⟨p1, 0, none⟩) N N), (195, .int .i64 d), (196, .pointer (some ⟨p1, d, none⟩)), (197, .bool false), (199, .slice (some ⟨g, 0, none⟩) N cp), (200, .int .i64 c), (201, .pointer (some ⟨g, c, none⟩)), (17, .int .i64 j), (202, .slice (some ⟨p1, 0, none⟩) N N), (203, .int .i64 j), (204, .pointer (some ⟨p1, j, none⟩)), (205, .bool true), (207, .slice (some ⟨g, 0, none⟩) N cp), (208, .int .i64 j), (209, .pointer (some ⟨g, j, none⟩)), (210, .slice (some ⟨p2, 0, none⟩) N N), (211, .int .i64 d), (212, .pointer (some ⟨p2, d, none⟩)), (206, .bool true), (213, .bool (Rx.war M j j d)), (198, .bool false), (214, .bool (Rx.war M j j d)), (189, .slice (some ⟨p1, 0, none⟩) N N), (190, .int .i64 d), (216, .pointer (some ⟨p1, d, none⟩)), (215, .bool (Rx.war M j j d))] _ (by simp only [Rg.all, Act.put, List.setIfInBounds_toArray, List.set_cons_zero, List.set_cons_succ, List.getD_cons_zero, List.getD_cons_succ]; rfl) ⟨rfl, rfl, rfl, rfl, rfl, rfl, rfl, rfl, rfl, rfl, rfl, rfl, rfl, rfl, rfl, rfl, rfl, rfl, rfl, rfl, rfl, rfl, rfl, rfl, rfl, rfl, rfl, rfl, rfl, rfl, rfl, rfl, rfl, rfl, rfl, trivial⟩ ?_ ?_
                                      · intro E hc hv
                                        obtain ⟨q6, q18, q186, q187, q188, q19, q191, q192, q193, q194, q195, q196, q197, q199, q200, q201, q17, q202, q203, q204, q205, q207, q208, q209, q210, q211, q212, q206, q213, q198, q214, q189, q190, q216, q215, _⟩ := hv
                                        replace a1 := Rx.cell_dr a1
                                        replace a2 := Rx.cell_dr a2
                                        replace b1 := Rx.cell_dr b1
                                        replace b2 := Rx.cell_dr b2
                                        replace o1 := Rx.cell_dr o1
                                        replace o2 := Rx.cell_dr o2
                                        generalize wr.drew = V at *
                                        refine ⟨?_, ?_, ?_, ?_, ?_, ?_, ?_, ?_, ?_, ?_, ?_, ?_, ?_, ?_, ?_, ?_, ?_, ?_, ?_, ?_, ?_, ?_, ?_, ?_, ?_, ?_, ?_, ?_, ?_, ?_, ?_, trivial⟩
                                        all_goals simp only [Rg.isB_u, Rg.isB_tt, Rg.isB_tf, Rg.isB_ft, Rg.isB_ff, List.getD_cons_zero, List.getD_cons_succ, if_true, if_false, Bool.false_eq_true]
                                        all_goals first | rfl | go_simp
                                      · intro o ho
                                        simp at ho
                                        subst ho
                                        clear a1 a2 b1 b2 o1 o2 o3 hb3
                                        have TB := HTB.out.up (Below.refl _ _).drew
                                        obtain ⟨p4, hp4, hb3, o1, o2, o3, hset⟩ := TB.get hltc hltd
                                        obtain rfl : p4 = p1 := by obtain ⟨_, e3⟩ := hp3; obtain ⟨_, e4⟩ := hp4; rw [← e4, e3]
                                        have HS := Lib.hid hset
                                        clear hset TB hp3 hp4
                                        generalize wr.drew = V at *
                                        simp only [Rg.step]
                                        go_simp
                                        go_wp2_with fail
                                        go_roundw
                                        case rel =>
                                          refine ⟨d + 1, _, by omega, by go_num, HS.out _, Lib.hid fun x z hx hz => ?_, A5d.setCell hb3 _⟩
                                          try simp only
                                          rw [HF.out x z hx hz]
                                          by_cases e9 : x = c ∧ z = d
                                          · obtain ⟨rfl, rfl⟩ := e9
                                            rw [if_pos ⟨rfl, rfl⟩, if_pos (by omega), HV.out]; simp
                                          · rw [if_neg e9]
                                            by_cases e8 : x < c ∨ (x = c ∧ z < d)
                                            · rw [if_pos e8, if_pos (by omega)]
                                            · rw [if_neg e8, if_neg (by omega)]
                                        case measure => simp [intOf]; omega
                                  · rw [ho] at o2
                                    have HV : Hid (Rx.war M (j + 1) c d = _) := Lib.hid (by rw [Rx.war])
                                    rw [ho] at HV
                                    clear ho
                                    go_upto_region 50 with fail
                                    refine Rg.regionV (by kernel_rfl) 218 (by kernel_rfl) (by kernel_rfl) (by exact Nat.le_refl 218) [.slice (some ⟨g, 0, none⟩) N cp, .int .i64 c, .pointer (some ⟨g, c, none⟩), .slice (some ⟨p1, 0, none⟩) N N, .int .i64 d, .slice (some ⟨g, 0, none⟩) N cp, .int .i64 c, .pointer (some ⟨g, c, none⟩), .slice (some ⟨p1, 0, none⟩) N N, .int .i64 d, .pointer (some ⟨p1, d, none⟩), .bool true, .bool true, undef, undef, undef, undef, undef, undef, undef, undef, undef, undef, undef, undef, undef, undef, undef, undef, .bool true, .pointer (some ⟨p1, d, none⟩)] [(6, .slice (some ⟨g, 0, none⟩) N cp), (18, .int .i64 c), (186, .slice (some ⟨g, 0, none⟩) N cp), (187, .int .i64 c), (188, .pointer (some ⟨g, c, none⟩)), (19, .int .i64 d), (191, .slice (some ⟨g, 0, none⟩) N cp), (192, .int .i64 c), (193, .pointer (some ⟨g, c, none⟩)), (194, .slice (some ⟨p1, 0, none⟩) N N), (195, .int .i64 d), (196, .pointer (some ⟨p1, d, none⟩)), (197, .bool true), (198, .bool true), (214, undef), (189, .slice (some ⟨p1, 0, none⟩) N N), (190, .int .i64 d), (216, .pointer (some ⟨p1, d, none⟩)), (215, .bool true)] _ (by simp only [Rg.all, Act.put, List.setIfInBounds_toArray, List.set_cons_zero, List.set_cons_succ, List.getD_cons_zero, List.getD_cons_succ]; rfl) ⟨rfl, rfl, rfl, rfl, rfl, rfl, rfl, rfl, rfl, rfl, rfl, rfl, rfl, rfl, rfl, rfl, rfl, rfl, rfl, trivial⟩ ?_ ?_
                                    · intro E hc hv
                                      obtain ⟨q6, q18, q186, q187, q188, q19, q191, q192, q193, q194, q195, q196, q197, q198, q214, q189, q190, q216, q215, _⟩ := hv
                                      replace a1 := Rx.cell_dr a1
                                      replace a2 := Rx.cell_dr a2
                                      replace b1 := Rx.cell_dr b1
                                      replace b2 := Rx.cell_dr b2
                                      replace o1 := Rx.cell_dr o1
                                      replace o2 := Rx.cell_dr o2
                                      generalize wr.drew = V at *
                                      refine ⟨?_, ?_, ?_, ?_, ?_, ?_, ?_, ?_, ?_, ?_, ?_, ?_, ?_, ?_, ?_, ?_, ?_, ?_, ?_, ?_, ?_, ?_, ?_, ?_, ?_, ?_, ?_, ?_, ?_, ?_, ?_, trivial⟩
                                      all_goals simp only [Rg.isB_u, Rg.isB_tt, Rg.isB_tf, Rg.isB_ft, Rg.isB_ff, List.getD_cons_zero, List.getD_cons_succ, if_true, if_false, Bool.false_eq_true]
                                      all_goals first | rfl | go_simp
                                    · intro o ho
                                      simp at ho
                                      subst ho
                                      clear a1 a2 b1 b2 o1 o2 o3 hb3
                                      have TB := HTB.out.up (Below.refl _ _).drew
                                      obtain ⟨p4, hp4, hb3, o1, o2, o3, hset⟩ := TB.get hltc hltd
                                      obtain rfl : p4 = p1 := by obtain ⟨_, e3⟩ := hp3; obtain ⟨_, e4⟩ := hp4; rw [← e4, e3]
                                      have HS := Lib.hid hset
                                      clear hset TB hp3 hp4
                                      generalize wr.drew = V at *
                                      simp only [Rg.step]
                                      go_simp
                                      go_wp2_with fail
                                      go_roundw
                                      case rel =>
                                        refine ⟨d + 1, _, by omega, by go_num, HS.out _, Lib.hid fun x z hx hz => ?_, A5d.setCell hb3 _⟩
                                        try simp only
                                        rw [HF.out x z hx hz]
                                        by_cases e9 : x = c ∧ z = d
                                        · obtain ⟨rfl, rfl⟩ := e9
                                          rw [if_pos ⟨rfl, rfl⟩, if_pos (by omega), HV.out]; simp
                                        · rw [if_neg e9]
                                          by_cases e8 : x < c ∨ (x = c ∧ z < d)
                                          · rw [if_pos e8, if_pos (by omega)]
                                          · rw [if_neg e8, if_neg (by omega)]
                                      case measure => simp [intOf]; omega
                                · have l1 : decide ((d : Int) < (N : Int)) = false := decide_eq_false (by omega)
                                  have l2 : decide (d < N) = false := decide_eq_false hltd
                                  go_wp2_with fail
                                  go_roundw
                                  case rel =>
                                    refine ⟨c + 1, _, by omega, by go_num, TB, Lib.hid fun x z hx hz => ?_, A⟩
                                    rw [HF.out x z hx hz]
                                    by_cases e8 : x < c + 1
                                    · rw [if_pos e8, if_pos (by omega)]
                                    · rw [if_neg e8, if_neg (by omega)]
                                  case measure => simp [intOf]; omega
                            · have k1 : decide ((c : Int) < (N : Int)) = false := decide_eq_false (by omega)
                              have k2 : decide (c < N) = false := decide_eq_false hltc
                              go_wp2_with fail
                              go_roundw
                              case rel =>
                                refine ⟨j + 1, _, by omega, by go_num, TB, Lib.hid fun x z hx hz => ?_, A⟩
                                rw [HF.out x z hx hz, if_pos (by omega)]
                              case measure => simp [intOf]; omega
                        · have j1 : decide ((j : Int) < (N : Int)) = false := decide_eq_false (by omega)
                          have j2 : decide (j < N) = false := decide_eq_false hltj
                          obtain rfl : j = N := by omega
                          go_wp2_with fail
                          go_ret
                          exact ⟨_, _, _, rfl, by rw [HG.out]; exact (TB.congr HF.out).mono A0.size, Bs.below_up A0 A⟩
                    · have h6 : ((k : Int) == 4) = false := by simp; omega
                      have HG := Lib.hid (show Rx.sp (Tb.by s) s.size (.node k f l) = Tb.acc (Tb.by s) s.size k l by rw [HSP.out, if_neg h5])
                      clear h5
                      rw [hq'] at TA
                      clear hq'
                      go_wp2_with fail
                      go_ret
                      exact ⟨_, _, _, rfl, by rw [HG.out]; exact TA.mono A0.size, Bs.below_up A0 A⟩
set_option maxRecDepth 100000 in
set_option maxHeartbeats 1000000 in
theorem refMatches_any (s : ByteArray) (hs : s.size ≤ 10000) (x : Rx) (hx9 : x.size ≤ 1000) (hwf : x.wf = true) (v : Value) (w : World) (hx : Rx.Is w x v) : Calls Tryz.prog 17 #[v, .string s] w fun e w' => e = .returned (.bool (Rx.sp (Tb.by s) s.size x 0 s.size)) ∧ Below w.heap.size w w' := by
  have hv : ∃ k f b n c, v = Rx.hdr k f b n c := by
    cases x
    obtain ⟨_, b, c, e, _⟩ := hx
    exact ⟨_, _, b, _, c, e⟩
  obtain ⟨k, f, b, n, c, rfl⟩ := hv
  have A := Bs.below1 w (.cells #[.int .u8 k, .int .u64 (Bs.word f 0), .int .u64 (Bs.word f 1), .int .u64 (Bs.word f 2), .int .u64 (Bs.word f 3), .slice b n c] 57)
  have ND := Rx.cell_new w k f b n c 57
  have c0 := ND.c0; have c1 := ND.c1; have c2 := ND.c2; have c3 := ND.c3; have c4 := ND.c4; have c5 := ND.c5
  simp only [Nat.zero_add] at c0 c1 c2 c3 c4 c5
  have HP := Lib.hid (refSpans_any s hs _ x hx9 (Nat.le_refl _) hwf _ _ (hx.up A))
  clear hx ND hwf
  unfold Rx.hdr at HP ⊢
  go_enter Tryz.func17, Tryz.ntmps17
  go_wp2_with fail
  generalize w.alloc (.cells #[.int .u8 k, .int .u64 (Bs.word f 0), .int .u64 (Bs.word f 1), .int .u64 (Bs.word f 2), .int .u64 (Bs.word f 3), .slice b n c] 57) = W at *
  refine HP.out.mono ?_
  rintro e w1 ⟨g, cap, ps, rfl, TB, A1⟩
  clear HP c0 c1 c2 c3 c4 c5
  replace A := Bs.below_up A A1
  obtain ⟨p, _, _, m1, m2, _, _⟩ := TB.get (i := 0) (k := s.size) (by omega) (by omega)
  have i1 : (0 : Int) ≤ (s.size : Int) := by omega
  have i2 : (s.size : Int) < ((s.size + 1 : Nat) : Int) := by omega
  have i3 : (0 : Int) < ((s.size + 1 : Nat) : Int) := by omega
  have i4 : (0 : Int) < (s.size : Int) + 1 := by omega
  have i5 : (s.size : Int) < (s.size : Int) + 1 := by omega
  go_wp2_with fail
  go_ret
  exact ⟨rfl, A⟩
end Go.Proofs.YtndkgkokjjphlaaGreat
