/- Rising rows of numbers: plain facts: a number put in, two rows made one. Rows of numbers in memory; what the document's Put, shift and union answer, walked. What the document's shift, union and Same answer, walked. Fronts in memory; what the document's Join answers, walked. -/
import Derived.Test.YtnbbepgjpfhjdaaG2
import Derived.Test.YtnbbepgjpfhjdaaG3
import Derived.Deep.QuietTactic
import Derived.BigQuiet
import Derived.Deep.Upon
import Derived.Deep.AppendSrc
import Derived.Test.YtnbbepgjpfhjdaaG4
namespace Go.Proofs.Ytnbbepgjpfhjdaa
set_option linter.unusedVariables false
set_option linter.unusedSimpArgs false
namespace Nf
def put : List Int → Int → List Int
  | [], n => [n]
  | x :: r, n => if x < n then x :: put r n else if x = n then x :: r else n :: x :: r
def union (a b : List Int) : List Int := b.foldl put (a.foldl put [])
def shift (l : List Int) (by' : Int) : List Int := l.map (· + by')
theorem put_scan : ∀ (l : List Int) (n : Int) (k : Nat), k ≤ l.length → (∀ i (h : i < l.length), i < k → l[i] < n) → (∀ h : k < l.length, ¬ l[k] < n) →
    put l n = if ∃ h : k < l.length, l[k] = n then l else l.take k ++ n :: l.drop k
  | [], n, k, hk, _, _ => by
    have : k = 0 := by simpa using hk
    subst this
    simp [put]
  | x :: r, n, 0, _, _, h2 => by
    have h3 : ¬ x < n := h2 (by simp)
    rw [put, if_neg h3]
    by_cases e : x = n
    · simp [e]
    · simp [e]
  | x :: r, n, k + 1, hk, h1, h2 => by
    have h3 : x < n := h1 0 (by simp) (by omega)
    have ih := put_scan r n k (by simpa using hk) (fun i hi hik => h1 (i + 1) (by simpa using hi) (by omega)) (fun h => h2 (by simpa using h))
    rw [put, if_pos h3, ih]
    by_cases e : ∃ h : k < r.length, r[k] = n
    · rw [if_pos e, if_pos]
      obtain ⟨h, e⟩ := e
      exact ⟨by simpa using h, by simpa using e⟩
    · rw [if_neg e, if_neg]
      · simp
      · rintro ⟨h, e'⟩
        exact e ⟨by simpa using h, by simpa using e'⟩
theorem mem_put : ∀ {l : List Int} {n x : Int}, x ∈ put l n ↔ x ∈ l ∨ x = n
  | [], n, x => by simp [put]
  | y :: r, n, x => by
    rw [put]
    split
    · simp [mem_put, or_assoc]
    · split
      · rename_i h; subst h
        simp only [List.mem_cons]
        constructor
        · exact fun h => .inl h
        · rintro (h | h)
          · exact h
          · exact .inl h
      · simp only [List.mem_cons]
        constructor
        · rintro (h | h | h)
          · exact .inr h
          · exact .inl (.inl h)
          · exact .inl (.inr h)
        · rintro ((h | h) | h)
          · exact .inr (.inl h)
          · exact .inr (.inr h)
          · exact .inl h
theorem sorted_put : ∀ {l : List Int} {n : Int}, l.Pairwise (· < ·) → (put l n).Pairwise (· < ·)
  | [], n, _ => by simp [put]
  | y :: r, n, h => by
    rw [List.pairwise_cons] at h
    rw [put]
    split
    · rename_i h1
      rw [List.pairwise_cons]
      refine ⟨fun z hz => ?_, sorted_put h.2⟩
      rcases mem_put.1 hz with hz | hz
      · exact h.1 z hz
      · rw [hz]; exact h1
    · split
      · rw [List.pairwise_cons]; exact h
      · rename_i h1 h2
        rw [List.pairwise_cons, List.pairwise_cons]
        refine ⟨fun z hz => ?_, h⟩
        rcases List.mem_cons.1 hz with hz | hz
        · omega
        · have := h.1 z hz; omega
theorem put_len (l : List Int) (n : Int) : (put l n).length ≤ l.length + 1 := by
  induction l with
  | nil => simp [put]
  | cons x r ih =>
    rw [put]
    split
    · simp only [List.length_cons]; omega
    · split <;> simp
theorem foldl_mem : ∀ (b : List Int) (a : List Int) (x : Int), x ∈ b.foldl put a ↔ x ∈ a ∨ x ∈ b
  | [], a, x => by simp
  | y :: r, a, x => by
    rw [List.foldl_cons, foldl_mem r, mem_put, List.mem_cons]
    constructor
    · rintro ((h | h) | h)
      · exact .inl h
      · exact .inr (.inl h)
      · exact .inr (.inr h)
    · rintro (h | h | h)
      · exact .inl (.inl h)
      · exact .inl (.inr h)
      · exact .inr h
theorem foldl_sorted : ∀ (b : List Int) (a : List Int), a.Pairwise (· < ·) → (b.foldl put a).Pairwise (· < ·)
  | [], a, h => h
  | y :: r, a, h => foldl_sorted r _ (sorted_put h)
theorem foldl_len : ∀ (b : List Int) (a : List Int), (b.foldl put a).length ≤ a.length + b.length
  | [], a => by simp
  | y :: r, a => by
    have := foldl_len r (put a y)
    have := put_len a y
    simp only [List.foldl_cons, List.length_cons]
    omega
theorem mem_union {a b : List Int} {x : Int} : x ∈ union a b ↔ x ∈ a ∨ x ∈ b := by
  rw [union, foldl_mem, foldl_mem]; simp
theorem sorted_union (a b : List Int) : (union a b).Pairwise (· < ·) := foldl_sorted _ _ (foldl_sorted _ _ List.Pairwise.nil)
theorem rising_eq : ∀ {a b : List Int}, a.Pairwise (· < ·) → b.Pairwise (· < ·) → (∀ x, x ∈ a ↔ x ∈ b) → a = b
  | [], [], _, _, _ => rfl
  | [], y :: s, _, _, h => by have := (h y).2 (List.mem_cons_self ..); simp at this
  | x :: r, [], _, _, h => by have := (h x).1 (List.mem_cons_self ..); simp at this
  | x :: r, y :: s, ha, hb, h => by
    rw [List.pairwise_cons] at ha hb
    have e : x = y := by
      rcases List.mem_cons.1 ((h x).1 (List.mem_cons_self ..)) with h1 | h1
      · exact h1
      · rcases List.mem_cons.1 ((h y).2 (List.mem_cons_self ..)) with h2 | h2
        · exact h2.symm
        · have := ha.1 y h2
          have := hb.1 x h1
          omega
    subst e
    congr 1
    refine rising_eq ha.2 hb.2 fun z => ?_
    have hz := h z
    simp only [List.mem_cons] at hz
    constructor
    · intro h1
      rcases hz.1 (.inr h1) with h2 | h2
      · have := ha.1 z h1; omega
      · exact h2
    · intro h1
      rcases hz.2 (.inr h1) with h2 | h2
      · have := hb.1 z h1; omega
      · exact h2
end Nf
open Go.RowKit
def Nf.Row (w : World) (B : Nat → Prop) (v : Value) (l : List Int) : Prop := ∃ a cap, v = .slice a l.length cap ∧ l.length ≤ cap ∧ (a = none → cap = 0) ∧ Rx.Sg w a l ∧ ∀ x, a = some x → l ≠ [] → B x.block
theorem Nf.Row.up {w w' : World} {B : Nat → Prop} {v : Value} {l : List Int} (h : Nf.Row w B v l) (hb : Below w.heap.size w w') : Nf.Row w' B v l := by
  obtain ⟨a, cap, e, h1, h2, h3, h4⟩ := h
  exact ⟨a, cap, e, h1, h2, h3.up hb, h4⟩
theorem Nf.Row.mono {w : World} {B B' : Nat → Prop} {v : Value} {l : List Int} (h : Nf.Row w B v l) (hB : ∀ k, B k → B' k) : Nf.Row w B' v l := by
  obtain ⟨a, cap, e, h1, h2, h3, h4⟩ := h
  exact ⟨a, cap, e, h1, h2, h3, fun x ex hl => hB _ (h4 x ex hl)⟩
theorem Nf.Row.grown {w w' : World} {B : Nat → Prop} {v : Value} {l : List Int} {row : Option Nat} (h : Nf.Row w B v l) (hg : w.grownBy w' row) (hB : ∀ k, B k → some k ≠ row) : Nf.Row w' B v l := by
  obtain ⟨a, cap, e, h1, h2, h3, h4⟩ := h
  refine ⟨a, cap, e, h1, h2, fun i hi => ?_, h4⟩
  obtain ⟨x, ex, hx⟩ := h3 i hi
  have hx2 : (x.add i).block = x.block := by simp only [Addr.add]; split <;> rfl
  exact ⟨x, ex, hg.cell hx (by rw [hx2]; exact hB _ (h4 x ex (fun e0 => by rw [e0] at hi; simp at hi)))⟩
theorem Nf.Row.set {w : World} {B : Nat → Prop} {v : Value} {l : List Int} (h : Nf.Row w B v l) {b i : Nat} (hb : ¬ B b) (u : Value) : Nf.Row (w.setCell ⟨b, i, none⟩ u) B v l := by
  obtain ⟨a, cap, e, h1, h2, h3, h4⟩ := h
  refine ⟨a, cap, e, h1, h2, fun j hj => ?_, h4⟩
  obtain ⟨x, ex, hx⟩ := h3 j hj
  have hx2 : (x.add j).block = x.block := by simp only [Addr.add]; split <;> rfl
  refine ⟨x, ex, Bs.cell_set hx (fun e0 => hb ?_)⟩
  have hB := h4 x ex (fun e0 => by rw [e0] at hj; simp at hj)
  rw [← hx2] at hB
  have e1 : b = (x.add j).block := e0
  rw [e1]
  exact hB
def Nf.RPost (w : World) (B : Nat → Prop) (l : List Int) (e : Ending) (w' : World) : Prop := ∃ v, e = .returned v ∧ Nf.Row w' B v l ∧ Below w.heap.size w w'
theorem Nf.infoInt : (Try.prog.info? 3).map (fun i => (i.zero, i.size, i.bytes)) = some (some (.int .i64 0), 1, 8) := by kernel_rfl
def Nf.Own (base : Nat) (v : Value) (ns : List Int) (w : World) : Prop := w.ownsRow base 3 1 v ns.length (ns.map (Value.int .i64))
theorem Nf.own_nil (base : Nat) (w : World) : Nf.Own base (.slice none 0 0) [] w := World.ownsRow_nil _ _ _ _
theorem Nf.Own.up {base : Nat} {v : Value} {ns : List Int} {w w' : World} (h : Nf.Own base v ns w) (hb : Below w.heap.size w w') : Nf.Own base v ns w' := Bs.row_up h hb
theorem Nf.Own.row {base : Nat} {B : Nat → Prop} {v : Value} {ns : List Int} {w : World} (h : Nf.Own base v ns w) (hB : ∀ k, base ≤ k → B k) : Nf.Row w B v ns := by
  rcases h.2 with ⟨rfl, h0⟩ | ⟨g, cap, cur, rfl, hgb, _, hle, _⟩
  · have e : ns = [] := List.length_eq_zero_iff.1 h0
    subst e
    exact ⟨none, 0, rfl, Nat.le_refl _, fun _ => rfl, fun i hi => by simp at hi, fun x e => by simp at e⟩
  · refine ⟨some ⟨g, 0, none⟩, cap, rfl, by simpa using hle, fun e => by simp at e, fun i hi => ⟨_, rfl, ?_⟩, fun x e _ => by injection e with e; subst e; exact hB g hgb⟩
    exact World.ownsRow.cells (g := g) h rfl i (.int .i64 ns[i]) (by simp [hi])
theorem Nf.Row.form {w : World} {B : Nat → Prop} {v : Value} {l : List Int} (h : Nf.Row w B v l) : ∃ a n c, v = .slice a n c := by
  obtain ⟨a, cap, e, _⟩ := h
  exact ⟨_, _, _, e⟩
set_option maxRecDepth 100000 in
theorem Nf.append {ops : Array Oper} {rest : List Oper} {o : Oper} {a : Act} {Q : Exit → Act → World → Prop} {W : World} (hgd : o.guard = none) (s x : Operand)
    (ho : o.op = .call { callee := .builtin .append, args := #[s, x], argTypes := #[35, 35] })
    (base : Nat) (v : Value) (ns : List Int) (hs : a.eval s = v) (O : Nf.Own base v ns W) (ao : Option Addr) (c nl : Nat) (l : List Int) (hnl : l.length = nl) (hx : a.eval x = .slice ao nl c) (hS : Rx.Sg W ao l) (hl : ns.length + l.length ≤ 10000000) (hbase : base ≤ W.heap.size)
    (h : ∀ v' w', Nf.Own base v' (ns ++ l) w' → W.grownBy w' v.ownBlock → wpList Try.prog ops Q rest (a.put o.dst v') w') : wpList Try.prog ops Q (o :: rest) a W := by
  subst hnl
  obtain ⟨iI, hiI, hz0, hz1, hz2⟩ := info_parts Nf.infoInt
  by_cases h0 : l = []
  · subst h0
    refine wpList_plain hgd fun K hK => ?_
    obtain ⟨av, ns', cs, hv⟩ := (Nf.Own.row O (fun _ h => h)).form
    have hle : ns' ≤ cs := by
      obtain ⟨a1, c1, e1, h1, _⟩ := Nf.Own.row O (fun _ h => h)
      rw [hv] at e1
      injection e1 with e2 e3 e4
      omega
    have hsrc : Src Try.prog iI.size 35 (.slice ao 0 c) 0 [] W := by
      cases ao with
      | none => exact Src.ofNil W Try.underlying35 c
      | some ad => exact Src.ofSlice W Try.underlying35 ad 0 c [] (by simp) (fun j u hj => by simp at hj) (fun u hu => by simp at hu)
    have hrun := run_append_nothing (P := Try.prog) W 35 35 o.type 3 iI Try.underlying35 hiI av ns' cs hle (.slice ao 0 c) hsrc
    have hx' : a.eval x = .slice ao 0 c := hx
    unfold Oper.wp
    rw [hv] at hs
    simp [execOp, ho, resolve, invoke, builtin, hs, hx', hrun, Result.andThen]
    refine hK _ _ ?_
    rw [← hv]
    exact h v W (by rw [List.append_nil]; exact O) (World.grownBy.refl _ _)
  · have hpos : 0 < l.length := List.length_pos_iff.2 h0
    obtain ⟨ad, rfl, _⟩ := hS 0 hpos
    have nw : ∀ j u, (l.map (Value.int .i64))[j]? = some u → W.cell? (ad.add j) = some u := by
      intro j u hu
      rw [List.getElem?_map] at hu
      by_cases hj : j < l.length
      · rw [List.getElem?_eq_getElem hj] at hu
        obtain ⟨ad', e', hc⟩ := hS j hj
        injection e' with e'
        subst e'
        simp at hu
        rw [← hu]
        exact hc
      · rw [List.getElem?_eq_none (by omega)] at hu
        simp at hu
    refine wpList_append_own _ hgd s x 35 ho base 3 iI _ 1 8 Try.underlying35 hiI hz0 hz1 hz2 rfl (by decide) v ns.length (ns.map (Value.int .i64)) hs O ad l.length c (l.map (Value.int .i64)) hx (by simp) nw (by simp [Value.oneCell']) (by unfold maxLen; omega) (by omega) hbase ?_
    intro v7 w4 o7 g7 _
    exact h v7 w4 (by unfold Nf.Own; simpa [List.length_append, List.map_append] using o7) g7
set_option maxRecDepth 100000 in
theorem Nf.sg_new (w : World) (n : Int) (t : TypeId) : Rx.Sg (w.alloc (.cells #[.int .i64 n] t)) (some ⟨w.heap.size, 0, none⟩) [n] := fun i hi => by
  have : i = 0 := by simpa using hi
  subst this
  exact ⟨_, rfl, by simp [go_sem, Addr.add]⟩
theorem Nf.grown {w W w' : World} {v : Value} {ns : List Int} (A : Below w.heap.size w W) (O : Nf.Own w.heap.size v ns W) (g : W.grownBy w' v.ownBlock) : Below w.heap.size w w' := A.grown g A.size (fun k hk => (World.ownsRow.lt O k hk).1)
theorem Nf.sg_take {w : World} {a : Option Addr} {l : List Int} (h : Rx.Sg w a l) (k : Nat) : Rx.Sg w a (l.take k) := fun i hi => by
  simp only [List.length_take] at hi
  obtain ⟨x, e, hx⟩ := h i (by omega)
  exact ⟨x, e, by rw [List.getElem_take]; exact hx⟩
theorem Nf.add_add (x : Addr) (k i : Nat) : (x.add k).add i = x.add (k + i) := by
  unfold Addr.add
  by_cases h1 : k = 0
  · subst h1; simp
  · by_cases h2 : i = 0
    · subst h2; simp
    · rw [if_neg h1, if_neg h2, if_neg (by omega)]
      simp [Nat.add_assoc]
theorem Nf.sg_drop {w : World} {x : Addr} {l : List Int} (h : Rx.Sg w (some x) l) (k : Nat) : Rx.Sg w (some (x.add k)) (l.drop k) := fun i hi => by
  simp only [List.length_drop] at hi
  obtain ⟨y, e, hx⟩ := h (k + i) (by omega)
  injection e with e
  subst e
  exact ⟨_, rfl, by rw [Nf.add_add, List.getElem_drop]; exact hx⟩
set_option maxRecDepth 100000 in
set_option maxHeartbeats 2000000 in
theorem refPut_any (l : List Int) (n : Int) (v : Value) (w : World) (B : Nat → Prop) (hB : ∀ k, w.heap.size ≤ k → B k) (hv : Nf.Row w B v l) (hl : l.length ≤ 100000) : Calls Try.prog 71 #[v, .int .i64 n] w (Nf.RPost w B (Nf.put l n)) := by
  obtain ⟨a, cap, rfl, hc, ha, hs, hbl⟩ := hv
  have HS := Lib.hid hs
  have HBL := Lib.hid hbl
  have HBK := Lib.hid hB
  clear hs hbl hB
  obtain ⟨m, hm⟩ : ∃ m, l.length = m := ⟨_, rfl⟩
  have HM := Lib.hid hm
  rw [hm] at hl hc ⊢
  clear hm
  go_enter Try.func71, Try.ntmps71
  go_wp2_with fail
  go_loopw [5] (fun i wr => ∃ k : Nat, k ≤ m ∧ i = .int .i64 k ∧ Hid (∀ i (h : i < l.length), i < k → l[i] < n) ∧ wr = w) (fun i _ => m - (intOf i).toNat)
  case atStart => exact ⟨0, by omega, rfl, Lib.hid (fun i h h' => by omega), rfl⟩
  case round =>
    obtain ⟨k, hk, rfl, HP, rfl⟩ := hrel
    by_cases hlt : k < m
    · have hlt' : k < l.length := by rw [HM.out]; exact hlt
      obtain ⟨x, rfl, hx⟩ := HS.out k hlt'
      have e1 : decide ((k : Int) < (m : Int)) = true := decide_eq_true (by omega)
      have e2 : decide (k < m) = true := decide_eq_true hlt
      have i1 : (0 : Int) ≤ (k : Int) := by omega
      have i2 : (k : Int) < (m : Int) := by omega
      by_cases hv : l[k] < n
      · have HP2 := Lib.hid (show ∀ i (h : i < l.length), i < k + 1 → l[i] < n from fun i h h' => by
          by_cases e : i = k
          · subst e; exact hv
          · exact HP.out i h (by omega))
        have e3 : decide (l[k] < n) = true := decide_eq_true hv
        generalize l[k] = y at *
        go_wp2_with fail
        go_roundw
        case rel => exact ⟨k + 1, by omega, by go_num, HP2, by first | rfl | trivial⟩
        case measure => simp [intOf]; omega
      · have e3 : decide (l[k] < n) = false := decide_eq_false hv
        by_cases he : l[k] = n
        · have HR := Lib.hid (show Nf.put l n = l by rw [Nf.put_scan l n k (by omega) HP.out (fun _ => hv), if_pos ⟨hlt', he⟩])
          have HRW : Hid (Nf.Row wr B (.slice (some x) m cap) l) := Lib.hid ⟨some x, cap, by rw [HM.out], by rw [HM.out]; exact hc, by simp, HS.out, HBL.out⟩
          have e4 : (l[k] == n) = true := by rw [he]; exact beq_self_eq_true _
          generalize l[k] = y at *
          clear he
          go_wp2_with fail
          go_ret
          exact ⟨_, rfl, by rw [HR.out]; exact HRW.out, Below.refl _ _⟩
        · have HR := Lib.hid (show Nf.put l n = l.take k ++ n :: l.drop k by rw [Nf.put_scan l n k (by omega) HP.out (fun _ => hv), if_neg (fun ⟨_, e⟩ => he e)])
          have e4 : (l[k] == n) = false := beq_eq_false_iff_ne.2 he
          generalize l[k] = y at *
          clear he
          have j1 : (k : Int) ≤ (cap : Int) := by omega
          have j2 : (k : Int) ≤ (m : Int) := by omega
          have hlk : (l.take k).length = k := by rw [List.length_take, HM.out]; omega
          have HTK := Lib.hid (Nf.sg_take HS.out k)
          have hdk : (l.drop k).length = m - k := by rw [List.length_drop, HM.out]
          have HDK := Lib.hid (Nf.sg_drop HS.out k)
          have q1 : ([] : List Int).length + (l.take k).length ≤ 10000000 := by rw [hlk]; simp; omega
          have q2 : ([] ++ l.take k).length + [n].length ≤ 10000000 := by rw [List.nil_append, hlk]; simp; omega
          have q3 : ([] ++ l.take k ++ [n]).length + (l.drop k).length ≤ 10000000 := by rw [List.nil_append, List.length_append, hlk, hdk]; simp; omega
          go_wp2_with (first
            | (at_builtin; refine Nf.append rfl _ _ rfl wr.heap.size _ [] rfl (Nf.own_nil _ _) (some x) cap k (l.take k) hlk rfl HTK.out q1 (Nat.le_refl _) ?_; intro v1 w1 O1 g1; have A1 := Nf.grown (Below.refl _ _) (Nf.own_nil _ _) g1; obtain ⟨a1, n1, c1, rfl⟩ := (Nf.Own.row O1 (fun _ h => h)).form)
            | (at_builtin; refine Nf.append rfl _ _ rfl wr.heap.size _ ([] ++ (l.take k)) rfl (Nf.Own.up O1 (Bs.below1 w1 (.cells #[.int .i64 n] 3))) (some ⟨w1.heap.size, 0, none⟩) 1 1 [n] rfl rfl (Nf.sg_new w1 n 3) q2 (Nat.le_trans g1.size (Bs.below1 w1 _).size) ?_; intro v2 w2 O2 g2; have A2 := Nf.grown (Bs.below_up A1 (Bs.below1 w1 (.cells #[.int .i64 n] 3))) (Nf.Own.up O1 (Bs.below1 w1 (.cells #[.int .i64 n] 3))) g2; obtain ⟨a2, n2, c2, rfl⟩ := (Nf.Own.row O2 (fun _ h => h)).form)
            | (at_builtin; refine Nf.append rfl _ _ rfl wr.heap.size _ ([] ++ (l.take k) ++ [n]) rfl O2 (some (x.add k)) (cap - k) (m - k) (l.drop k) hdk rfl (Rx.Sg.up HDK.out A2) q3 A2.size ?_; intro v3 w3 O3 g3; have A3 := Nf.grown A2 O2 g3; obtain ⟨a3, n3, c3, rfl⟩ := (Nf.Own.row O3 (fun _ h => h)).form))
          go_ret
          refine ⟨_, rfl, ?_, A3⟩
          rw [HR.out]
          have := Nf.Own.row O3 HBK.out
          simpa using this
    · have hkm : k = m := by omega
      subst hkm
      have e1 : decide ((k : Int) < (k : Int)) = false := decide_eq_false (by omega)
      have e2 : decide (k < k) = false := decide_eq_false (by omega)
      have HR := Lib.hid (show Nf.put l n = l ++ [n] by
        rw [Nf.put_scan l n k (by rw [HM.out]; omega) HP.out (fun h => by rw [HM.out] at h; omega), if_neg (fun ⟨h, _⟩ => by rw [HM.out] at h; omega), List.take_of_length_le (by rw [HM.out]; omega), List.drop_eq_nil_of_le (by rw [HM.out]; omega)])
      have j1 : (k : Int) ≤ (cap : Int) := by omega
      have j2 : (k : Int) ≤ (k : Int) := by omega
      have q1 : ([] : List Int).length + l.length ≤ 10000000 := by rw [HM.out]; simp; omega
      have q2 : ([] ++ l).length + [n].length ≤ 10000000 := by rw [List.nil_append, HM.out]; simp; omega
      have q3 : ([] ++ l ++ [n]).length + ([] : List Int).length ≤ 10000000 := by rw [List.nil_append, List.length_append, HM.out]; simp; omega
      cases a with
      | none =>
        have hc0 : cap = 0 := ha rfl
        subst hc0
        have hk0 : k = 0 := by omega
        subst hk0
        have hl0 : l = [] := List.length_eq_zero_iff.1 HM.out
        subst hl0
        clear e1 e2
        have e1 : decide (((0 : Nat) : Int) < ((0 : Nat) : Int)) = false := rfl
        go_wp2_with (first
          | (at_builtin; refine Nf.append rfl _ _ rfl wr.heap.size _ [] rfl (Nf.own_nil _ _) none 0 0 [] rfl rfl (fun i hi => by simp at hi) q1 (Nat.le_refl _) ?_; intro v1 w1 O1 g1; have A1 := Nf.grown (Below.refl _ _) (Nf.own_nil _ _) g1; obtain ⟨a1, n1, c1, rfl⟩ := (Nf.Own.row O1 (fun _ h => h)).form)
          | (at_builtin; refine Nf.append rfl _ _ rfl wr.heap.size _ ([] ++ []) rfl (Nf.Own.up O1 (Bs.below1 w1 (.cells #[.int .i64 n] 3))) (some ⟨w1.heap.size, 0, none⟩) 1 1 [n] rfl rfl (Nf.sg_new w1 n 3) q2 (Nat.le_trans g1.size (Bs.below1 w1 _).size) ?_; intro v2 w2 O2 g2; have A2 := Nf.grown (Bs.below_up A1 (Bs.below1 w1 (.cells #[.int .i64 n] 3))) (Nf.Own.up O1 (Bs.below1 w1 (.cells #[.int .i64 n] 3))) g2; obtain ⟨a2, n2, c2, rfl⟩ := (Nf.Own.row O2 (fun _ h => h)).form)
          | (at_builtin; refine Nf.append rfl _ _ rfl wr.heap.size _ ([] ++ [] ++ [n]) rfl O2 _ _ 0 [] rfl rfl (fun i hi => by simp at hi) q3 A2.size ?_; intro v3 w3 O3 g3; have A3 := Nf.grown A2 O2 g3; obtain ⟨a3, n3, c3, rfl⟩ := (Nf.Own.row O3 (fun _ h => h)).form))
        all_goals
          go_ret
          refine ⟨_, rfl, ?_, A3⟩
          rw [HR.out]
          have := Nf.Own.row O3 HBK.out
          simpa using this
      | some x =>
        go_wp2_with (first
          | (at_builtin; refine Nf.append rfl _ _ rfl wr.heap.size _ [] rfl (Nf.own_nil _ _) (some x) cap k l HM.out rfl HS.out q1 (Nat.le_refl _) ?_; intro v1 w1 O1 g1; have A1 := Nf.grown (Below.refl _ _) (Nf.own_nil _ _) g1; obtain ⟨a1, n1, c1, rfl⟩ := (Nf.Own.row O1 (fun _ h => h)).form)
          | (at_builtin; refine Nf.append rfl _ _ rfl wr.heap.size _ ([] ++ l) rfl (Nf.Own.up O1 (Bs.below1 w1 (.cells #[.int .i64 n] 3))) (some ⟨w1.heap.size, 0, none⟩) 1 1 [n] rfl rfl (Nf.sg_new w1 n 3) q2 (Nat.le_trans g1.size (Bs.below1 w1 _).size) ?_; intro v2 w2 O2 g2; have A2 := Nf.grown (Bs.below_up A1 (Bs.below1 w1 (.cells #[.int .i64 n] 3))) (Nf.Own.up O1 (Bs.below1 w1 (.cells #[.int .i64 n] 3))) g2; obtain ⟨a2, n2, c2, rfl⟩ := (Nf.Own.row O2 (fun _ h => h)).form)
          | (at_builtin; refine Nf.append rfl _ _ rfl wr.heap.size _ ([] ++ l ++ [n]) rfl O2 _ _ 0 [] rfl rfl (fun i hi => by simp at hi) q3 A2.size ?_; intro v3 w3 O3 g3; have A3 := Nf.grown A2 O2 g3; obtain ⟨a3, n3, c3, rfl⟩ := (Nf.Own.row O3 (fun _ h => h)).form))
        all_goals
          go_ret
          refine ⟨_, rfl, ?_, A3⟩
          rw [HR.out]
          have := Nf.Own.row O3 HBK.out
          simpa using this
open Go.RowKit
theorem Nf.shift_take (l : List Int) (by' : Int) (k : Nat) (h : k < l.length) : Nf.shift (l.take (k + 1)) by' = Nf.shift (l.take k) by' ++ [l[k] + by'] := by
  rw [List.take_succ_eq_append_getElem h, Nf.shift, Nf.shift, List.map_append]
  rfl
set_option maxRecDepth 100000 in
set_option maxHeartbeats 2000000 in
theorem refShift_any (l : List Int) (by' : Int) (v : Value) (w : World) (B : Nat → Prop) (hB : ∀ k, w.heap.size ≤ k → B k) (hv : Nf.Row w (fun _ => True) v l) (hl : l.length ≤ 100000) (hn : ∀ x ∈ l, 0 ≤ x ∧ x ≤ 1000000) (hb : 0 ≤ by' ∧ by' ≤ 1000000) : Calls Try.prog 43 #[v, .int .i64 by'] w (Nf.RPost w B (Nf.shift l by')) := by
  obtain ⟨a, cap, rfl, hc, ha, hs, _⟩ := hv
  have HS := Lib.hid hs
  have HBK := Lib.hid hB
  clear hs ha hc hB
  obtain ⟨m, hm⟩ : ∃ m, l.length = m := ⟨_, rfl⟩
  have HM := Lib.hid hm
  have HN := Lib.hid hn
  rw [hm] at hl ⊢
  clear hm hn
  go_enter Try.func43, Try.ntmps43
  go_wp2_with fail
  go_loopw [5, 6] (fun r i wr => ∃ k : Nat, k ≤ m ∧ i = .int .i64 k ∧ Nf.Own w.heap.size r (Nf.shift (l.take k) by') wr ∧ Below w.heap.size w wr) (fun _ i _ => m - (intOf i).toNat)
  case atStart => exact ⟨0, by omega, rfl, Nf.own_nil _ _, Below.refl _ _⟩
  case round =>
    obtain ⟨k, hk, rfl, O, A⟩ := hrel
    obtain ⟨a5, n5, c5, rfl⟩ := (Nf.Own.row O (fun _ h => h)).form
    by_cases hlt : k < m
    · have hlt' : k < l.length := by rw [HM.out]; exact hlt
      obtain ⟨x, rfl, hx⟩ := (Rx.Sg.up HS.out A) k hlt'
      have hy := HN.out l[k] (List.getElem_mem hlt')
      have HT := Lib.hid (Nf.shift_take l by' k hlt')
      have hln : (Nf.shift (l.take k) by').length + [l[k] + by'].length ≤ 10000000 := by simp [Nf.shift, HM.out]; omega
      have i1 : (0 : Int) ≤ (k : Int) := by omega
      have i2 : (k : Int) < (m : Int) := by omega
      have i3 : IntKind.i64.wrap (l[k] + by') = l[k] + by' := IntWalk.i64_in _ (by omega)
      generalize l[k] = y at *
      have hO := Nf.Own.up O (Bs.below1 wr (.cells #[.int .i64 (y + by')] 3))
      have A1 := Bs.below_up A (Bs.below1 wr (.cells #[.int .i64 (y + by')] 3))
      have hsz := A1.size
      clear O
      go_wp2_with (first | (at_builtin; refine Nf.append rfl _ _ rfl w.heap.size _ (Nf.shift (l.take k) by') rfl hO (some ⟨wr.heap.size, 0, none⟩) 1 1 [y + by'] rfl rfl (Nf.sg_new wr (y + by') 3) hln hsz ?_; intro v7 w4 O4 g4))
      have A4 := Nf.grown A1 hO g4
      rw [← HT.out] at O4
      obtain ⟨a7, n7, c7, rfl⟩ := (Nf.Own.row O4 (fun _ h => h)).form
      clear hO A1 g4
      go_wp2_with fail
      go_roundw
      case rel => exact ⟨k + 1, by omega, by go_num, O4, A4⟩
      case measure => simp [intOf]; omega
    · have ht : l.take k = l := List.take_of_length_le (by rw [HM.out]; omega)
      rw [ht] at O
      clear ht
      go_wp2_with fail
      go_ret
      exact ⟨_, rfl, Nf.Own.row O HBK.out, A⟩
theorem Nf.fold_take (l : List Int) (a : List Int) (k : Nat) (h : k < l.length) : (l.take (k + 1)).foldl Nf.put a = Nf.put ((l.take k).foldl Nf.put a) l[k] := by
  rw [List.take_succ_eq_append_getElem h, List.foldl_append]
  rfl
set_option maxRecDepth 100000 in
set_option maxHeartbeats 2000000 in
theorem refUnion_any (l b : List Int) (v u : Value) (w : World) (B : Nat → Prop) (hB : ∀ k, w.heap.size ≤ k → B k) (hv : Nf.Row w (fun _ => True) v l) (hu : Nf.Row w (fun _ => True) u b) (hl : l.length ≤ 10000) (hb : b.length ≤ 10000) : Calls Try.prog 70 #[v, u] w (Nf.RPost w B (Nf.union l b)) := by
  obtain ⟨a, cap, rfl, _, _, hs, _⟩ := hv
  obtain ⟨a2, cap2, rfl, _, _, hs2, _⟩ := hu
  have HBK := Lib.hid hB
  clear hB
  have HS := Lib.hid hs
  have HS2 := Lib.hid hs2
  clear hs hs2
  obtain ⟨m, hm⟩ : ∃ m, l.length = m := ⟨_, rfl⟩
  obtain ⟨m2, hm2⟩ : ∃ m2, b.length = m2 := ⟨_, rfl⟩
  have HM := Lib.hid hm
  have HM2 := Lib.hid hm2
  rw [hm] at hl ⊢
  rw [hm2] at hb ⊢
  clear hm hm2
  go_enter Try.func70, Try.ntmps70
  go_wp2_with fail
  go_loopw [5, 6] (fun r i wr => ∃ k : Nat, k ≤ m ∧ i = .int .i64 k ∧ Nf.Row wr B r ((l.take k).foldl Nf.put []) ∧ Below w.heap.size w wr) (fun _ i _ => m - (intOf i).toNat)
  case atStart => exact ⟨0, by omega, rfl, Nf.Own.row (Nf.own_nil w.heap.size _) HBK.out, Below.refl _ _⟩
  case round =>
    obtain ⟨k, hk, rfl, R, A⟩ := hrel
    obtain ⟨a5, n5, c5, rfl⟩ := R.form
    have hlen := Nf.foldl_len (l.take k) []
    have htl : (l.take k).length ≤ 10000 := by rw [List.length_take]; omega
    by_cases hlt : k < m
    · have hlt' : k < l.length := by rw [HM.out]; exact hlt
      obtain ⟨x, rfl, hx⟩ := (Rx.Sg.up HS.out A) k hlt'
      have HT := Lib.hid (Nf.fold_take l [] k hlt')
      have i1 : (0 : Int) ≤ (k : Int) := by omega
      have i2 : (k : Int) < (m : Int) := by omega
      generalize l[k] = y at *
      have P := Lib.hid (refPut_any _ y _ wr B (fun k hk => HBK.out k (Nat.le_trans A.size hk)) R (by simp at hlen; omega))
      go_wp2_with fail
      refine P.out.mono ?_
      rintro e w1 ⟨v1, rfl, R1, hb1⟩
      replace A := Bs.below_up A hb1
      rw [← HT.out] at R1
      obtain ⟨a7, n7, c7, rfl⟩ := R1.form
      clear P R hb1 hx
      go_wp2_with fail
      go_roundw
      case rel => exact ⟨k + 1, by omega, by go_num, R1, A⟩
      case measure => simp [intOf]; omega
    · have ht : l.take k = l := List.take_of_length_le (by rw [HM.out]; omega)
      rw [ht] at R hlen htl
      clear ht
      go_wp2_with fail
      go_loopw [5, 7] (fun r i wr => ∃ k : Nat, k ≤ m2 ∧ i = .int .i64 k ∧ Nf.Row wr B r ((b.take k).foldl Nf.put (l.foldl Nf.put [])) ∧ Below w.heap.size w wr) (fun _ i _ => m2 - (intOf i).toNat)
      case atStart => exact ⟨0, by omega, rfl, R, A⟩
      case round =>
        clear R A
        obtain ⟨k, hk, rfl, R, A⟩ := hrel
        obtain ⟨a5, n5, c5, rfl⟩ := R.form
        have hlen2 := Nf.foldl_len (b.take k) (l.foldl Nf.put [])
        have htl2 : (b.take k).length ≤ 10000 := by rw [List.length_take]; omega
        by_cases hlt : k < m2
        · have hlt' : k < b.length := by rw [HM2.out]; exact hlt
          obtain ⟨x, rfl, hx⟩ := (Rx.Sg.up HS2.out A) k hlt'
          have HT := Lib.hid (Nf.fold_take b (l.foldl Nf.put []) k hlt')
          have i1 : (0 : Int) ≤ (k : Int) := by omega
          have i2 : (k : Int) < (m2 : Int) := by omega
          generalize b[k] = y at *
          have P := Lib.hid (refPut_any _ y _ wr B (fun k hk => HBK.out k (Nat.le_trans A.size hk)) R (by simp at hlen; omega))
          go_wp2_with fail
          refine P.out.mono ?_
          rintro e w1 ⟨v1, rfl, R1, hb1⟩
          replace A := Bs.below_up A hb1
          rw [← HT.out] at R1
          obtain ⟨a7, n7, c7, rfl⟩ := R1.form
          clear P R hb1 hx
          go_wp2_with fail
          go_roundw
          case rel => exact ⟨k + 1, by omega, by go_num, R1, A⟩
          case measure => simp [intOf]; omega
        · have ht : b.take k = b := List.take_of_length_le (by rw [HM2.out]; omega)
          rw [ht] at R
          clear ht
          go_wp2_with fail
          go_ret
          exact ⟨_, rfl, R, A⟩
open Go.RowKit
structure Nf.FB (w : World) (b : Nat) (vo vr : Value) : Prop where
  c0 : w.cell? ⟨b, 0, none⟩ = some vo
  c1 : w.cell? ⟨b, 1, none⟩ = some vr
  z0 : w.frozen? ⟨b, 0, none⟩ = false
  z1 : w.frozen? ⟨b, 1, none⟩ = false
theorem Nf.FB.lt {w : World} {b : Nat} {vo vr : Value} (h : Nf.FB w b vo vr) : b < w.heap.size := World.block_lt_of_cell? w _ h.c0
theorem Nf.FB.up {w w' : World} {b : Nat} {vo vr : Value} (h : Nf.FB w b vo vr) (hb : Below w.heap.size w w') : Nf.FB w' b vo vr :=
  ⟨Bs.cell_up hb h.c0, Bs.cell_up hb h.c1, by rw [hb.frozen h.lt]; exact h.z0, by rw [hb.frozen h.lt]; exact h.z1⟩
theorem Nf.fb_new (w : World) (vo vr : Value) (t : TypeId) : Nf.FB (w.alloc (.cells #[vo, vr] t)) w.heap.size vo vr := by
  constructor <;> simp [go_sem]
theorem Nf.FB.far {w : World} {b : Nat} {vo vr : Value} (h : Nf.FB w b vo vr) {d i : Nat} (hd : d ≠ b) (x : Value) : Nf.FB (w.setCell ⟨d, i, none⟩ x) b vo vr := by
  obtain ⟨c0, c1, z0, z1⟩ := h
  exact ⟨Bs.cell_set c0 hd, Bs.cell_set c1 hd, by simp [go_sem, z0], by simp [go_sem, z1]⟩
theorem Nf.FB.set0 {w : World} {b : Nat} {vo vr : Value} (h : Nf.FB w b vo vr) (x : Value) : Nf.FB (w.setCell ⟨b, 0, none⟩ x) b x vr := by
  obtain ⟨c0, c1, z0, z1⟩ := h
  constructor <;> simp [go_sem, c0, c1, z0, z1]
theorem Nf.FB.set1 {w : World} {b : Nat} {vo vr : Value} (h : Nf.FB w b vo vr) (x : Value) : Nf.FB (w.setCell ⟨b, 1, none⟩ x) b vo x := by
  obtain ⟨c0, c1, z0, z1⟩ := h
  constructor <;> simp [go_sem, c0, c1, z0, z1]
theorem Nf.Row.lt {w : World} {B : Nat → Prop} {v : Value} {l : List Int} (h : Nf.Row w B v l) : Nf.Row w (fun k => B k ∧ k < w.heap.size) v l := by
  obtain ⟨a, cap, e, h1, h2, h3, h4⟩ := h
  refine ⟨a, cap, e, h1, h2, h3, fun x ex hl => ⟨h4 x ex hl, ?_⟩⟩
  obtain ⟨y, ey, hy⟩ := h3 0 (List.length_pos_iff.2 hl)
  rw [ex] at ey
  injection ey with ey
  subst ey
  have := World.block_lt_of_cell? w _ hy
  have hx2 : (x.add 0).block = x.block := by simp only [Addr.add]; split <;> rfl
  rw [hx2] at this
  exact this
def Nf.FPost (w : World) (B : Nat → Prop) (os rs : List Int) (e : Ending) (w' : World) : Prop := ∃ vo vr, e = .returned (.agg #[vo, vr]) ∧ Nf.Row w' B vo os ∧ Nf.Row w' B vr rs ∧ Below w.heap.size w w'
structure Nf.JW (w0 : World) (b1 b2 b4 b5 : Nat) (p1 p2 q1 q2 : Value) (A1 A2 B1 B2 : List Int) (vo vr : Value) (lo lr : List Int) (u : World) : Prop where
  f1 : Nf.FB u b1 p1 p2
  f2 : Nf.FB u b2 q1 q2
  f4 : Nf.FB u b4 (.slice none 0 0) (.slice none 0 0)
  f5 : Nf.FB u b5 vo vr
  r1 : Nf.Row u (fun k => k ≠ b4 ∧ k ≠ b5) p1 A1
  r2 : Nf.Row u (fun k => k ≠ b4 ∧ k ≠ b5) p2 A2
  r3 : Nf.Row u (fun k => k ≠ b4 ∧ k ≠ b5) q1 B1
  r4 : Nf.Row u (fun k => k ≠ b4 ∧ k ≠ b5) q2 B2
  ro : Nf.Row u (fun k => w0.heap.size ≤ k ∧ k ≠ b4 ∧ k ≠ b5) vo lo
  rr : Nf.Row u (fun k => w0.heap.size ≤ k ∧ k ≠ b4 ∧ k ≠ b5) vr lr
  bel : Below w0.heap.size w0 u
  n4 : w0.heap.size ≤ b4
  n5 : w0.heap.size ≤ b5
  d1 : b5 ≠ b1
  d2 : b5 ≠ b2
  d4 : b5 ≠ b4
theorem Nf.JW.up {w0 : World} {b1 b2 b4 b5 : Nat} {p1 p2 q1 q2 : Value} {A1 A2 B1 B2 : List Int} {vo vr : Value} {lo lr : List Int} {u : World} {u' : World} (h : Nf.JW w0 b1 b2 b4 b5 p1 p2 q1 q2 A1 A2 B1 B2 vo vr lo lr u) (hb : Below u.heap.size u u') : Nf.JW w0 b1 b2 b4 b5 p1 p2 q1 q2 A1 A2 B1 B2 vo vr lo lr u' :=
  ⟨h.f1.up hb, h.f2.up hb, h.f4.up hb, h.f5.up hb, h.r1.up hb, h.r2.up hb, h.r3.up hb, h.r4.up hb, h.ro.up hb, h.rr.up hb, Bs.below_up h.bel hb, h.n4, h.n5, h.d1, h.d2, h.d4⟩
theorem Nf.JW.put0 {w0 : World} {b1 b2 b4 b5 : Nat} {p1 p2 q1 q2 : Value} {A1 A2 B1 B2 : List Int} {vo vr : Value} {lo lr : List Int} {u : World} (h : Nf.JW w0 b1 b2 b4 b5 p1 p2 q1 q2 A1 A2 B1 B2 vo vr lo lr u) {v : Value} {l : List Int} (hv : Nf.Row u (fun k => w0.heap.size ≤ k ∧ k ≠ b4 ∧ k ≠ b5) v l) : Nf.JW w0 b1 b2 b4 b5 p1 p2 q1 q2 A1 A2 B1 B2 v vr l lr (u.setCell ⟨b5, 0, none⟩ v) :=
  ⟨h.f1.far h.d1 _, h.f2.far h.d2 _, h.f4.far h.d4 _, h.f5.set0 v, h.r1.set (fun e => e.2 rfl) _, h.r2.set (fun e => e.2 rfl) _, h.r3.set (fun e => e.2 rfl) _, h.r4.set (fun e => e.2 rfl) _, hv.set (fun e => e.2.2 rfl) _, h.rr.set (fun e => e.2.2 rfl) _, h.bel.setCell h.n5 _, h.n4, h.n5, h.d1, h.d2, h.d4⟩
theorem Nf.JW.put1 {w0 : World} {b1 b2 b4 b5 : Nat} {p1 p2 q1 q2 : Value} {A1 A2 B1 B2 : List Int} {vo vr : Value} {lo lr : List Int} {u : World} (h : Nf.JW w0 b1 b2 b4 b5 p1 p2 q1 q2 A1 A2 B1 B2 vo vr lo lr u) {v : Value} {l : List Int} (hv : Nf.Row u (fun k => w0.heap.size ≤ k ∧ k ≠ b4 ∧ k ≠ b5) v l) : Nf.JW w0 b1 b2 b4 b5 p1 p2 q1 q2 A1 A2 B1 B2 vo v lo l (u.setCell ⟨b5, 1, none⟩ v) :=
  ⟨h.f1.far h.d1 _, h.f2.far h.d2 _, h.f4.far h.d4 _, h.f5.set1 v, h.r1.set (fun e => e.2 rfl) _, h.r2.set (fun e => e.2 rfl) _, h.r3.set (fun e => e.2 rfl) _, h.r4.set (fun e => e.2 rfl) _, h.ro.set (fun e => e.2.2 rfl) _, hv.set (fun e => e.2.2 rfl) _, h.bel.setCell h.n5 _, h.n4, h.n5, h.d1, h.d2, h.d4⟩
def Nf.relJ (b5 f bs g : Nat) (vo vs : Value) (x : Addr) (k : Nat) (y : Int) (B : Nat → Prop) (l : List Int) : List (Value → World → Prop) := [
  fun v _ => v = .pointer (some ⟨b5, f, none⟩),
  fun v _ => v = vo,
  fun v _ => v = .pointer (some ⟨bs, g, none⟩),
  fun v _ => v = vs,
  fun v _ => v = .int .i64 k,
  fun v _ => v = .pointer (some (x.add k)),
  fun v _ => v = .int .i64 y,
  fun v w => Nf.Row w B v l,
  fun v _ => v = .pointer (some ⟨b5, f, none⟩)]
theorem Nf.relJ_up (b5 f bs g : Nat) (vo vs : Value) (x : Addr) (k : Nat) (y : Int) (B : Nat → Prop) (l : List Int) : Rg.Ups (Nf.relJ b5 f bs g vo vs x k y B l) := by
  refine ⟨?_, ?_, ?_, ?_, ?_, ?_, ?_, ?_, ?_, trivial⟩
  all_goals intro v w w' h hb
  all_goals (first | exact h | exact Nf.Row.up h hb)
theorem Nf.join_ret {w0 : World} {b1 b2 b4 b5 : Nat} {p1 p2 q1 q2 : Value} {A1 A2 B1 B2 : List Int} {vo vr : Value} {lo lr : List Int} {u : World} {B : Nat → Prop} {x y : Value} (hx : x = vo) (hy : y = vr) (hB : ∀ k, w0.heap.size ≤ k → B k) (h : Nf.JW w0 b1 b2 b4 b5 p1 p2 q1 q2 A1 A2 B1 B2 vo vr lo lr u) : Nf.FPost w0 B lo lr (.returned (.agg #[x, y])) ((u.setCell ⟨b4, 0, none⟩ x).setCell ⟨b4, 1, none⟩ y) := by
  subst hx
  subst hy
  exact ⟨_, _, rfl, ((h.ro.set (fun e => e.2.1 rfl) _).set (fun e => e.2.1 rfl) _).mono (fun k hk => hB k hk.1), ((h.rr.set (fun e => e.2.1 rfl) _).set (fun e => e.2.1 rfl) _).mono (fun k hk => hB k hk.1), (h.bel.setCell h.n4 _).setCell h.n4 _⟩
set_option maxRecDepth 100000 in
set_option maxHeartbeats 8000000 in
theorem refJoin_any (A1 A2 B1 B2 : List Int) (p1 p2 q1 q2 : Value) (w0 : World) (h1 : Nf.Row w0 (fun _ => True) p1 A1) (h2 : Nf.Row w0 (fun _ => True) p2 A2) (h3 : Nf.Row w0 (fun _ => True) q1 B1) (h4 : Nf.Row w0 (fun _ => True) q2 B2) (l1 : A1.length ≤ 10000) (l2 : A2.length ≤ 10000) (l3 : B1.length ≤ 10000) (l4 : B2.length ≤ 10000) : Calls Try.prog 44 #[.agg #[p1, p2], .agg #[q1, q2]] w0 (Nf.FPost w0 (fun k => w0.heap.size ≤ k) (Nf.union A1 B1) (Nf.union A2 B2)) := by
  obtain ⟨m1, hA1⟩ : ∃ m, A1.length = m := ⟨_, rfl⟩
  obtain ⟨m3, hA2⟩ : ∃ m, A2.length = m := ⟨_, rfl⟩
  obtain ⟨m2, hB1⟩ : ∃ m, B1.length = m := ⟨_, rfl⟩
  obtain ⟨m4, hB2⟩ : ∃ m, B2.length = m := ⟨_, rfl⟩
  have HA1 := Lib.hid hA1; have HA2 := Lib.hid hA2; have HB1 := Lib.hid hB1; have HB2 := Lib.hid hB2
  rw [hA1] at l1; rw [hA2] at l2; rw [hB1] at l3; rw [hB2] at l4
  clear hA1 hA2 hB1 hB2
  obtain ⟨a1, n1, c1, rfl⟩ := h1.form
  obtain ⟨a2, n2, c2, rfl⟩ := h2.form
  obtain ⟨a3, n3, c3, rfl⟩ := h3.form
  obtain ⟨a4, n4, c4, rfl⟩ := h4.form
  have J : Nf.JW w0 w0.heap.size (w0.heap.size + 1) (w0.heap.size + 1 + 1) (w0.heap.size + 1 + 1 + 1) (.slice a1 n1 c1) (.slice a2 n2 c2) (.slice a3 n3 c3) (.slice a4 n4 c4) A1 A2 B1 B2 (.slice none 0 0) (.slice none 0 0) [] [] ((((w0.alloc (.cells #[.slice a1 n1 c1, .slice a2 n2 c2] 37)).alloc (.cells #[.slice a3 n3 c3, .slice a4 n4 c4] 37)).alloc (.cells #[.slice none 0 0, .slice none 0 0] 37)).alloc (.cells #[.slice none 0 0, .slice none 0 0] 37)) := by
    have X1 := Nf.fb_new w0 (.slice a1 n1 c1) (.slice a2 n2 c2) 37
    have D1 := Bs.below1 w0 (.cells #[.slice a1 n1 c1, .slice a2 n2 c2] 37)
    have s1 : (w0.alloc (.cells #[.slice a1 n1 c1, .slice a2 n2 c2] 37)).heap.size = w0.heap.size + 1 := by simp [go_sem]
    generalize w0.alloc (.cells #[.slice a1 n1 c1, .slice a2 n2 c2] 37) = u1 at *
    have X2 := Nf.fb_new u1 (.slice a3 n3 c3) (.slice a4 n4 c4) 37
    have D2 := Bs.below1 u1 (.cells #[.slice a3 n3 c3, .slice a4 n4 c4] 37)
    have s2 : (u1.alloc (.cells #[.slice a3 n3 c3, .slice a4 n4 c4] 37)).heap.size = w0.heap.size + 1 + 1 := by simp [go_sem, s1]
    rw [s1] at X2
    generalize u1.alloc (.cells #[.slice a3 n3 c3, .slice a4 n4 c4] 37) = u2 at *
    have X3 := Nf.fb_new u2 (.slice none 0 0) (.slice none 0 0) 37
    have D3 := Bs.below1 u2 (.cells #[.slice none 0 0, .slice none 0 0] 37)
    have s3 : (u2.alloc (.cells #[.slice none 0 0, .slice none 0 0] 37)).heap.size = w0.heap.size + 1 + 1 + 1 := by simp [go_sem, s2]
    rw [s2] at X3
    generalize u2.alloc (.cells #[.slice none 0 0, .slice none 0 0] 37) = u3 at *
    have X4 := Nf.fb_new u3 (.slice none 0 0) (.slice none 0 0) 37
    have D4 := Bs.below1 u3 (.cells #[.slice none 0 0, .slice none 0 0] 37)
    rw [s3] at X4
    generalize u3.alloc (.cells #[.slice none 0 0, .slice none 0 0] 37) = u4 at *
    have D := Bs.below_up (Bs.below_up (Bs.below_up D1 D2) D3) D4
    have hN : ∀ k, (True ∧ k < w0.heap.size) → k ≠ w0.heap.size + 1 + 1 ∧ k ≠ w0.heap.size + 1 + 1 + 1 := fun k hk => ⟨by omega, by omega⟩
    exact ⟨((X1.up D2).up D3).up D4, (X2.up D3).up D4, X3.up D4, X4, (h1.lt.up D).mono hN, (h2.lt.up D).mono hN, (h3.lt.up D).mono hN, (h4.lt.up D).mono hN, Nf.Own.row (Nf.own_nil (w0.heap.size + 4) _) (fun k hk => ⟨by omega, by omega, by omega⟩), Nf.Own.row (Nf.own_nil (w0.heap.size + 4) _) (fun k hk => ⟨by omega, by omega, by omega⟩), D, by omega, by omega, by omega, by omega, by omega⟩
  have HST6 := Lib.hid (show ([] : List Int).length ≤ 20000 by simp)
  clear h1 h2 h3 h4
  go_enter Try.func44, Try.ntmps44
  go_wp2_with fail
  generalize (((w0.alloc (.cells #[.slice a1 n1 c1, .slice a2 n2 c2] 37)).alloc (.cells #[.slice a3 n3 c3, .slice a4 n4 c4] 37)).alloc (.cells #[.slice none 0 0, .slice none 0 0] 37)).alloc (.cells #[.slice none 0 0, .slice none 0 0] 37) = U at *
  generalize hq1 : w0.heap.size = b1 at J ⊢
  have HQ1 := Lib.hid hq1
  have HW0 := Lib.hid (show ∀ k, w0.heap.size ≤ k → (fun k => w0.heap.size ≤ k) k from fun k h => h)
  clear hq1
  obtain ⟨b2, hb2⟩ : ∃ b2, b1 + 1 = b2 := ⟨_, rfl⟩
  obtain ⟨b4, hb4⟩ : ∃ b4, b2 + 1 = b4 := ⟨_, rfl⟩
  obtain ⟨b5, hb5⟩ : ∃ b5, b4 + 1 = b5 := ⟨_, rfl⟩
  rw [hb2, hb4, hb5] at J
  rw [hb2, hb4, hb5]
  clear hb2 hb4 hb5
  obtain ⟨p1, hp1⟩ : ∃ p1, p1 = Value.slice a1 n1 c1 := ⟨_, rfl⟩
  obtain ⟨p2, hp2⟩ : ∃ p2, p2 = Value.slice a2 n2 c2 := ⟨_, rfl⟩
  obtain ⟨q1, hq1⟩ : ∃ q1, q1 = Value.slice a3 n3 c3 := ⟨_, rfl⟩
  obtain ⟨q2, hq2⟩ : ∃ q2, q2 = Value.slice a4 n4 c4 := ⟨_, rfl⟩
  rw [← hp1, ← hp2, ← hq1, ← hq2] at J ⊢
  clear hp1 hp2 hq1 hq2
  go_loopw [6] (fun i wr => ∃ (k : Nat) (v9 : Value), k ≤ m1 ∧ i = .int .i64 k ∧ Nf.JW w0 b1 b2 b4 b5 p1 p2 q1 q2 A1 A2 B1 B2 v9 (.slice none 0 0) ((A1.take k).foldl Nf.put []) ([]) wr) (fun i _ => m1 - (intOf i).toNat)
  case atStart => exact ⟨0, _, by omega, rfl, J⟩
  case round =>
    clear J
    obtain ⟨k, v9, hk, rfl, J⟩ := hrel
    obtain ⟨a5, n5, c5, rfl⟩ := J.ro.form
    have c0 := J.f1.c0
    by_cases hlt : k < m1
    · have hlt' : k < A1.length := by rw [HA1.out]; exact hlt
      have hlen : ((A1.take k).foldl Nf.put []).length ≤ 100000 := by
        have h1 := Nf.foldl_len (A1.take k) []
        have h2 : (A1.take k).length ≤ 10000 := by rw [List.length_take, HA1.out]; omega
        have h3 := HST6.out
        omega
      have HT := Lib.hid (Nf.fold_take A1 [] k hlt')
      obtain ⟨ax, cx, ex, _, _, hsx, _⟩ := J.r1
      obtain ⟨x, ea, hx⟩ := hsx k hlt'
      subst ea
      rw [HA1.out] at ex
      have HEX := Lib.hid ex
      rw [ex] at c0
      obtain ⟨y, hy⟩ : ∃ y, A1[k] = y := ⟨_, rfl⟩
      have HY := Lib.hid hy
      have HT2 : Hid ((A1.take (k + 1)).foldl Nf.put [] = Nf.put ((A1.take k).foldl Nf.put []) y) := Lib.hid (by rw [HT.out, HY.out])
      have i1 : (0 : Int) ≤ (k : Int) := by omega
      have i2 : (k : Int) < (m1 : Int) := by omega
      clear hx hy hsx HT ex
      go_upto_region 5 with fail
      refine Rg.regionT (by kernel_rfl) (by kernel_rfl) (by kernel_rfl) (by decide) (Rg.rel (Nf.relJ b5 0 b1 0 (.slice a5 n5 c5) (.slice (some x) m1 cx) x k y (fun k => w0.heap.size ≤ k ∧ k ≠ b4 ∧ k ≠ b5) (Nf.put ((A1.take k).foldl Nf.put []) y))) (Nf.JW w0 b1 b2 b4 b5 p1 p2 q1 q2 A1 A2 B1 B2 (.slice a5 n5 c5) (.slice none 0 0) ((A1.take k).foldl Nf.put []) ([])) (fun w w' => Below w.heap.size w w') (fun i v w w' h _ hb => Rg.rel_up (Nf.relJ_up _ _ _ _ _ _ _ _ _ _ _) h hb) (J.up (Below.refl _ _).drew) ⟨?_, ?_, ?_, ?_, ?_, ?_, ?_, ?_, ?_, trivial⟩ ?_
      · intro fv u hw hd
        have HW := Lib.hid hw
        clear hw hd
        simp only [Rg.step, Rg.all, Act.put, List.setIfInBounds_toArray, List.set_cons_zero, List.set_cons_succ]
        go_simp
        first | exact ⟨rfl, HW.out, Below.refl _ _⟩ | exact ⟨HW.out, Below.refl _ _⟩
      · intro fv u hw hd
        have e0 : fv 0 = .pointer (some ⟨b5, 0, none⟩) := hd _ (List.mem_cons_self ..)
        have c0 := hw.f5.c0
        have HW := Lib.hid hw
        clear hw hd
        simp only [Rg.step, Rg.all, Act.put, List.setIfInBounds_toArray, List.set_cons_zero, List.set_cons_succ]
        go_simp
        first | exact ⟨rfl, HW.out, Below.refl _ _⟩ | exact ⟨HW.out, Below.refl _ _⟩
      · intro fv u hw hd
        have HW := Lib.hid hw
        clear hw hd
        simp only [Rg.step, Rg.all, Act.put, List.setIfInBounds_toArray, List.set_cons_zero, List.set_cons_succ]
        go_simp
        first | exact ⟨rfl, HW.out, Below.refl _ _⟩ | exact ⟨HW.out, Below.refl _ _⟩
      · intro fv u hw hd
        have e2 : fv 2 = .pointer (some ⟨b1, 0, none⟩) := hd _ (List.mem_cons_self ..)
        have c0 := hw.f1.c0
        rw [HEX.out] at c0
        have HW := Lib.hid hw
        clear hw hd
        simp only [Rg.step, Rg.all, Act.put, List.setIfInBounds_toArray, List.set_cons_zero, List.set_cons_succ]
        go_simp
        first | exact ⟨rfl, HW.out, Below.refl _ _⟩ | exact ⟨HW.out, Below.refl _ _⟩
      · intro fv u hw hd
        have HW := Lib.hid hw
        clear hw hd
        simp only [Rg.step, Rg.all, Act.put, List.setIfInBounds_toArray, List.set_cons_zero, List.set_cons_succ]
        go_simp
        first | exact ⟨rfl, HW.out, Below.refl _ _⟩ | exact ⟨HW.out, Below.refl _ _⟩
      · intro fv u hw hd
        have e3 : fv 3 = .slice (some x) m1 cx := hd _ (List.mem_cons_self ..)
        have e4 : fv 4 = .int .i64 k := hd _ (List.mem_cons_of_mem _ (List.mem_cons_self ..))
        have HW := Lib.hid hw
        clear hw hd
        simp only [Rg.step, Rg.all, Act.put, List.setIfInBounds_toArray, List.set_cons_zero, List.set_cons_succ]
        go_simp
        first | exact ⟨rfl, HW.out, Below.refl _ _⟩ | exact ⟨HW.out, Below.refl _ _⟩
      · intro fv u hw hd
        have e5 : fv 5 = .pointer (some (x.add k)) := hd _ (List.mem_cons_self ..)
        have hcx : u.cell? (x.add k) = some (.int .i64 y) := by
          obtain ⟨a9, c9, e9, _, _, h9, _⟩ := hw.r1
          rw [HEX.out] at e9
          injection e9 with e9
          subst e9
          obtain ⟨x9, e8, h8⟩ := h9 k hlt'
          injection e8 with e8
          subst e8
          rw [HY.out] at h8
          exact h8
        have HW := Lib.hid hw
        clear hw hd
        simp only [Rg.step, Rg.all, Act.put, List.setIfInBounds_toArray, List.set_cons_zero, List.set_cons_succ]
        go_simp
        first | exact ⟨rfl, HW.out, Below.refl _ _⟩ | exact ⟨HW.out, Below.refl _ _⟩
      · intro fv u hw hd
        have e1 : fv 1 = .slice a5 n5 c5 := hd _ (List.mem_cons_self ..)
        have e6 : fv 6 = .int .i64 y := hd _ (List.mem_cons_of_mem _ (List.mem_cons_self ..))
        have hsz := hw.f5.lt
        have hsz4 := hw.f4.lt
        have P := Lib.hid (refPut_any _ y _ u (fun k => w0.heap.size ≤ k ∧ k ≠ b4 ∧ k ≠ b5) (fun j hj => ⟨Nat.le_trans hw.bel.size hj, by omega, by omega⟩) hw.ro hlen)
        have HW := Lib.hid hw
        clear hw hd
        simp only [Rg.step, Rg.all, Act.put, List.setIfInBounds_toArray, List.set_cons_zero, List.set_cons_succ]
        go_simp
        refine P.out.mono ?_
        rintro e u1 ⟨v1, rfl, R1, hb1⟩
        exact ⟨_, rfl, R1, HW.out.up hb1, hb1⟩
      · intro fv u hw hd
        have HW := Lib.hid hw
        clear hw hd
        simp only [Rg.step, Rg.all, Act.put, List.setIfInBounds_toArray, List.set_cons_zero, List.set_cons_succ]
        go_simp
        first | exact ⟨rfl, HW.out, Below.refl _ _⟩ | exact ⟨HW.out, Below.refl _ _⟩
      · intro fv u hw hR o ho
        have r7 : Nf.Row u (fun k => w0.heap.size ≤ k ∧ k ≠ b4 ∧ k ≠ b5) (fv 7) (Nf.put ((A1.take k).foldl Nf.put []) y) := hR 7 (by decide)
        have r8 : fv 8 = .pointer (some ⟨b5, 0, none⟩) := hR 8 (by decide)
        simp at ho
        subst ho
        simp only [Rg.step, Rg.all, Act.put, List.setIfInBounds_toArray, List.set_cons_zero, List.set_cons_succ]
        obtain ⟨a7, n7, c7, e7⟩ := r7.form
        rw [e7] at r7
        have HR7 := Lib.hid (hw.put0 r7)
        have g0 := hw.f5.c0
        have g1 := hw.f5.z0
        clear hw hR r7
        go_simp
        go_wp2_with fail
        go_roundw
        case rel => exact ⟨k + 1, _, by omega, by go_num, by rw [HT2.out]; exact HR7.out⟩
        case measure => simp [intOf]; omega
    · have ht : A1.take k = A1 := List.take_of_length_le (by rw [HA1.out]; omega)
      rw [ht] at J
      clear ht
      obtain ⟨ax, cx, ex, _⟩ := J.r1
      rw [HA1.out] at ex
      rw [ex] at c0
      clear ex
      have e9 : decide ((k : Int) < (m1 : Int)) = false := decide_eq_false (by omega)
      have e8 : decide (k < m1) = false := decide_eq_false (by omega)
      have HST7 := Lib.hid (show (A1.foldl Nf.put []).length ≤ 20000 by have := Nf.foldl_len A1 []; rw [HA1.out] at this; simp at this; omega)

      go_wp2_with fail
      go_loopw [7] (fun i wr => ∃ (k : Nat) (v9 : Value), k ≤ m2 ∧ i = .int .i64 k ∧ Nf.JW w0 b1 b2 b4 b5 p1 p2 q1 q2 A1 A2 B1 B2 v9 (.slice none 0 0) ((B1.take k).foldl Nf.put (A1.foldl Nf.put [])) ([]) wr) (fun i _ => m2 - (intOf i).toNat)
      case atStart => exact ⟨0, _, by omega, rfl, J⟩
      case round =>
        clear J
        obtain ⟨k, v9, hk, rfl, J⟩ := hrel
        obtain ⟨a5, n5, c5, rfl⟩ := J.ro.form
        have c0 := J.f2.c0
        by_cases hlt : k < m2
        · have hlt' : k < B1.length := by rw [HB1.out]; exact hlt
          have hlen : ((B1.take k).foldl Nf.put (A1.foldl Nf.put [])).length ≤ 100000 := by
            have h1 := Nf.foldl_len (B1.take k) (A1.foldl Nf.put [])
            have h2 : (B1.take k).length ≤ 10000 := by rw [List.length_take, HB1.out]; omega
            have h3 := HST7.out
            omega
          have HT := Lib.hid (Nf.fold_take B1 (A1.foldl Nf.put []) k hlt')
          obtain ⟨ax, cx, ex, _, _, hsx, _⟩ := J.r3
          obtain ⟨x, ea, hx⟩ := hsx k hlt'
          subst ea
          rw [HB1.out] at ex
          have HEX := Lib.hid ex
          rw [ex] at c0
          obtain ⟨y, hy⟩ : ∃ y, B1[k] = y := ⟨_, rfl⟩
          have HY := Lib.hid hy
          have HT2 : Hid ((B1.take (k + 1)).foldl Nf.put (A1.foldl Nf.put []) = Nf.put ((B1.take k).foldl Nf.put (A1.foldl Nf.put [])) y) := Lib.hid (by rw [HT.out, HY.out])
          have i1 : (0 : Int) ≤ (k : Int) := by omega
          have i2 : (k : Int) < (m2 : Int) := by omega
          clear hx hy hsx HT ex
          go_upto_region 9 with fail
          refine Rg.regionT (by kernel_rfl) (by kernel_rfl) (by kernel_rfl) (by decide) (Rg.rel (Nf.relJ b5 0 b2 0 (.slice a5 n5 c5) (.slice (some x) m2 cx) x k y (fun k => w0.heap.size ≤ k ∧ k ≠ b4 ∧ k ≠ b5) (Nf.put ((B1.take k).foldl Nf.put (A1.foldl Nf.put [])) y))) (Nf.JW w0 b1 b2 b4 b5 p1 p2 q1 q2 A1 A2 B1 B2 (.slice a5 n5 c5) (.slice none 0 0) ((B1.take k).foldl Nf.put (A1.foldl Nf.put [])) ([])) (fun w w' => Below w.heap.size w w') (fun i v w w' h _ hb => Rg.rel_up (Nf.relJ_up _ _ _ _ _ _ _ _ _ _ _) h hb) (J.up (Below.refl _ _).drew) ⟨?_, ?_, ?_, ?_, ?_, ?_, ?_, ?_, ?_, trivial⟩ ?_
          · intro fv u hw hd
            have HW := Lib.hid hw
            clear hw hd
            simp only [Rg.step, Rg.all, Act.put, List.setIfInBounds_toArray, List.set_cons_zero, List.set_cons_succ]
            go_simp
            first | exact ⟨rfl, HW.out, Below.refl _ _⟩ | exact ⟨HW.out, Below.refl _ _⟩
          · intro fv u hw hd
            have e0 : fv 0 = .pointer (some ⟨b5, 0, none⟩) := hd _ (List.mem_cons_self ..)
            have c0 := hw.f5.c0
            have HW := Lib.hid hw
            clear hw hd
            simp only [Rg.step, Rg.all, Act.put, List.setIfInBounds_toArray, List.set_cons_zero, List.set_cons_succ]
            go_simp
            first | exact ⟨rfl, HW.out, Below.refl _ _⟩ | exact ⟨HW.out, Below.refl _ _⟩
          · intro fv u hw hd
            have HW := Lib.hid hw
            clear hw hd
            simp only [Rg.step, Rg.all, Act.put, List.setIfInBounds_toArray, List.set_cons_zero, List.set_cons_succ]
            go_simp
            first | exact ⟨rfl, HW.out, Below.refl _ _⟩ | exact ⟨HW.out, Below.refl _ _⟩
          · intro fv u hw hd
            have e2 : fv 2 = .pointer (some ⟨b2, 0, none⟩) := hd _ (List.mem_cons_self ..)
            have c0 := hw.f2.c0
            rw [HEX.out] at c0
            have HW := Lib.hid hw
            clear hw hd
            simp only [Rg.step, Rg.all, Act.put, List.setIfInBounds_toArray, List.set_cons_zero, List.set_cons_succ]
            go_simp
            first | exact ⟨rfl, HW.out, Below.refl _ _⟩ | exact ⟨HW.out, Below.refl _ _⟩
          · intro fv u hw hd
            have HW := Lib.hid hw
            clear hw hd
            simp only [Rg.step, Rg.all, Act.put, List.setIfInBounds_toArray, List.set_cons_zero, List.set_cons_succ]
            go_simp
            first | exact ⟨rfl, HW.out, Below.refl _ _⟩ | exact ⟨HW.out, Below.refl _ _⟩
          · intro fv u hw hd
            have e3 : fv 3 = .slice (some x) m2 cx := hd _ (List.mem_cons_self ..)
            have e4 : fv 4 = .int .i64 k := hd _ (List.mem_cons_of_mem _ (List.mem_cons_self ..))
            have HW := Lib.hid hw
            clear hw hd
            simp only [Rg.step, Rg.all, Act.put, List.setIfInBounds_toArray, List.set_cons_zero, List.set_cons_succ]
            go_simp
            first | exact ⟨rfl, HW.out, Below.refl _ _⟩ | exact ⟨HW.out, Below.refl _ _⟩
          · intro fv u hw hd
            have e5 : fv 5 = .pointer (some (x.add k)) := hd _ (List.mem_cons_self ..)
            have hcx : u.cell? (x.add k) = some (.int .i64 y) := by
              obtain ⟨a9, c9, e9, _, _, h9, _⟩ := hw.r3
              rw [HEX.out] at e9
              injection e9 with e9
              subst e9
              obtain ⟨x9, e8, h8⟩ := h9 k hlt'
              injection e8 with e8
              subst e8
              rw [HY.out] at h8
              exact h8
            have HW := Lib.hid hw
            clear hw hd
            simp only [Rg.step, Rg.all, Act.put, List.setIfInBounds_toArray, List.set_cons_zero, List.set_cons_succ]
            go_simp
            first | exact ⟨rfl, HW.out, Below.refl _ _⟩ | exact ⟨HW.out, Below.refl _ _⟩
          · intro fv u hw hd
            have e1 : fv 1 = .slice a5 n5 c5 := hd _ (List.mem_cons_self ..)
            have e6 : fv 6 = .int .i64 y := hd _ (List.mem_cons_of_mem _ (List.mem_cons_self ..))
            have hsz := hw.f5.lt
            have hsz4 := hw.f4.lt
            have P := Lib.hid (refPut_any _ y _ u (fun k => w0.heap.size ≤ k ∧ k ≠ b4 ∧ k ≠ b5) (fun j hj => ⟨Nat.le_trans hw.bel.size hj, by omega, by omega⟩) hw.ro hlen)
            have HW := Lib.hid hw
            clear hw hd
            simp only [Rg.step, Rg.all, Act.put, List.setIfInBounds_toArray, List.set_cons_zero, List.set_cons_succ]
            go_simp
            refine P.out.mono ?_
            rintro e u1 ⟨v1, rfl, R1, hb1⟩
            exact ⟨_, rfl, R1, HW.out.up hb1, hb1⟩
          · intro fv u hw hd
            have HW := Lib.hid hw
            clear hw hd
            simp only [Rg.step, Rg.all, Act.put, List.setIfInBounds_toArray, List.set_cons_zero, List.set_cons_succ]
            go_simp
            first | exact ⟨rfl, HW.out, Below.refl _ _⟩ | exact ⟨HW.out, Below.refl _ _⟩
          · intro fv u hw hR o ho
            have r7 : Nf.Row u (fun k => w0.heap.size ≤ k ∧ k ≠ b4 ∧ k ≠ b5) (fv 7) (Nf.put ((B1.take k).foldl Nf.put (A1.foldl Nf.put [])) y) := hR 7 (by decide)
            have r8 : fv 8 = .pointer (some ⟨b5, 0, none⟩) := hR 8 (by decide)
            simp at ho
            subst ho
            simp only [Rg.step, Rg.all, Act.put, List.setIfInBounds_toArray, List.set_cons_zero, List.set_cons_succ]
            obtain ⟨a7, n7, c7, e7⟩ := r7.form
            rw [e7] at r7
            have HR7 := Lib.hid (hw.put0 r7)
            have g0 := hw.f5.c0
            have g1 := hw.f5.z0
            clear hw hR r7
            go_simp
            go_wp2_with fail
            go_roundw
            case rel => exact ⟨k + 1, _, by omega, by go_num, by rw [HT2.out]; exact HR7.out⟩
            case measure => simp [intOf]; omega
        · have ht : B1.take k = B1 := List.take_of_length_le (by rw [HB1.out]; omega)
          rw [ht] at J
          clear ht
          obtain ⟨ax, cx, ex, _⟩ := J.r3
          rw [HB1.out] at ex
          rw [ex] at c0
          clear ex
          have e9 : decide ((k : Int) < (m2 : Int)) = false := decide_eq_false (by omega)
          have e8 : decide (k < m2) = false := decide_eq_false (by omega)
          have HST8 := Lib.hid (show ([] : List Int).length ≤ 20000 by simp)
          obtain ⟨VO, hVO⟩ : ∃ VO, VO = Value.slice a5 n5 c5 := ⟨_, rfl⟩
          obtain ⟨LO, hLO⟩ : ∃ LO, LO = B1.foldl Nf.put (A1.foldl Nf.put []) := ⟨_, rfl⟩
          have HLO := Lib.hid hLO
          rw [← hVO, ← hLO] at J
          clear hVO hLO a5 n5 c5

          go_wp2_with fail
          go_loopw [8] (fun i wr => ∃ (k : Nat) (v9 : Value), k ≤ m3 ∧ i = .int .i64 k ∧ Nf.JW w0 b1 b2 b4 b5 p1 p2 q1 q2 A1 A2 B1 B2 (VO) v9 (LO) ((A2.take k).foldl Nf.put []) wr) (fun i _ => m3 - (intOf i).toNat)
          case atStart => exact ⟨0, _, by omega, rfl, J⟩
          case round =>
            clear J
            obtain ⟨k, v9, hk, rfl, J⟩ := hrel
            obtain ⟨a5, n5, c5, rfl⟩ := J.rr.form
            have c0 := J.f1.c1
            by_cases hlt : k < m3
            · have hlt' : k < A2.length := by rw [HA2.out]; exact hlt
              have hlen : ((A2.take k).foldl Nf.put []).length ≤ 100000 := by
                have h1 := Nf.foldl_len (A2.take k) []
                have h2 : (A2.take k).length ≤ 10000 := by rw [List.length_take, HA2.out]; omega
                have h3 := HST8.out
                omega
              have HT := Lib.hid (Nf.fold_take A2 [] k hlt')
              obtain ⟨ax, cx, ex, _, _, hsx, _⟩ := J.r2
              obtain ⟨x, ea, hx⟩ := hsx k hlt'
              subst ea
              rw [HA2.out] at ex
              have HEX := Lib.hid ex
              rw [ex] at c0
              obtain ⟨y, hy⟩ : ∃ y, A2[k] = y := ⟨_, rfl⟩
              have HY := Lib.hid hy
              have HT2 : Hid ((A2.take (k + 1)).foldl Nf.put [] = Nf.put ((A2.take k).foldl Nf.put []) y) := Lib.hid (by rw [HT.out, HY.out])
              have i1 : (0 : Int) ≤ (k : Int) := by omega
              have i2 : (k : Int) < (m3 : Int) := by omega
              clear hx hy hsx HT ex
              go_upto_region 13 with fail
              refine Rg.regionT (by kernel_rfl) (by kernel_rfl) (by kernel_rfl) (by decide) (Rg.rel (Nf.relJ b5 1 b1 1 (.slice a5 n5 c5) (.slice (some x) m3 cx) x k y (fun k => w0.heap.size ≤ k ∧ k ≠ b4 ∧ k ≠ b5) (Nf.put ((A2.take k).foldl Nf.put []) y))) (Nf.JW w0 b1 b2 b4 b5 p1 p2 q1 q2 A1 A2 B1 B2 (VO) (.slice a5 n5 c5) (LO) ((A2.take k).foldl Nf.put [])) (fun w w' => Below w.heap.size w w') (fun i v w w' h _ hb => Rg.rel_up (Nf.relJ_up _ _ _ _ _ _ _ _ _ _ _) h hb) (J.up (Below.refl _ _).drew) ⟨?_, ?_, ?_, ?_, ?_, ?_, ?_, ?_, ?_, trivial⟩ ?_
              · intro fv u hw hd
                have HW := Lib.hid hw
                clear hw hd
                simp only [Rg.step, Rg.all, Act.put, List.setIfInBounds_toArray, List.set_cons_zero, List.set_cons_succ]
                go_simp
                first | exact ⟨rfl, HW.out, Below.refl _ _⟩ | exact ⟨HW.out, Below.refl _ _⟩
              · intro fv u hw hd
                have e0 : fv 0 = .pointer (some ⟨b5, 1, none⟩) := hd _ (List.mem_cons_self ..)
                have c0 := hw.f5.c1
                have HW := Lib.hid hw
                clear hw hd
                simp only [Rg.step, Rg.all, Act.put, List.setIfInBounds_toArray, List.set_cons_zero, List.set_cons_succ]
                go_simp
                first | exact ⟨rfl, HW.out, Below.refl _ _⟩ | exact ⟨HW.out, Below.refl _ _⟩
              · intro fv u hw hd
                have HW := Lib.hid hw
                clear hw hd
                simp only [Rg.step, Rg.all, Act.put, List.setIfInBounds_toArray, List.set_cons_zero, List.set_cons_succ]
                go_simp
                first | exact ⟨rfl, HW.out, Below.refl _ _⟩ | exact ⟨HW.out, Below.refl _ _⟩
              · intro fv u hw hd
                have e2 : fv 2 = .pointer (some ⟨b1, 1, none⟩) := hd _ (List.mem_cons_self ..)
                have c0 := hw.f1.c1
                rw [HEX.out] at c0
                have HW := Lib.hid hw
                clear hw hd
                simp only [Rg.step, Rg.all, Act.put, List.setIfInBounds_toArray, List.set_cons_zero, List.set_cons_succ]
                go_simp
                first | exact ⟨rfl, HW.out, Below.refl _ _⟩ | exact ⟨HW.out, Below.refl _ _⟩
              · intro fv u hw hd
                have HW := Lib.hid hw
                clear hw hd
                simp only [Rg.step, Rg.all, Act.put, List.setIfInBounds_toArray, List.set_cons_zero, List.set_cons_succ]
                go_simp
                first | exact ⟨rfl, HW.out, Below.refl _ _⟩ | exact ⟨HW.out, Below.refl _ _⟩
              · intro fv u hw hd
                have e3 : fv 3 = .slice (some x) m3 cx := hd _ (List.mem_cons_self ..)
                have e4 : fv 4 = .int .i64 k := hd _ (List.mem_cons_of_mem _ (List.mem_cons_self ..))
                have HW := Lib.hid hw
                clear hw hd
                simp only [Rg.step, Rg.all, Act.put, List.setIfInBounds_toArray, List.set_cons_zero, List.set_cons_succ]
                go_simp
                first | exact ⟨rfl, HW.out, Below.refl _ _⟩ | exact ⟨HW.out, Below.refl _ _⟩
              · intro fv u hw hd
                have e5 : fv 5 = .pointer (some (x.add k)) := hd _ (List.mem_cons_self ..)
                have hcx : u.cell? (x.add k) = some (.int .i64 y) := by
                  obtain ⟨a9, c9, e9, _, _, h9, _⟩ := hw.r2
                  rw [HEX.out] at e9
                  injection e9 with e9
                  subst e9
                  obtain ⟨x9, e8, h8⟩ := h9 k hlt'
                  injection e8 with e8
                  subst e8
                  rw [HY.out] at h8
                  exact h8
                have HW := Lib.hid hw
                clear hw hd
                simp only [Rg.step, Rg.all, Act.put, List.setIfInBounds_toArray, List.set_cons_zero, List.set_cons_succ]
                go_simp
                first | exact ⟨rfl, HW.out, Below.refl _ _⟩ | exact ⟨HW.out, Below.refl _ _⟩
              · intro fv u hw hd
                have e1 : fv 1 = .slice a5 n5 c5 := hd _ (List.mem_cons_self ..)
                have e6 : fv 6 = .int .i64 y := hd _ (List.mem_cons_of_mem _ (List.mem_cons_self ..))
                have hsz := hw.f5.lt
                have hsz4 := hw.f4.lt
                have P := Lib.hid (refPut_any _ y _ u (fun k => w0.heap.size ≤ k ∧ k ≠ b4 ∧ k ≠ b5) (fun j hj => ⟨Nat.le_trans hw.bel.size hj, by omega, by omega⟩) hw.rr hlen)
                have HW := Lib.hid hw
                clear hw hd
                simp only [Rg.step, Rg.all, Act.put, List.setIfInBounds_toArray, List.set_cons_zero, List.set_cons_succ]
                go_simp
                refine P.out.mono ?_
                rintro e u1 ⟨v1, rfl, R1, hb1⟩
                exact ⟨_, rfl, R1, HW.out.up hb1, hb1⟩
              · intro fv u hw hd
                have HW := Lib.hid hw
                clear hw hd
                simp only [Rg.step, Rg.all, Act.put, List.setIfInBounds_toArray, List.set_cons_zero, List.set_cons_succ]
                go_simp
                first | exact ⟨rfl, HW.out, Below.refl _ _⟩ | exact ⟨HW.out, Below.refl _ _⟩
              · intro fv u hw hR o ho
                have r7 : Nf.Row u (fun k => w0.heap.size ≤ k ∧ k ≠ b4 ∧ k ≠ b5) (fv 7) (Nf.put ((A2.take k).foldl Nf.put []) y) := hR 7 (by decide)
                have r8 : fv 8 = .pointer (some ⟨b5, 1, none⟩) := hR 8 (by decide)
                simp at ho
                subst ho
                simp only [Rg.step, Rg.all, Act.put, List.setIfInBounds_toArray, List.set_cons_zero, List.set_cons_succ]
                obtain ⟨a7, n7, c7, e7⟩ := r7.form
                rw [e7] at r7
                have HR7 := Lib.hid (hw.put1 r7)
                have g0 := hw.f5.c1
                have g1 := hw.f5.z1
                clear hw hR r7
                go_simp
                go_wp2_with fail
                go_roundw
                case rel => exact ⟨k + 1, _, by omega, by go_num, by rw [HT2.out]; exact HR7.out⟩
                case measure => simp [intOf]; omega
            · have ht : A2.take k = A2 := List.take_of_length_le (by rw [HA2.out]; omega)
              rw [ht] at J
              clear ht
              obtain ⟨ax, cx, ex, _⟩ := J.r2
              rw [HA2.out] at ex
              rw [ex] at c0
              clear ex
              have e9 : decide ((k : Int) < (m3 : Int)) = false := decide_eq_false (by omega)
              have e8 : decide (k < m3) = false := decide_eq_false (by omega)
              have HST9 := Lib.hid (show (A2.foldl Nf.put []).length ≤ 20000 by have := Nf.foldl_len A2 []; rw [HA2.out] at this; simp at this; omega)

              go_wp2_with fail
              go_loopw [9] (fun i wr => ∃ (k : Nat) (v9 : Value), k ≤ m4 ∧ i = .int .i64 k ∧ Nf.JW w0 b1 b2 b4 b5 p1 p2 q1 q2 A1 A2 B1 B2 (VO) v9 (LO) ((B2.take k).foldl Nf.put (A2.foldl Nf.put [])) wr) (fun i _ => m4 - (intOf i).toNat)
              case atStart => exact ⟨0, _, by omega, rfl, J⟩
              case round =>
                clear J
                obtain ⟨k, v9, hk, rfl, J⟩ := hrel
                obtain ⟨a5, n5, c5, rfl⟩ := J.rr.form
                have c0 := J.f2.c1
                by_cases hlt : k < m4
                · have hlt' : k < B2.length := by rw [HB2.out]; exact hlt
                  have hlen : ((B2.take k).foldl Nf.put (A2.foldl Nf.put [])).length ≤ 100000 := by
                    have h1 := Nf.foldl_len (B2.take k) (A2.foldl Nf.put [])
                    have h2 : (B2.take k).length ≤ 10000 := by rw [List.length_take, HB2.out]; omega
                    have h3 := HST9.out
                    omega
                  have HT := Lib.hid (Nf.fold_take B2 (A2.foldl Nf.put []) k hlt')
                  obtain ⟨ax, cx, ex, _, _, hsx, _⟩ := J.r4
                  obtain ⟨x, ea, hx⟩ := hsx k hlt'
                  subst ea
                  rw [HB2.out] at ex
                  have HEX := Lib.hid ex
                  rw [ex] at c0
                  obtain ⟨y, hy⟩ : ∃ y, B2[k] = y := ⟨_, rfl⟩
                  have HY := Lib.hid hy
                  have HT2 : Hid ((B2.take (k + 1)).foldl Nf.put (A2.foldl Nf.put []) = Nf.put ((B2.take k).foldl Nf.put (A2.foldl Nf.put [])) y) := Lib.hid (by rw [HT.out, HY.out])
                  have i1 : (0 : Int) ≤ (k : Int) := by omega
                  have i2 : (k : Int) < (m4 : Int) := by omega
                  clear hx hy hsx HT ex
                  go_upto_region 17 with fail
                  refine Rg.regionT (by kernel_rfl) (by kernel_rfl) (by kernel_rfl) (by decide) (Rg.rel (Nf.relJ b5 1 b2 1 (.slice a5 n5 c5) (.slice (some x) m4 cx) x k y (fun k => w0.heap.size ≤ k ∧ k ≠ b4 ∧ k ≠ b5) (Nf.put ((B2.take k).foldl Nf.put (A2.foldl Nf.put [])) y))) (Nf.JW w0 b1 b2 b4 b5 p1 p2 q1 q2 A1 A2 B1 B2 (VO) (.slice a5 n5 c5) (LO) ((B2.take k).foldl Nf.put (A2.foldl Nf.put []))) (fun w w' => Below w.heap.size w w') (fun i v w w' h _ hb => Rg.rel_up (Nf.relJ_up _ _ _ _ _ _ _ _ _ _ _) h hb) (J.up (Below.refl _ _).drew) ⟨?_, ?_, ?_, ?_, ?_, ?_, ?_, ?_, ?_, trivial⟩ ?_
                  · intro fv u hw hd
                    have HW := Lib.hid hw
                    clear hw hd
                    simp only [Rg.step, Rg.all, Act.put, List.setIfInBounds_toArray, List.set_cons_zero, List.set_cons_succ]
                    go_simp
                    first | exact ⟨rfl, HW.out, Below.refl _ _⟩ | exact ⟨HW.out, Below.refl _ _⟩
                  · intro fv u hw hd
                    have e0 : fv 0 = .pointer (some ⟨b5, 1, none⟩) := hd _ (List.mem_cons_self ..)
                    have c0 := hw.f5.c1
                    have HW := Lib.hid hw
                    clear hw hd
                    simp only [Rg.step, Rg.all, Act.put, List.setIfInBounds_toArray, List.set_cons_zero, List.set_cons_succ]
                    go_simp
                    first | exact ⟨rfl, HW.out, Below.refl _ _⟩ | exact ⟨HW.out, Below.refl _ _⟩
                  · intro fv u hw hd
                    have HW := Lib.hid hw
                    clear hw hd
                    simp only [Rg.step, Rg.all, Act.put, List.setIfInBounds_toArray, List.set_cons_zero, List.set_cons_succ]
                    go_simp
                    first | exact ⟨rfl, HW.out, Below.refl _ _⟩ | exact ⟨HW.out, Below.refl _ _⟩
                  · intro fv u hw hd
                    have e2 : fv 2 = .pointer (some ⟨b2, 1, none⟩) := hd _ (List.mem_cons_self ..)
                    have c0 := hw.f2.c1
                    rw [HEX.out] at c0
                    have HW := Lib.hid hw
                    clear hw hd
                    simp only [Rg.step, Rg.all, Act.put, List.setIfInBounds_toArray, List.set_cons_zero, List.set_cons_succ]
                    go_simp
                    first | exact ⟨rfl, HW.out, Below.refl _ _⟩ | exact ⟨HW.out, Below.refl _ _⟩
                  · intro fv u hw hd
                    have HW := Lib.hid hw
                    clear hw hd
                    simp only [Rg.step, Rg.all, Act.put, List.setIfInBounds_toArray, List.set_cons_zero, List.set_cons_succ]
                    go_simp
                    first | exact ⟨rfl, HW.out, Below.refl _ _⟩ | exact ⟨HW.out, Below.refl _ _⟩
                  · intro fv u hw hd
                    have e3 : fv 3 = .slice (some x) m4 cx := hd _ (List.mem_cons_self ..)
                    have e4 : fv 4 = .int .i64 k := hd _ (List.mem_cons_of_mem _ (List.mem_cons_self ..))
                    have HW := Lib.hid hw
                    clear hw hd
                    simp only [Rg.step, Rg.all, Act.put, List.setIfInBounds_toArray, List.set_cons_zero, List.set_cons_succ]
                    go_simp
                    first | exact ⟨rfl, HW.out, Below.refl _ _⟩ | exact ⟨HW.out, Below.refl _ _⟩
                  · intro fv u hw hd
                    have e5 : fv 5 = .pointer (some (x.add k)) := hd _ (List.mem_cons_self ..)
                    have hcx : u.cell? (x.add k) = some (.int .i64 y) := by
                      obtain ⟨a9, c9, e9, _, _, h9, _⟩ := hw.r4
                      rw [HEX.out] at e9
                      injection e9 with e9
                      subst e9
                      obtain ⟨x9, e8, h8⟩ := h9 k hlt'
                      injection e8 with e8
                      subst e8
                      rw [HY.out] at h8
                      exact h8
                    have HW := Lib.hid hw
                    clear hw hd
                    simp only [Rg.step, Rg.all, Act.put, List.setIfInBounds_toArray, List.set_cons_zero, List.set_cons_succ]
                    go_simp
                    first | exact ⟨rfl, HW.out, Below.refl _ _⟩ | exact ⟨HW.out, Below.refl _ _⟩
                  · intro fv u hw hd
                    have e1 : fv 1 = .slice a5 n5 c5 := hd _ (List.mem_cons_self ..)
                    have e6 : fv 6 = .int .i64 y := hd _ (List.mem_cons_of_mem _ (List.mem_cons_self ..))
                    have hsz := hw.f5.lt
                    have hsz4 := hw.f4.lt
                    have P := Lib.hid (refPut_any _ y _ u (fun k => w0.heap.size ≤ k ∧ k ≠ b4 ∧ k ≠ b5) (fun j hj => ⟨Nat.le_trans hw.bel.size hj, by omega, by omega⟩) hw.rr hlen)
                    have HW := Lib.hid hw
                    clear hw hd
                    simp only [Rg.step, Rg.all, Act.put, List.setIfInBounds_toArray, List.set_cons_zero, List.set_cons_succ]
                    go_simp
                    refine P.out.mono ?_
                    rintro e u1 ⟨v1, rfl, R1, hb1⟩
                    exact ⟨_, rfl, R1, HW.out.up hb1, hb1⟩
                  · intro fv u hw hd
                    have HW := Lib.hid hw
                    clear hw hd
                    simp only [Rg.step, Rg.all, Act.put, List.setIfInBounds_toArray, List.set_cons_zero, List.set_cons_succ]
                    go_simp
                    first | exact ⟨rfl, HW.out, Below.refl _ _⟩ | exact ⟨HW.out, Below.refl _ _⟩
                  · intro fv u hw hR o ho
                    have r7 : Nf.Row u (fun k => w0.heap.size ≤ k ∧ k ≠ b4 ∧ k ≠ b5) (fv 7) (Nf.put ((B2.take k).foldl Nf.put (A2.foldl Nf.put [])) y) := hR 7 (by decide)
                    have r8 : fv 8 = .pointer (some ⟨b5, 1, none⟩) := hR 8 (by decide)
                    simp at ho
                    subst ho
                    simp only [Rg.step, Rg.all, Act.put, List.setIfInBounds_toArray, List.set_cons_zero, List.set_cons_succ]
                    obtain ⟨a7, n7, c7, e7⟩ := r7.form
                    rw [e7] at r7
                    have HR7 := Lib.hid (hw.put1 r7)
                    have g0 := hw.f5.c1
                    have g1 := hw.f5.z1
                    clear hw hR r7
                    go_simp
                    go_wp2_with fail
                    go_roundw
                    case rel => exact ⟨k + 1, _, by omega, by go_num, by rw [HT2.out]; exact HR7.out⟩
                    case measure => simp [intOf]; omega
                · have ht : B2.take k = B2 := List.take_of_length_le (by rw [HB2.out]; omega)
                  rw [ht] at J
                  clear ht
                  obtain ⟨ax, cx, ex, _⟩ := J.r4
                  rw [HB2.out] at ex
                  rw [ex] at c0
                  clear ex
                  have e9 : decide ((k : Int) < (m4 : Int)) = false := decide_eq_false (by omega)
                  have e8 : decide (k < m4) = false := decide_eq_false (by omega)
                  have HFIN := Lib.hid J
                  have g0 := J.f5.c0; have g1 := J.f5.c1
                  have h0 := J.f4.c0; have h1 := J.f4.c1
                  have y0 := J.f4.z0; have y1 := J.f4.z1
                  clear J
                  obtain ⟨aV, nV, cV, hV⟩ := HFIN.out.ro.form
                  rw [hV] at g0
                  have HV := Lib.hid hV
                  clear hV
                  go_wp2_with fail
                  refine bodyPost_ret (v := .agg #[.slice aV nV cV, .slice a5 n5 c5]) (by simp [results, Try.results44, go_sem, h0, h1]) rfl ?_
                  have R9 := Nf.join_ret HV.out.symm rfl HW0.out HFIN.out
                  rw [HLO.out] at R9
                  exact R9
end Go.Proofs.Ytnbbepgjpfhjdaa
