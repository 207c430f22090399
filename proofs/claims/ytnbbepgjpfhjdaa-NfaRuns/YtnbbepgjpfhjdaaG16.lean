/- A region that draws its order, whose world and answers hang on which operations are done, and on something of one's own that is kept beside (which blocks were made): plain. What the document's of hands back: parts in memory; its drawn regions. A region of the document's of: two calls whose answers go into two new blocks, in an open order. What the document's of keeps while what follows is put together: facts about worlds. -/
import Derived.Test.YtnbbepgjpfhjdaaG15
namespace Go.Proofs.Ytnbbepgjpfhjdaa
set_option linter.unusedVariables false
set_option linter.unusedSimpArgs false
def Rg.StepsY {γ : Type} (P : Program) (Rel : γ → Nat → Value → World → Prop) (W : γ → (Nat → Bool) → World → Prop) (M : Nat → γ → World → γ → World → Prop) (ρ : (Nat → Value) → Operand → Value) : List Oper → Nat → Prop
  | [], _ => True
  | o :: r, i => (∀ (g : γ) (L : Nat → Bool) (f : Nat → Value) (w : World), L i = false → W g L w → (∀ e ∈ o.after.toList, Region.binds .any e = true → L e.on = true ∧ Rel g e.on (f e.on) w) → Rg.step P (ρ f) o w fun v w' => ∃ g', Rel g' i v w' ∧ W g' (fun k => if k = i then true else L k) w' ∧ M i g w g' w') ∧ Rg.StepsY P Rel W M ρ r (i + 1)
theorem Rg.StepsY.get {γ : Type} {P : Program} {Rel : γ → Nat → Value → World → Prop} {W : γ → (Nat → Bool) → World → Prop} {M : Nat → γ → World → γ → World → Prop} {ρ : (Nat → Value) → Operand → Value} : ∀ {l : List Oper} {i : Nat}, Rg.StepsY P Rel W M ρ l i → ∀ j o, l[j]? = some o → ∀ (g : γ) (L : Nat → Bool) (f : Nat → Value) (w : World), L (i + j) = false → W g L w → (∀ e ∈ o.after.toList, Region.binds .any e = true → L e.on = true ∧ Rel g e.on (f e.on) w) → Rg.step P (ρ f) o w fun v w' => ∃ g', Rel g' (i + j) v w' ∧ W g' (fun k => if k = i + j then true else L k) w' ∧ M (i + j) g w g' w'
  | [], _, _, j, o, h => by simp at h
  | o' :: r, i, hs, j, o, h => by
    cases j with
    | zero => simp at h; subst h; exact hs.1
    | succ j =>
      have := Rg.StepsY.get hs.2 j o (by simpa using h)
      rwa [show i + 1 + j = i + (j + 1) by omega] at this
theorem Rg.regionY {γ : Type} {P : Program} {ops : Array Oper} {Q : Exit → Act → World → Prop} {id : Nat} {a : Act} {w : World} (hm : P.follows .mixedOrders = true) (ht : Rg.textW ops = true)
    (Rel : γ → Nat → Value → World → Prop) (W : γ → (Nat → Bool) → World → Prop) (M : Nat → γ → World → γ → World → Prop) (g0 : γ)
    (hM : ∀ i j v g w g' w', j ≠ i → Rel g j v w → M i g w g' w' → Rel g' j v w') (hW : W g0 (fun _ => false) w.drew)
    (hs : Rg.StepsY P Rel W M (fun f => (Rg.all f ops.toList 0 a).eval) ops.toList 0)
    (he : ∀ (g : γ) (L : Nat → Bool) (f : Nat → Value) (w : World), (∀ i, i < ops.size → L i = true) → W g L w → (∀ i, i < ops.size → Rel g i (f i) w) → Q .normal (Rg.all f ops.toList 0 a) w) : (Code.region id ops true).wp P Q a w := by
  refine wp_region_any hm ?_
  have key : ∀ (n : Nat) (g : γ) (listed : Array Bool) (f : Nat → Value) (w : World), listed.size = ops.size → ((List.range ops.size).countP fun i => !listed.getD i false) ≤ n → W g (fun i => listed.getD i false) w → (∀ i, listed.getD i false = true → Rel g i (f i) w) → wpAny P .any ops Q n listed (Rg.put (fun i => listed.getD i false) f ops.toList 0 a) w := by
    have done : ∀ (g : γ) (listed : Array Bool) (f : Nat → Value) (w : World), listed.size = ops.size → Region.ready .any ops listed = [] → W g (fun i => listed.getD i false) w → (∀ i, listed.getD i false = true → Rel g i (f i) w) → Q .normal (Rg.put (fun i => listed.getD i false) f ops.toList 0 a) w := by
      intro g listed f w hsz hr hw hR
      have hall : ∀ i, i < ops.size → listed.getD i false = true := by
        intro i
        induction i using Nat.strongRecOn with
        | _ i ih =>
          intro hi
          by_cases hl : listed.getD i false = true
          · exact hl
          · have ho : ops[i]? = some ops[i] := by simp [hi]
            have hmem : i ∈ Region.ready .any ops listed := mem_ready.2 ⟨by
              rw [Array.getD_eq_getD_getElem?] at hl ⊢
              have : listed[i]? = some listed[i] := by simp [hsz, hi]
              rw [this] at hl ⊢
              simpa using hl, ops[i], ho, fun e he hbi => ih e.on ((Rg.textW_get ht ho).2.2.1 e he hbi) (by have := ((Rg.textW_get ht ho).2.2.1 e he hbi); omega)⟩
            rw [hr] at hmem
            simp at hmem
      rw [Rg.put_all (fun j _ h2 => hall j (by simpa using h2))]
      exact he g _ f w hall hw (fun i hi => hR i (hall i hi))
    intro n
    induction n with
    | zero =>
      intro g listed f w hsz hn hw hR
      have hr : Region.ready .any ops listed = [] := by
        rw [List.eq_nil_iff_forall_not_mem]
        intro i hi
        obtain ⟨h1, o, ho, _⟩ := mem_ready.1 hi
        have hlt : i < ops.size := (Array.getElem?_eq_some_iff.1 ho).1
        have hc : 0 < (List.range ops.size).countP fun i => !listed.getD i false := List.countP_pos_iff.2 ⟨i, by simpa using hlt, by
          rw [Array.getD_eq_getD_getElem?] at h1 ⊢
          have : listed[i]? = some listed[i] := by simp [hsz, hlt]
          rw [this] at h1 ⊢
          simpa using h1⟩
        omega
      exact ⟨hr, done g listed f w hsz hr hw hR⟩
    | succ n ih =>
      intro g listed f w hsz hn hw hR
      refine ⟨fun hr => done g listed f w hsz hr hw hR, fun i hi => ?_⟩
      obtain ⟨h1, o, ho, hdep⟩ := mem_ready.1 hi
      have hlt : i < ops.size := (Array.getElem?_eq_some_iff.1 ho).1
      obtain ⟨g1, g2, g3, g4, g5⟩ := Rg.textW_get ht ho
      have hli : listed.getD i false = false := by
        rw [Array.getD_eq_getD_getElem?] at h1 ⊢
        have : listed[i]? = some listed[i] := by simp [hsz, hlt]
        rw [this] at h1 ⊢
        simpa using h1
      unfold wpOp
      simp only [ho]
      have hwt : Region.wanted o (yielded ops (Rg.put (fun i => listed.getD i false) f ops.toList 0 a).tmps) = true := by simp [Region.wanted, g1]
      rw [if_pos hwt]
      refine .inl ?_
      have hl2 : ops.toList[i]? = some o := by simpa using ho
      refine Rg.step_wp (hs.get i o hl2 g (fun i => listed.getD i false) f w (by rw [Nat.zero_add]; exact hli) hw (fun e he hbi => ⟨hdep e (by simpa using he) hbi, hR _ (hdep e (by simpa using he) hbi)⟩)) ?_ ?_
      · refine execOp_congr o g2 fun x hx => ?_
        cases x with
        | tmp t =>
          refine Rg.eval (fun j o' hj hd => ?_) rfl rfl
          rw [Nat.zero_add]
          obtain ⟨e, he1, he2, he3⟩ := g5 t hx j o' (by simpa using hj) hd
          rw [← he2]
          exact hdep e he1 he3
        | const v => rfl
        | global g => rfl
        | func g => rfl
      · rintro v w' ⟨g', r1, r2, r3⟩
        rw [Nat.zero_add] at r1 r2 r3
        rw [Rg.put_on (Rg.apart_ofW ht) (Nat.zero_le i) (by simpa using hl2) hli]
        have hset : (fun k => if k = i then true else listed.getD k false) = fun k => (listed.setIfInBounds i true).getD k false := by
          funext k
          by_cases hk : k = i
          · subst hk
            simp [Array.getD_eq_getD_getElem?, hsz, hlt]
          · rw [if_neg hk, getD_set_ne false (Ne.symm hk)]
        rw [hset] at r2 ⊢
        refine ih g' (listed.setIfInBounds i true) _ w' (by simpa using hsz) ?_ r2 ?_
        · have hcount : ((List.range ops.size).countP fun k => !(listed.setIfInBounds i true).getD k false) < (List.range ops.size).countP fun k => !listed.getD k false := by
            refine Rg.count_lt (x := i) (by simpa using hlt) (fun k _ hk => ?_) (by rw [hli]; rfl) (by simp [Array.getD_eq_getD_getElem?, hsz, hlt])
            by_cases e : k = i
            · subst e; rw [hli]; rfl
            · rw [getD_set_ne false (Ne.symm e)] at hk; exact hk
          omega
        · intro k hk
          by_cases e : k = i
          · subst e; simpa using r1
          · simp only [e, if_false]
            rw [getD_set_ne false (Ne.symm e)] at hk
            exact hM _ _ _ _ _ _ _ e (hR k hk) r3
  have := key ops.size g0 (Array.replicate ops.size false) (fun _ => undef) w.drew (by simp) (by
    have h := List.countP_le_length (p := fun i => !(Array.replicate ops.size false).getD i false) (l := List.range ops.size)
    simpa using h) (by
      have e0 : (fun i => (Array.replicate ops.size false).getD i false) = fun _ => false := by
        funext i
        simp [Array.getD_eq_getD_getElem?, Array.getElem?_replicate]
        split <;> rfl
      rw [e0]; exact hW) (fun i hi => by
      simp [Array.getD_eq_getD_getElem?, Array.getElem?_replicate] at hi
      split at hi <;> simp at hi)
  rw [Rg.put_none (fun j _ h2 => by
    simp [Array.getD_eq_getD_getElem?, Array.getElem?_replicate]
    split <;> rfl)] at this
  exact this
end Go.Proofs.Ytnbbepgjpfhjdaa
namespace Go.Proofs.Ytnbbepgjpfhjdaa
set_option linter.unusedVariables false
set_option linter.unusedSimpArgs false
open Go.RowKit
structure Nh.Pv (w : World) (base : Nat) (vF vL vN : Value) (F L : List Int) (N : List (List Int)) : Prop where
  rf : Nf.Row w (fun k => base ≤ k ∧ some k ≠ vN.ownBlock) vF F
  rl : Nf.Row w (fun k => base ≤ k ∧ some k ≠ vN.ownBlock) vL L
  nx : ∃ rows, Ng.Own base vN rows w ∧ Nh.Rows w (fun k => base ≤ k ∧ some k ≠ vN.ownBlock) rows N
theorem Nh.Pv.up {w w' : World} {base : Nat} {vF vL vN : Value} {F L : List Int} {N : List (List Int)} (h : Nh.Pv w base vF vL vN F L N) (hb : Below w.heap.size w w') : Nh.Pv w' base vF vL vN F L N := by
  obtain ⟨rows, h1, h2⟩ := h.nx
  exact ⟨h.rf.up hb, h.rl.up hb, rows, h1.up hb, h2.up hb⟩
theorem Nh.Pv.mono {w : World} {base base' : Nat} {vF vL vN : Value} {F L : List Int} {N : List (List Int)} (h : Nh.Pv w base vF vL vN F L N) (hb : base' ≤ base) : Nh.Pv w base' vF vL vN F L N := by
  obtain ⟨rows, h1, h2⟩ := h.nx
  exact ⟨h.rf.mono (fun k hk => ⟨by omega, hk.2⟩), h.rl.mono (fun k hk => ⟨by omega, hk.2⟩), rows, World.ownsRow.mono h1 hb, h2.mono (fun k hk => ⟨by omega, hk.2⟩)⟩
def Nh.OPost (w : World) (x : Rx) (e : Ending) (w' : World) : Prop := ∃ (n : Nat) (vF vL : Value) (em : Bool) (vN : Value) (F L : List Int) (N : List (List Int)), e = .returned (.agg #[.int .i64 n, vF, vL, .bool em, vN]) ∧ Nh.Pv w' w.heap.size vF vL vN F L N ∧ Nf.PartIs n F L em N (Nf.ones x) x.emp (Nf.fst x) (Nf.lst x) (Nf.fol x) ∧ Below w.heap.size w w'
theorem Nh.rise_len {l : List Int} {P : Nat → Prop} (h : Nf.Rise l P) (m : Nat) (hP : ∀ p, P p → p < m) : l.length ≤ m ∧ ∀ x ∈ l, 0 ≤ x ∧ x < m := by
  have hb : ∀ x ∈ l, 0 ≤ x ∧ x < m := fun x hx => by
    have h0 := h.nn x hx
    obtain ⟨k, rfl⟩ : ∃ k : Nat, x = k := ⟨x.toNat, by omega⟩
    have := hP k ((h.is k).1 hx)
    omega
  refine ⟨?_, hb⟩
  have key : ∀ (l : List Int) (a : Int), l.Pairwise (· < ·) → (∀ p ∈ l, a ≤ p ∧ p < m) → a ≤ m → (l.length : Int) ≤ m - a := by
    intro l
    induction l with
    | nil => intro a _ _ ha; simp; omega
    | cons x r ih =>
      intro a hu h ha
      rw [List.pairwise_cons] at hu
      have hx := h x (by simp)
      have := ih (x + 1) hu.2 (fun p hp => ⟨by have := hu.1 p hp; omega, (h p (by simp [hp])).2⟩) (by omega)
      simp only [List.length_cons]
      omega
  have := key l 0 h.up hb (by omega)
  omega
theorem Nh.small_of {n : Nat} {F L : List Int} {e : Bool} {N : List (List Int)} {cnt : Nat} {em : Bool} {f l : Nat → Prop} {w : Nat → Nat → Prop} (h : Nf.PartIs n F L e N cnt em f l w) (hc : cnt ≤ 10000) (hf : ∀ p, f p → p < cnt) (hl : ∀ p, l p → p < cnt) (hw : ∀ p q, w p q → q < cnt) : Nh.Small n F L N := by
  have h1 := Nh.rise_len h.fst cnt hf
  have h2 := Nh.rise_len h.lst cnt hl
  refine ⟨by rw [h.num]; exact hc, fun x hx => ?_, fun x hx => ?_, fun r hr => ?_, by omega, by omega, by rw [h.len]; exact hc⟩
  · have := h1.2 x hx; omega
  · have := h2.2 x hx; omega
  · obtain ⟨i, hi, rfl⟩ := List.getElem_of_mem hr
    have h3 := Nh.rise_len (h.nxt i hi) cnt (hw i)
    exact ⟨fun x hx => by have := h3.2 x hx; omega, by omega⟩
end Go.Proofs.Ytnbbepgjpfhjdaa
namespace Go.Proofs.Ytnbbepgjpfhjdaa
set_option linter.unusedVariables false
set_option linter.unusedSimpArgs false
open Go.RowKit
structure Nh.Gh where
  o : Option Value
  ab : Option (Value × Value)
  x : Option Nat
  y : Option Nat
structure Nh.MG (i : Nat) (g : Nh.Gh) (_w : World) (g' : Nh.Gh) (_w' : World) : Prop where
  o : i ≠ 6 → g'.o = g.o
  o' : i = 6 → g.o = none
  ab : i ≠ 7 → g'.ab = g.ab
  ab' : i = 7 → g.ab = none
  x : i ≠ 11 → g'.x = g.x
  x' : i = 11 → g.x = none
  y : i ≠ 12 → g'.y = g.y
  y' : i = 12 → g.y = none
def Nh.relG (H q : Nat) (v0 v2 v5 : Value) (p4 : Addr) (g : Nh.Gh) : Nat → Value → World → Prop
  | 0, v, _ => v = v0
  | 1, v, _ => v = .pointer (some ⟨H, 5, none⟩)
  | 2, v, _ => v = v2
  | 3, v, _ => v = .int .i64 q
  | 4, v, _ => v = .pointer (some p4)
  | 5, v, _ => v = v5
  | 6, v, _ => g.o = some v
  | 7, v, _ => ∃ a b, g.ab = some (a, b) ∧ v = .tuple #[a, b]
  | 8, v, _ => ∃ a b, g.ab = some (a, b) ∧ v = .tuple #[a, b]
  | 9, v, _ => ∃ b, g.ab = some (v, b)
  | 10, v, _ => ∃ a, g.ab = some (a, v)
  | 11, v, _ => ∃ x, g.x = some x ∧ v = .pointer (some ⟨x, 0, none⟩)
  | 12, v, _ => ∃ y, g.y = some y ∧ v = .pointer (some ⟨y, 0, none⟩)
  | _ + 13, _, _ => True
theorem Nh.relG_up {H q : Nat} {v0 v2 v5 : Value} {p4 : Addr} {i j : Nat} {v : Value} {g : Nh.Gh} {w : World} {g' : Nh.Gh} {w' : World} (hij : j ≠ i) (h : Nh.relG H q v0 v2 v5 p4 g j v w) (m : Nh.MG i g w g' w') : Nh.relG H q v0 v2 v5 p4 g' j v w' := by
  have hab : ∀ a b, g.ab = some (a, b) → g'.ab = some (a, b) := fun a b e => by
    by_cases h7 : i = 7
    · rw [m.ab' h7] at e; simp at e
    · rw [m.ab h7]; exact e
  match j, h with
  | 0, h => exact h
  | 1, h => exact h
  | 2, h => exact h
  | 3, h => exact h
  | 4, h => exact h
  | 5, h => exact h
  | 6, h => exact (m.o (Ne.symm hij)).trans h
  | 7, ⟨a, b, e, h⟩ => exact ⟨a, b, hab a b e, h⟩
  | 8, ⟨a, b, e, h⟩ => exact ⟨a, b, hab a b e, h⟩
  | 9, ⟨b, e⟩ => exact ⟨b, hab _ b e⟩
  | 10, ⟨a, e⟩ => exact ⟨a, hab a _ e⟩
  | 11, ⟨x, e, h⟩ => exact ⟨x, (m.x (Ne.symm hij)).trans e, h⟩
  | 12, ⟨y, e, h⟩ => exact ⟨y, (m.y (Ne.symm hij)).trans e, h⟩
  | n + 13, h => trivial
structure Nh.CW (w : World) (k : Nat) (f : Nat → Bool) (al : Option Addr) (n cap b : Nat) (n1 : Nat) (vF1 vL1 : Value) (e1 : Bool) (vN1 : Value) (F1 L1 : List Int) (N1 : List (List Int)) (rows1 : List Value) (u : World) : Prop where
  bel : Below w.heap.size w u
  nd : Rx.Nod u w.heap.size k f al n cap
  p2 : Nh.PB u (w.heap.size + 1) 0 (.slice none 0 0) (.slice none 0 0) false (.slice none 0 0)
  pb : Nh.PB u b n1 vF1 vL1 e1 vN1
  rf : Nf.Row u (fun k => b < k ∧ some k ≠ vN1.ownBlock) vF1 F1
  rl : Nf.Row u (fun k => b < k ∧ some k ≠ vN1.ownBlock) vL1 L1
  ow : Ng.Own (b + 1) vN1 rows1 u
  rw' : Nh.Rows u (fun k => b < k ∧ some k ≠ vN1.ownBlock) rows1 N1
  hb : w.heap.size + 1 < b
theorem Nh.CW.up {w : World} {k : Nat} {f : Nat → Bool} {al : Option Addr} {n cap b n1 : Nat} {vF1 vL1 : Value} {e1 : Bool} {vN1 : Value} {F1 L1 : List Int} {N1 : List (List Int)} {rows1 : List Value} {u u' : World} (h : Nh.CW w k f al n cap b n1 vF1 vL1 e1 vN1 F1 L1 N1 rows1 u) (hb : Below u.heap.size u u') : Nh.CW w k f al n cap b n1 vF1 vL1 e1 vN1 F1 L1 N1 rows1 u' :=
  ⟨Bs.below_up h.bel hb, h.nd.up hb, h.p2.up hb, h.pb.up hb, h.rf.up hb, h.rl.up hb, h.ow.up hb, h.rw'.up hb, h.hb⟩
theorem Nh.CW.far {w : World} {k : Nat} {f : Nat → Bool} {al : Option Addr} {n cap b n1 : Nat} {vF1 vL1 : Value} {e1 : Bool} {vN1 : Value} {F1 L1 : List Int} {N1 : List (List Int)} {rows1 : List Value} {u' : World} {K : Nat} (h0 : ∃ u0 : World, u0.heap.size = K ∧ Nh.CW w k f al n cap b n1 vF1 vL1 e1 vN1 F1 L1 N1 rows1 u0 ∧ Below K u0 u') : Nh.CW w k f al n cap b n1 vF1 vL1 e1 vN1 F1 L1 N1 rows1 u' := by
  obtain ⟨u0, e, h, hb⟩ := h0
  exact h.up (by rw [e]; exact hb)
def Nh.free (g : Nh.Gh) (k : Nat) : Prop := g.x ≠ some k ∧ g.y ≠ some k
structure Nh.BeF (K : Nat) (g : Nh.Gh) (y : Rx) (n1 : Nat) (vF1 vL1 : Value) (e1 : Bool) (rows1 : List Value) (a b : Value) (n2 : Nat) (vF vL vN : Value) (e2 : Bool) (vN2 : Value) (rs : List Value) (F2 L2 : List Int) (N2 : List (List Int)) (u : World) : Prop where
  ea : a = .agg #[.int .i64 n1, vF1, vL1, .bool e1, vN]
  eb : b = .agg #[.int .i64 (n2 + n1 : Nat), vF, vL, .bool e2, vN2]
  pt : Nf.PartIs n2 F2 L2 e2 N2 (Nf.ones y) y.emp (Nf.fst y) (Nf.lst y) (Nf.fol y)
  rf : Nf.Row u (fun k => K ≤ k ∧ some k ≠ vN.ownBlock ∧ Nh.free g k) vF (Nf.shift F2 n1)
  rl : Nf.Row u (fun k => K ≤ k ∧ some k ≠ vN.ownBlock ∧ Nh.free g k) vL (Nf.shift L2 n1)
  ow : Ng.Own K vN (rows1 ++ rs) u
  rr : Nh.Rows u (fun k => K ≤ k ∧ some k ≠ vN.ownBlock ∧ Nh.free g k) rs (N2.map fun l => Nf.shift l n1)
  fr : ∀ k, vN.ownBlock = some k → Nh.free g k
  f2 : ∃ a n c, vN2 = .slice a n c
def Nh.Be (K : Nat) (g : Nh.Gh) (y : Rx) (n1 : Nat) (vF1 vL1 : Value) (e1 : Bool) (rows1 : List Value) (a b : Value) (u : World) : Prop := ∃ n2 vF vL vN e2 vN2 rs F2 L2 N2, Nh.BeF K g y n1 vF1 vL1 e1 rows1 a b n2 vF vL vN e2 vN2 rs F2 L2 N2 u
theorem Nh.Be.up {K : Nat} {g g' : Nh.Gh} {y : Rx} {n1 : Nat} {vF1 vL1 : Value} {e1 : Bool} {rows1 : List Value} {a b : Value} {u u' : World} (h : Nh.Be K g y n1 vF1 vL1 e1 rows1 a b u) (hb : Below u.heap.size u u') (hg : ∀ k, k < u.heap.size → Nh.free g k → Nh.free g' k) : Nh.Be K g' y n1 vF1 vL1 e1 rows1 a b u' := by
  obtain ⟨n2, vF, vL, vN, e2, vN2, rs, F2, L2, N2, h⟩ := h
  exact ⟨n2, vF, vL, vN, e2, vN2, rs, F2, L2, N2, h.ea, h.eb, h.pt, (h.rf.lt.mono (fun k hk => ⟨hk.1.1, hk.1.2.1, hg k hk.2 hk.1.2.2⟩)).up hb, (h.rl.lt.mono (fun k hk => ⟨hk.1.1, hk.1.2.1, hg k hk.2 hk.1.2.2⟩)).up hb, h.ow.up hb, (h.rr.lt.mono (fun k hk => ⟨hk.1.1, hk.1.2.1, hg k hk.2 hk.1.2.2⟩)).up hb, fun k hk => hg k (World.ownsRow.lt h.ow k hk).2 (h.fr k hk), h.f2⟩
theorem Nh.Be.same {K : Nat} {g : Nh.Gh} {y : Rx} {n1 : Nat} {vF1 vL1 : Value} {e1 : Bool} {rows1 : List Value} {a b : Value} {u u' : World} (h : Nh.Be K g y n1 vF1 vL1 e1 rows1 a b u) (hs : ∀ k, Nh.free g k → u'.heap[k]? = u.heap[k]?) : Nh.Be K g y n1 vF1 vL1 e1 rows1 a b u' := by
  obtain ⟨n2, vF, vL, vN, e2, vN2, rs, F2, L2, N2, h⟩ := h
  exact ⟨n2, vF, vL, vN, e2, vN2, rs, F2, L2, N2, h.ea, h.eb, h.pt, Nh.row_same h.rf (fun k hk => hs k hk.2.2), Nh.row_same h.rl (fun k hk => hs k hk.2.2), Nh.own_same h.ow (fun k hk => hs k (h.fr k hk)), h.rr.same (fun k hk => hs k hk.2.2), h.fr, h.f2⟩
def Nh.Of (K : Nat) (y : Rx) (o : Value) (u : World) : Prop := ∃ (n2 : Nat) (vF vL : Value) (em : Bool) (vN : Value) (F L : List Int) (N : List (List Int)), o = .agg #[.int .i64 n2, vF, vL, .bool em, vN] ∧ Nh.Pv u K vF vL vN F L N ∧ Nf.PartIs n2 F L em N (Nf.ones y) y.emp (Nf.fst y) (Nf.lst y) (Nf.fol y)
theorem Nh.Of.up {K : Nat} {y : Rx} {o : Value} {u u' : World} (h : Nh.Of K y o u) (hb : Below u.heap.size u u') : Nh.Of K y o u' := by
  obtain ⟨n2, vF, vL, em, vN, F, L, N, e, h1, h2⟩ := h
  exact ⟨n2, vF, vL, em, vN, F, L, N, e, h1.up hb, h2⟩
structure Nh.WG (w : World) (k : Nat) (f : Nat → Bool) (al : Option Addr) (n cap b : Nat) (n1 : Nat) (vF1 vL1 : Value) (e1 : Bool) (vN1 : Value) (F1 L1 : List Int) (N1 : List (List Int)) (rows1 : List Value) (y : Rx) (K : Nat) (g : Nh.Gh) (Lst : Nat → Bool) (u : World) : Prop where
  cw : Nh.CW w k f al n cap b n1 vF1 vL1 e1 vN1 F1 L1 N1 rows1 u
  ku : K ≤ u.heap.size
  no : Lst 6 = false → g.o = none
  nab : Lst 7 = false → g.ab = none
  nx : Lst 11 = false → g.x = none
  ny : Lst 12 = false → g.y = none
  of : ∀ o, g.o = some o → Lst 7 = false → Nh.Of K y o u
  be : ∀ a b, g.ab = some (a, b) → Nh.Be K g y n1 vF1 vL1 e1 rows1 a b u
  gx : ∀ x, g.x = some x → K ≤ x ∧ x < u.heap.size
  gy : ∀ x, g.y = some x → K ≤ x ∧ x < u.heap.size
  xy : ∀ x, g.x = some x → g.y ≠ some x
  zx : Lst 13 = false → ∀ x, g.x = some x → Nh.PB u x 0 (.slice none 0 0) (.slice none 0 0) false (.slice none 0 0)
  zy : Lst 14 = false → ∀ x, g.y = some x → Nh.PB u x 0 (.slice none 0 0) (.slice none 0 0) false (.slice none 0 0)
  sx : Lst 13 = true → ∃ x i vF vL e vN b, g.x = some x ∧ g.ab = some (.agg #[.int .i64 i, vF, vL, .bool e, vN], b) ∧ Nh.PB u x i vF vL e vN
  sy : Lst 14 = true → ∃ x i vF vL e vN a, g.y = some x ∧ g.ab = some (a, .agg #[.int .i64 i, vF, vL, .bool e, vN]) ∧ Nh.PB u x i vF vL e vN
theorem Nh.WG.on {w : World} {k : Nat} {f : Nat → Bool} {al : Option Addr} {n cap b n1 : Nat} {vF1 vL1 : Value} {e1 : Bool} {vN1 : Value} {F1 L1 : List Int} {N1 : List (List Int)} {rows1 : List Value} {y : Rx} {K : Nat} {g : Nh.Gh} {Lst : Nat → Bool} {u : World} (h : Nh.WG w k f al n cap b n1 vF1 vL1 e1 vN1 F1 L1 N1 rows1 y K g Lst u) (j : Nat) (h6 : j ≠ 6) (h7 : j ≠ 7) (h11 : j ≠ 11) (h12 : j ≠ 12) (h13 : j ≠ 13) (h14 : j ≠ 14) : Nh.WG w k f al n cap b n1 vF1 vL1 e1 vN1 F1 L1 N1 rows1 y K g (fun i => decide (i = j) || Lst i) u :=
  ⟨h.cw, h.ku, fun e => h.no (by simpa [Ne.symm h6] using e), fun e => h.nab (by simpa [Ne.symm h7] using e), fun e => h.nx (by simpa [Ne.symm h11] using e), fun e => h.ny (by simpa [Ne.symm h12] using e), fun o e e' => h.of o e (by simpa [Ne.symm h7] using e'), h.be, h.gx, h.gy, h.xy, fun e => h.zx (by simpa [Ne.symm h13] using e), fun e => h.zy (by simpa [Ne.symm h14] using e), fun e => h.sx (by simpa [Ne.symm h13] using e), fun e => h.sy (by simpa [Ne.symm h14] using e)⟩
theorem Nh.mg_refl {i : Nat} {g : Nh.Gh} {w w' : World} (h6 : i ≠ 6) (h7 : i ≠ 7) (h11 : i ≠ 11) (h12 : i ≠ 12) : Nh.MG i g w g w' := ⟨fun _ => rfl, fun e => absurd e h6, fun _ => rfl, fun e => absurd e h7, fun _ => rfl, fun e => absurd e h11, fun _ => rfl, fun e => absurd e h12⟩
theorem Nh.WG.call6 {w : World} {k : Nat} {f : Nat → Bool} {al : Option Addr} {n cap b n1 : Nat} {vF1 vL1 : Value} {e1 : Bool} {vN1 : Value} {F1 L1 : List Int} {N1 : List (List Int)} {rows1 : List Value} {y : Rx} {K : Nat} {g : Nh.Gh} {Lst : Nat → Bool} {u : World} (h : Nh.WG w k f al n cap b n1 vF1 vL1 e1 vN1 F1 L1 N1 rows1 y K g Lst u) {u' : World} (hb : Below u.heap.size u u') {v : Value} (hv : Nh.Of K y v u') (hl : Lst 6 = false) (h7 : Lst 7 = false) : Nh.WG w k f al n cap b n1 vF1 vL1 e1 vN1 F1 L1 N1 rows1 y K { g with o := some v } (fun i => decide (i = 6) || Lst i) u' :=
  ⟨h.cw.up hb, Nat.le_trans h.ku hb.size, fun e => by simp at e, fun e => h.nab (by simpa using e), fun e => h.nx (by simpa using e), fun e => h.ny (by simpa using e), fun o e _ => by
      have e' : some v = some o := e
      injection e' with e'
      rw [← e']; exact hv, fun a b e => by have e' : g.ab = some (a, b) := e
                                           rw [h.nab h7] at e'; simp at e', fun x e => ⟨(h.gx x e).1, Nat.lt_of_lt_of_le (h.gx x e).2 hb.size⟩, fun x e => ⟨(h.gy x e).1, Nat.lt_of_lt_of_le (h.gy x e).2 hb.size⟩, h.xy, fun e x hx => (h.zx (by simpa using e) x hx).up hb, fun e x hx => (h.zy (by simpa using e) x hx).up hb, fun e => by
      obtain ⟨x, i, vF, vL, e', vN, b', hx, hab, _⟩ := h.sx (by simpa using e)
      rw [h.nab h7] at hab; simp at hab, fun e => by
      obtain ⟨x, i, vF, vL, e', vN, b', hx, hab, _⟩ := h.sy (by simpa using e)
      rw [h.nab h7] at hab; simp at hab⟩
theorem Nh.WG.call7 {w : World} {k : Nat} {f : Nat → Bool} {al : Option Addr} {n cap b n1 : Nat} {vF1 vL1 : Value} {e1 : Bool} {vN1 : Value} {F1 L1 : List Int} {N1 : List (List Int)} {rows1 : List Value} {y : Rx} {K : Nat} {g : Nh.Gh} {Lst : Nat → Bool} {u : World} (h : Nh.WG w k f al n cap b n1 vF1 vL1 e1 vN1 F1 L1 N1 rows1 y K g Lst u) {u' : World} (hb : Below u.heap.size u u') {va vb : Value} (hv : Nh.Be K g y n1 vF1 vL1 e1 rows1 va vb u') (h7 : Lst 7 = false) : Nh.WG w k f al n cap b n1 vF1 vL1 e1 vN1 F1 L1 N1 rows1 y K { g with ab := some (va, vb) } (fun i => decide (i = 7) || Lst i) u' :=
  ⟨h.cw.up hb, Nat.le_trans h.ku hb.size, fun e => h.no (by simpa using e), fun e => by simp at e, fun e => h.nx (by simpa using e), fun e => h.ny (by simpa using e), fun o e e' => by simp at e', fun a b' e => by
      have e' : some (va, vb) = some (a, b') := e
      injection e' with e'
      injection e' with e1 e2
      subst e1; subst e2
      exact hv.up (Below.refl _ _) (fun k _ hf => hf), fun x e => ⟨(h.gx x e).1, Nat.lt_of_lt_of_le (h.gx x e).2 hb.size⟩, fun x e => ⟨(h.gy x e).1, Nat.lt_of_lt_of_le (h.gy x e).2 hb.size⟩, h.xy, fun e x hx => (h.zx (by simpa using e) x hx).up hb, fun e x hx => (h.zy (by simpa using e) x hx).up hb, fun e => by
      obtain ⟨x, i, vF, vL, e', vN, b', hx, hab, _⟩ := h.sx (by simpa using e)
      rw [h.nab h7] at hab; simp at hab, fun e => by
      obtain ⟨x, i, vF, vL, e', vN, b', hx, hab, _⟩ := h.sy (by simpa using e)
      rw [h.nab h7] at hab; simp at hab⟩
theorem Nh.WG.all11 {w : World} {k : Nat} {f : Nat → Bool} {al : Option Addr} {n cap b n1 : Nat} {vF1 vL1 : Value} {e1 : Bool} {vN1 : Value} {F1 L1 : List Int} {N1 : List (List Int)} {rows1 : List Value} {y : Rx} {K : Nat} {g : Nh.Gh} {Lst : Nat → Bool} {u : World} (h : Nh.WG w k f al n cap b n1 vF1 vL1 e1 vN1 F1 L1 N1 rows1 y K g Lst u) (hl : Lst 11 = false) (h13 : Lst 13 = false) (h14 : Lst 14 = false) : Nh.WG w k f al n cap b n1 vF1 vL1 e1 vN1 F1 L1 N1 rows1 y K { g with x := some u.heap.size } (fun i => decide (i = 11) || Lst i) (u.alloc (.cells #[.int .i64 0, .slice none 0 0, .slice none 0 0, .bool false, .slice none 0 0] 87)) := by
  have hb := Bs.below1 u (.cells #[.int .i64 0, .slice none 0 0, .slice none 0 0, .bool false, .slice none 0 0] 87)
  have hfr : ∀ k, k < u.heap.size → Nh.free g k → Nh.free { g with x := some u.heap.size } k := fun k hk hf => ⟨fun e => by have e' : some u.heap.size = some k := e; injection e' with e'; omega, hf.2⟩
  refine ⟨h.cw.up hb, Nat.le_trans h.ku hb.size, fun e => h.no (by simpa using e), fun e => h.nab (by simpa using e), fun e => by simp at e, fun e => h.ny (by simpa using e), fun o e e' => (h.of o e (by simpa using e')).up hb, fun a b' e => (h.be a b' e).up hb hfr, fun x e => ?_, fun x e => ⟨(h.gy x e).1, Nat.lt_of_lt_of_le (h.gy x e).2 hb.size⟩, fun x e e2 => ?_, fun e x hx => ?_, fun e x hx => (h.zy (by simpa using e) x hx).up hb, fun e => by rw [show Lst 13 = true by simpa using e] at h13; simp at h13, fun e => by rw [show Lst 14 = true by simpa using e] at h14; simp at h14⟩
  · have e' : some u.heap.size = some x := e
    injection e' with e'
    subst e'
    exact ⟨h.ku, by simp⟩
  · have e' : some u.heap.size = some x := e
    injection e' with e'
    have := (h.gy x e2).2
    omega
  · have e' : some u.heap.size = some x := hx
    injection e' with e'
    subst e'
    exact Nh.pb_new u 0 (.slice none 0 0) (.slice none 0 0) false (.slice none 0 0)
theorem Nh.WG.all12 {w : World} {k : Nat} {f : Nat → Bool} {al : Option Addr} {n cap b n1 : Nat} {vF1 vL1 : Value} {e1 : Bool} {vN1 : Value} {F1 L1 : List Int} {N1 : List (List Int)} {rows1 : List Value} {y : Rx} {K : Nat} {g : Nh.Gh} {Lst : Nat → Bool} {u : World} (h : Nh.WG w k f al n cap b n1 vF1 vL1 e1 vN1 F1 L1 N1 rows1 y K g Lst u) (hl : Lst 12 = false) (h13 : Lst 13 = false) (h14 : Lst 14 = false) : Nh.WG w k f al n cap b n1 vF1 vL1 e1 vN1 F1 L1 N1 rows1 y K { g with y := some u.heap.size } (fun i => decide (i = 12) || Lst i) (u.alloc (.cells #[.int .i64 0, .slice none 0 0, .slice none 0 0, .bool false, .slice none 0 0] 87)) := by
  have hb := Bs.below1 u (.cells #[.int .i64 0, .slice none 0 0, .slice none 0 0, .bool false, .slice none 0 0] 87)
  have hfr : ∀ k, k < u.heap.size → Nh.free g k → Nh.free { g with y := some u.heap.size } k := fun k hk hf => ⟨hf.1, fun e => by have e' : some u.heap.size = some k := e; injection e' with e'; omega⟩
  refine ⟨h.cw.up hb, Nat.le_trans h.ku hb.size, fun e => h.no (by simpa using e), fun e => h.nab (by simpa using e), fun e => h.nx (by simpa using e), fun e => by simp at e, fun o e e' => (h.of o e (by simpa using e')).up hb, fun a b' e => (h.be a b' e).up hb hfr, fun x e => ⟨(h.gx x e).1, Nat.lt_of_lt_of_le (h.gx x e).2 hb.size⟩, fun x e => ?_, fun x e e2 => ?_, fun e x hx => (h.zx (by simpa using e) x hx).up hb, fun e x hx => ?_, fun e => by rw [show Lst 13 = true by simpa using e] at h13; simp at h13, fun e => by rw [show Lst 14 = true by simpa using e] at h14; simp at h14⟩
  · have e' : some u.heap.size = some x := e
    injection e' with e'
    subst e'
    exact ⟨h.ku, by simp⟩
  · have e' : some u.heap.size = some x := e2
    injection e' with e'
    have := (h.gx x e).2
    omega
  · have e' : some u.heap.size = some x := hx
    injection e' with e'
    subst e'
    exact Nh.pb_new u 0 (.slice none 0 0) (.slice none 0 0) false (.slice none 0 0)
theorem Nh.WG.st13 {w : World} {k : Nat} {f : Nat → Bool} {al : Option Addr} {n cap b n1 : Nat} {vF1 vL1 : Value} {e1 : Bool} {vN1 : Value} {F1 L1 : List Int} {N1 : List (List Int)} {rows1 : List Value} {y : Rx} {K : Nat} {g : Nh.Gh} {Lst : Nat → Bool} {u : World} (h : Nh.WG w k f al n cap b n1 vF1 vL1 e1 vN1 F1 L1 N1 rows1 y K g Lst u) (u0 : World) (hu0 : u0.heap.size = K) (h0 : Nh.CW w k f al n cap b n1 vF1 vL1 e1 vN1 F1 L1 N1 rows1 u0) (hb0 : Below K u0 u) (h7 : Lst 7 = true) (h13 : Lst 13 = false) (h14 : Lst 14 = false) {x : Nat} (hx : g.x = some x) {i : Int} {vF vL vN : Value} {e : Bool} {vb : Value} (hab : g.ab = some (.agg #[.int .i64 i, vF, vL, .bool e, vN], vb)) : Nh.WG w k f al n cap b n1 vF1 vL1 e1 vN1 F1 L1 N1 rows1 y K g (fun i => decide (i = 13) || Lst i) (Nh.put u x i vF vL e vN) ∧ Below K u0 (Nh.put u x i vF vL e vN) := by
  have hKx := (h.gx x hx).1
  have hbp : Below K u0 (Nh.put u x i vF vL e vN) := Nh.put_below hb0 hKx _ _ _ _ _
  have hsz := Nh.put_size u x i vF vL e vN
  have hns : ∀ j, g.y = some j → j ≠ x := fun j hj e0 => h.xy x hx (by rw [← e0]; exact hj)
  refine ⟨⟨Nh.CW.far ⟨u0, hu0, h0, hbp⟩, by rw [hsz]; exact h.ku, fun e0 => h.no (by simpa using e0), fun e0 => h.nab (by simpa using e0), fun e0 => h.nx (by simpa using e0), fun e0 => h.ny (by simpa using e0), fun o e0 e1 => by rw [h7] at e1; simp at e1, fun a b' e0 => (h.be a b' e0).same (fun k hk => Nh.put_far _ _ _ _ _ _ _ _ (fun e1 => hk.1 (by rw [e1]; exact hx))), fun z e0 => by rw [hsz]; exact h.gx z e0, fun z e0 => by rw [hsz]; exact h.gy z e0, h.xy, fun e0 => by simp at e0, fun e0 z hz => (h.zy (by simpa using e0) z hz).only (Nh.put_far _ _ _ _ _ _ _ _ (hns z hz)), fun _ => ⟨x, i, vF, vL, e, vN, vb, hx, hab, Nh.put_pb (h.zx h13 x hx) _ _ _ _ _⟩, fun e0 => by rw [show Lst 14 = true by simpa using e0] at h14; simp at h14⟩, hbp⟩
theorem Nh.WG.st14 {w : World} {k : Nat} {f : Nat → Bool} {al : Option Addr} {n cap b n1 : Nat} {vF1 vL1 : Value} {e1 : Bool} {vN1 : Value} {F1 L1 : List Int} {N1 : List (List Int)} {rows1 : List Value} {y : Rx} {K : Nat} {g : Nh.Gh} {Lst : Nat → Bool} {u : World} (h : Nh.WG w k f al n cap b n1 vF1 vL1 e1 vN1 F1 L1 N1 rows1 y K g Lst u) (u0 : World) (hu0 : u0.heap.size = K) (h0 : Nh.CW w k f al n cap b n1 vF1 vL1 e1 vN1 F1 L1 N1 rows1 u0) (hb0 : Below K u0 u) (h7 : Lst 7 = true) (h13 : Lst 13 = true) (h14 : Lst 14 = false) {x : Nat} (hx : g.y = some x) {i : Int} {vF vL vN : Value} {e : Bool} {va : Value} (hab : g.ab = some (va, .agg #[.int .i64 i, vF, vL, .bool e, vN])) : Nh.WG w k f al n cap b n1 vF1 vL1 e1 vN1 F1 L1 N1 rows1 y K g (fun i => decide (i = 14) || Lst i) (Nh.put u x i vF vL e vN) ∧ Below K u0 (Nh.put u x i vF vL e vN) := by
  have hKx := (h.gy x hx).1
  have hbp : Below K u0 (Nh.put u x i vF vL e vN) := Nh.put_below hb0 hKx _ _ _ _ _
  have hsz := Nh.put_size u x i vF vL e vN
  have hns : ∀ j, g.x = some j → j ≠ x := fun j hj e0 => h.xy j hj (by rw [e0]; exact hx)
  refine ⟨⟨Nh.CW.far ⟨u0, hu0, h0, hbp⟩, by rw [hsz]; exact h.ku, fun e0 => h.no (by simpa using e0), fun e0 => h.nab (by simpa using e0), fun e0 => h.nx (by simpa using e0), fun e0 => h.ny (by simpa using e0), fun o e0 e1 => by rw [h7] at e1; simp at e1, fun a b' e0 => (h.be a b' e0).same (fun k hk => Nh.put_far _ _ _ _ _ _ _ _ (fun e1 => hk.2 (by rw [e1]; exact hx))), fun z e0 => by rw [hsz]; exact h.gx z e0, fun z e0 => by rw [hsz]; exact h.gy z e0, h.xy, fun e0 => by rw [h13] at e0; simp at e0, fun e0 => by simp at e0, fun _ => ?_, fun _ => ⟨x, i, vF, vL, e, vN, va, hx, hab, Nh.put_pb (h.zy h14 x hx) _ _ _ _ _⟩⟩, hbp⟩
  obtain ⟨z, i', vF', vL', e', vN', b', hz, hab', hp⟩ := h.sx h13
  exact ⟨z, i', vF', vL', e', vN', b', hz, hab', hp.only (Nh.put_far _ _ _ _ _ _ _ _ (hns z hz))⟩
end Go.Proofs.Ytnbbepgjpfhjdaa
namespace Go.Proofs.Ytnbbepgjpfhjdaa
set_option linter.unusedVariables false
set_option linter.unusedSimpArgs false
open Go.RowKit
def Nh.Kd (b bx bz bq : Nat) (vN : Value) (k : Nat) : Prop := b < k ∧ some k ≠ vN.ownBlock ∧ k ≠ bx ∧ k ≠ bz ∧ k ≠ bq
structure Nh.LW (w : World) (k : Nat) (f : Nat → Bool) (al : Option Addr) (n cap b bx bz bq : Nat) (n1 n2 : Int) (vF1 vL1 : Value) (e1 : Bool) (vN1 : Value) (vF vL : Value) (e2 : Bool) (vN2 : Value) (em : Bool) (vN : Value) (F1 L1 F2 L2 : List Int) (NQ : List (List Int)) (u : World) : Prop where
  bel : Below w.heap.size w u
  nd : Rx.Nod u w.heap.size k f al n cap
  p2 : Nh.PB u (w.heap.size + 1) 0 (.slice none 0 0) (.slice none 0 0) false (.slice none 0 0)
  pp : Nh.PB u b n1 vF1 vL1 e1 vN1
  pa : Nh.PB u bx n1 vF1 vL1 e1 vN
  pb : Nh.PB u bz n2 vF vL e2 vN2
  pq : Nh.PB u bq n2 vF1 vL em vN
  rf1 : Nf.Row u (Nh.Kd b bx bz bq vN) vF1 F1
  rl1 : Nf.Row u (Nh.Kd b bx bz bq vN) vL1 L1
  rf : Nf.Row u (Nh.Kd b bx bz bq vN) vF F2
  rl : Nf.Row u (Nh.Kd b bx bz bq vN) vL L2
  nx : ∃ rows, Ng.Own (b + 1) vN rows u ∧ Nh.Rows u (Nh.Kd b bx bz bq vN) rows NQ
  fr : ∀ j, vN.ownBlock = some j → b < j ∧ j ≠ bx ∧ j ≠ bz ∧ j ≠ bq
  hb : w.heap.size + 1 < b
  hx : b < bx
  hz : b < bz
  hq : b < bq
  xz : bx ≠ bz
  qx : bq ≠ bx
  qz : bq ≠ bz
theorem Nh.LW.up {w : World} {k : Nat} {f : Nat → Bool} {al : Option Addr} {n cap b bx bz bq : Nat} {n1 n2 : Int} {vF1 vL1 : Value} {e1 : Bool} {vN1 vF vL : Value} {e2 : Bool} {vN2 : Value} {em : Bool} {vN : Value} {F1 L1 F2 L2 : List Int} {NQ : List (List Int)} {u u' : World} (h : Nh.LW w k f al n cap b bx bz bq n1 n2 vF1 vL1 e1 vN1 vF vL e2 vN2 em vN F1 L1 F2 L2 NQ u) (hb : Below u.heap.size u u') : Nh.LW w k f al n cap b bx bz bq n1 n2 vF1 vL1 e1 vN1 vF vL e2 vN2 em vN F1 L1 F2 L2 NQ u' := by
  obtain ⟨rows, h1, h2⟩ := h.nx
  exact ⟨Bs.below_up h.bel hb, h.nd.up hb, h.p2.up hb, h.pp.up hb, h.pa.up hb, h.pb.up hb, h.pq.up hb, h.rf1.up hb, h.rl1.up hb, h.rf.up hb, h.rl.up hb, ⟨rows, h1.up hb, h2.up hb⟩, h.fr, h.hb, h.hx, h.hz, h.hq, h.xz, h.qx, h.qz⟩
theorem Nh.Rows.put {w : World} {B : Nat → Prop} {rows : List Value} {N : List (List Int)} (h : Nh.Rows w B rows N) (i : Nat) {v : Value} {l : List Int} (hv : Nf.Row w B v l) : Nh.Rows w B (rows.set i v) (N.set i l) := by
  refine ⟨by simp [h.1], fun j h1 h2 => ?_⟩
  rw [List.length_set] at h1 h2
  by_cases e : i = j
  · subst e
    simp only [List.getElem_set_self]
    exact hv
  · simp only [List.getElem_set_ne e]
    exact h.2 j h1 h2
theorem Nh.LW.put {w : World} {k : Nat} {f : Nat → Bool} {al : Option Addr} {n cap b bx bz bq : Nat} {n1 n2 : Int} {vF1 vL1 : Value} {e1 : Bool} {vN1 vF vL : Value} {e2 : Bool} {vN2 : Value} {em : Bool} {g m c : Nat} {F1 L1 F2 L2 : List Int} {NQ : List (List Int)} {u : World} (h : Nh.LW w k f al n cap b bx bz bq n1 n2 vF1 vL1 e1 vN1 vF vL e2 vN2 em (.slice (some ⟨g, 0, none⟩) m c) F1 L1 F2 L2 NQ u) (i : Nat) {v : Value} {l : List Int} (hv : Nf.Row u (Nh.Kd b bx bz bq (.slice (some ⟨g, 0, none⟩) m c)) v l) : Nh.LW w k f al n cap b bx bz bq n1 n2 vF1 vL1 e1 vN1 vF vL e2 vN2 em (.slice (some ⟨g, 0, none⟩) m c) F1 L1 F2 L2 (NQ.set i l) (u.setCell ⟨g, i, none⟩ v) := by
  obtain ⟨rows, h1, h2⟩ := h.nx
  have hg := h.fr g rfl
  have hb := h.hb
  have hm : m = rows.length := by
    obtain ⟨a, c, e, _⟩ := h1.cells
    injection e
  subst hm
  have hn : ¬ Nh.Kd b bx bz bq (.slice (some ⟨g, 0, none⟩) rows.length c) g := fun e => e.2.1 rfl
  have hs := (World.ownsRow.stored h1 i v).1
  have hnd : Rx.Nod (u.setCell ⟨g, i, none⟩ v) w.heap.size k f al n cap := by
    have e0 : (u.setCell ⟨g, i, none⟩ v).heap[w.heap.size]? = u.heap[w.heap.size]? := Below.heap_setCell _ _ _ _ (by simp; omega)
    exact ⟨Ng.nod_same h.nd e0, fun j hj => (World.frozen?_of_block (a := ⟨w.heap.size, j, none⟩) e0).trans (h.nd.frz j hj)⟩
  refine ⟨h.bel.setCell (by simp; omega) _, hnd, h.p2.far (by omega) _, h.pp.far (by omega) _, h.pa.far hg.2.1 _, h.pb.far hg.2.2.1 _, h.pq.far hg.2.2.2 _, h.rf1.set hn _, h.rl1.set hn _, h.rf.set hn _, h.rl.set hn _, ⟨rows.set i v, ?_, (h2.put i hv).set hn _⟩, h.fr, h.hb, h.hx, h.hz, h.hq, h.xz, h.qx, h.qz⟩
  unfold Ng.Own
  rw [List.length_set]
  exact hs
theorem Nh.next_cell {b g m c z : Nat} {u : World} {B : Nat → Prop} {NQ : List (List Int)} (h : ∃ rows, Ng.Own b (.slice (some ⟨g, 0, none⟩) m c) rows u ∧ Nh.Rows u B rows NQ) (hz : z < NQ.length) : ∃ ar nr cr, u.cell? ⟨g, z, none⟩ = some (.slice ar nr cr) ∧ Nf.Row u B (.slice ar nr cr) NQ[z] := by
  obtain ⟨rows, h1, h2⟩ := h
  have hz' : z < rows.length := by rw [h2.1]; exact hz
  have hm : m = rows.length := by
    obtain ⟨a, c, e, _⟩ := h1.cells
    injection e
  subst hm
  have hr := h2.2 z hz' hz
  obtain ⟨ar, nr, cr, e⟩ := hr.form
  rw [e] at hr
  refine ⟨ar, nr, cr, ?_, hr⟩
  have := World.ownsRow.cellAt h1 z (by omega)
  rw [this]
  simp [hz', e]
theorem Nh.next_lt {b g m c : Nat} {u : World} {B : Nat → Prop} {NQ : List (List Int)} (h : ∃ rows, Ng.Own b (.slice (some ⟨g, 0, none⟩) m c) rows u ∧ Nh.Rows u B rows NQ) : g < u.heap.size ∧ m = NQ.length := by
  obtain ⟨rows, h1, h2⟩ := h
  have hm : m = rows.length := by
    obtain ⟨a, c, e, _⟩ := h1.cells
    injection e
  exact ⟨(World.ownsRow.lt h1 g rfl).2, by rw [hm, h2.1]⟩
theorem Nh.next_frz {b g m c : Nat} {u : World} {B : Nat → Prop} {NQ : List (List Int)} (h : ∃ rows, Ng.Own b (.slice (some ⟨g, 0, none⟩) m c) rows u ∧ Nh.Rows u B rows NQ) (z : Nat) : u.frozen? ⟨g, z, none⟩ = false := by
  obtain ⟨rows, h1, h2⟩ := h
  have hm : m = rows.length := by
    obtain ⟨a, c, e, _⟩ := h1.cells
    injection e
  subst hm
  exact World.ownsRow.frozenAt h1 z
theorem Nh.next_form {b : Nat} {v : Value} {u : World} {B : Nat → Prop} {NQ : List (List Int)} (h : ∃ rows, Ng.Own b v rows u ∧ Nh.Rows u B rows NQ) (hz : 0 < NQ.length) : ∃ g m c, v = .slice (some ⟨g, 0, none⟩) m c := by
  obtain ⟨rows, h1, h2⟩ := h
  obtain ⟨g, c, e, _⟩ := World.ownsRow.form h1 (by rw [h2.1]; exact hz)
  exact ⟨g, _, c, e⟩
end Go.Proofs.Ytnbbepgjpfhjdaa
