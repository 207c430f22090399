/- A region that draws its order, some edges of which bind no order: plain. -/
import Derived.Test.YtndenipjiclkaaaRgE
namespace Go.Proofs.Ytndenipjiclkaaa
set_option linter.unusedVariables false
set_option linter.unusedSimpArgs false
/-- what is asked of the region's text: no guard, no select, a slot for each, what an operation looks at comes ahead of it -/
def Rg.textW (ops : Array Oper) : Bool :=
  ops.toList.zipIdx.all fun (o, i) => o.guard.isNone && (match o.op with | .select .. => false | _ => true) &&
    (o.after.toList.all fun e => decide (e.on < i)) &&
    (ops.toList.zipIdx.all fun (o', j) => i == j || (match o.dst with | none => true | some d => !(o'.dst == some d))) &&
    (o.op.operands.toList.all fun x => match x with
      | .tmp t => ops.toList.zipIdx.all fun (o', j) => !(o'.dst == some t) || o.after.toList.any fun e => e.on == j && Region.binds .any e
      | _ => true)
/-- each operation, whenever what it looks at is so, answers so -/
def Rg.StepsW (P : Program) (Rel : Nat → Value → World → Prop) (W : World → Prop) (M : World → World → Prop) (ρ : (Nat → Value) → Operand → Value) : List Oper → Nat → Prop
  | [], _ => True
  | o :: r, i => (∀ (f : Nat → Value) (w : World), W w → (∀ e ∈ o.after.toList, Region.binds .any e = true → Rel e.on (f e.on) w) → Rg.step P (ρ f) o w fun v w' => Rel i v w' ∧ W w' ∧ M w w') ∧ Rg.StepsW P Rel W M ρ r (i + 1)
theorem Rg.StepsW.get {P : Program} {Rel : Nat → Value → World → Prop} {W : World → Prop} {M : World → World → Prop} {ρ : (Nat → Value) → Operand → Value} : ∀ {l : List Oper} {i : Nat}, Rg.StepsW P Rel W M ρ l i → ∀ j o, l[j]? = some o → ∀ (f : Nat → Value) (w : World), W w → (∀ e ∈ o.after.toList, Region.binds .any e = true → Rel e.on (f e.on) w) → Rg.step P (ρ f) o w fun v w' => Rel (i + j) v w' ∧ W w' ∧ M w w'
  | [], _, _, j, o, h => by simp at h
  | o' :: r, i, hs, j, o, h => by
    cases j with
    | zero => simp at h; subst h; exact hs.1
    | succ j =>
      have := Rg.StepsW.get hs.2 j o (by simpa using h)
      rwa [show i + 1 + j = i + (j + 1) by omega] at this
theorem Rg.textW_get {ops : Array Oper} (h : Rg.textW ops = true) {i : Nat} {o : Oper} (ho : ops[i]? = some o) :
    o.guard = none ∧ (∀ cs b, o.op ≠ .select cs b) ∧ (∀ e ∈ o.after, e.on < i) ∧ (∀ j o' d, ops[j]? = some o' → i ≠ j → o.dst = some d → o'.dst ≠ some d) ∧
      (∀ t, .tmp t ∈ o.op.operands → ∀ j o', ops[j]? = some o' → o'.dst = some t → ∃ e ∈ o.after, e.on = j ∧ Region.binds .any e = true) := by
  unfold Rg.textW at h
  rw [List.all_eq_true] at h
  have hmem : ∀ {j : Nat} {o' : Oper}, ops[j]? = some o' → (o', j) ∈ ops.toList.zipIdx := fun {j o'} h => by
    rw [List.mem_zipIdx_iff_getElem?]; simpa using h
  have := h (o, i) (hmem ho)
  simp only [Bool.and_eq_true] at this
  obtain ⟨⟨⟨⟨h1, h2⟩, h3⟩, h4⟩, h5⟩ := this
  refine ⟨by simpa using h1, ?_, ?_, ?_, ?_⟩
  · intro cs b e
    rw [e] at h2
    simp at h2
  · intro e he
    rw [List.all_eq_true] at h3
    have := h3 e (by simpa using he)
    simpa using this
  · intro j o' d hj hij hd e
    rw [List.all_eq_true] at h4
    have := h4 (o', j) (hmem hj)
    simp [hd, e, hij] at this
  · intro t ht j o' hj hd
    rw [List.all_eq_true] at h5
    have := h5 (.tmp t) (by simpa using ht)
    simp only [List.all_eq_true] at this
    have := this (o', j) (hmem hj)
    simp only [hd, beq_self_eq_true, Bool.not_true, Bool.false_or, List.any_eq_true] at this
    obtain ⟨e, he1, he2⟩ := this
    simp only [Bool.and_eq_true, beq_iff_eq] at he2
    exact ⟨e, by simpa using he1, he2.1, he2.2⟩
theorem Rg.apart_ofW {ops : Array Oper} (h : Rg.textW ops = true) : Rg.apart ops.toList := by
  have key : ∀ (l : List Oper) (i : Nat), ops.toList.drop i = l → Rg.apart l := by
    intro l
    induction l with
    | nil => intro i _; trivial
    | cons o r ih =>
      intro i hi
      have hget : ∀ j o', (o :: r)[j]? = some o' → ops[i + j]? = some o' := fun j o' hj => by
        rw [← hi, List.getElem?_drop] at hj
        simpa using hj
      refine ⟨?_, ih (i + 1) ?_⟩
      · intro o' ho' d hd
        obtain ⟨j, hj⟩ := List.getElem?_of_mem ho'
        exact (Rg.textW_get h (hget 0 o rfl)).2.2.2.1 (i + (j + 1)) o' d (hget (j + 1) o' (by simpa using hj)) (by omega) hd
      · have := congrArg (List.drop 1) hi
        rw [List.drop_drop] at this
        simpa [Nat.add_comm] using this
  exact key _ 0 (by simp)
/-- THE RULE. -/
theorem Rg.regionW {P : Program} {ops : Array Oper} {Q : Exit → Act → World → Prop} {id : Nat} {a : Act} {w : World} (hm : P.follows .mixedOrders = true) (ht : Rg.textW ops = true)
    (Rel : Nat → Value → World → Prop) (W : World → Prop) (M : World → World → Prop)
    (hM : ∀ i v w w', Rel i v w → W w → M w w' → Rel i v w') (hW : W w.drew)
    (hs : Rg.StepsW P Rel W M (fun f => (Rg.all f ops.toList 0 a).eval) ops.toList 0)
    (he : ∀ (f : Nat → Value) (w : World), W w → (∀ i, i < ops.size → Rel i (f i) w) → Q .normal (Rg.all f ops.toList 0 a) w) : (Code.region id ops true).wp P Q a w := by
  refine wp_region_any hm ?_
  have key : ∀ (n : Nat) (listed : Array Bool) (f : Nat → Value) (w : World), listed.size = ops.size → ((List.range ops.size).countP fun i => !listed.getD i false) ≤ n → W w → (∀ i, listed.getD i false = true → Rel i (f i) w) → wpAny P .any ops Q n listed (Rg.put (fun i => listed.getD i false) f ops.toList 0 a) w := by
    have done : ∀ (listed : Array Bool) (f : Nat → Value) (w : World), listed.size = ops.size → Region.ready .any ops listed = [] → W w → (∀ i, listed.getD i false = true → Rel i (f i) w) → Q .normal (Rg.put (fun i => listed.getD i false) f ops.toList 0 a) w := by
      intro listed f w hsz hr hw hR
      have hall : ∀ i, i < ops.size → listed.getD i false = true := by
        intro i
        induction i using Nat.strongRecOn with
        | _ i ih =>
          intro hi
          by_cases hl : listed.getD i false = true
          · exact hl
          · have ho : ops[i]? = some ops[i] := by simp [hi]
            have hmem : i ∈ Region.ready .any ops listed := mem_ready.2 ⟨by
              rw [Array.getD_eq_getD_getElem?] at hl ⊢
              have : listed[i]? = some listed[i] := by simp [hsz, hi]
              rw [this] at hl ⊢
              simpa using hl, ops[i], ho, fun e he _ => ih e.on ((Rg.textW_get ht ho).2.2.1 e he) (by have := ((Rg.textW_get ht ho).2.2.1 e he); omega)⟩
            rw [hr] at hmem
            simp at hmem
      rw [Rg.put_all (fun j _ h2 => hall j (by simpa using h2))]
      exact he f w hw (fun i hi => hR i (hall i hi))
    intro n
    induction n with
    | zero =>
      intro listed f w hsz hn hw hR
      have hr : Region.ready .any ops listed = [] := by
        rw [List.eq_nil_iff_forall_not_mem]
        intro i hi
        obtain ⟨h1, o, ho, _⟩ := mem_ready.1 hi
        have hlt : i < ops.size := (Array.getElem?_eq_some_iff.1 ho).1
        have hc : 0 < (List.range ops.size).countP fun i => !listed.getD i false := List.countP_pos_iff.2 ⟨i, by simpa using hlt, by
          rw [Array.getD_eq_getD_getElem?] at h1 ⊢
          have : listed[i]? = some listed[i] := by simp [hsz, hlt]
          rw [this] at h1 ⊢
          simpa using h1⟩
        omega
      exact ⟨hr, done listed f w hsz hr hw hR⟩
    | succ n ih =>
      intro listed f w hsz hn hw hR
      refine ⟨fun hr => done listed f w hsz hr hw hR, fun i hi => ?_⟩
      obtain ⟨h1, o, ho, hdep⟩ := mem_ready.1 hi
      have hlt : i < ops.size := (Array.getElem?_eq_some_iff.1 ho).1
      obtain ⟨g1, g2, g3, g4, g5⟩ := Rg.textW_get ht ho
      have hli : listed.getD i false = false := by
        rw [Array.getD_eq_getD_getElem?] at h1 ⊢
        have : listed[i]? = some listed[i] := by simp [hsz, hlt]
        rw [this] at h1 ⊢
        simpa using h1
      unfold wpOp
      simp only [ho]
      have hwt : Region.wanted o (yielded ops (Rg.put (fun i => listed.getD i false) f ops.toList 0 a).tmps) = true := by simp [Region.wanted, g1]
      rw [if_pos hwt]
      refine .inl ?_
      have hl2 : ops.toList[i]? = some o := by simpa using ho
      refine Rg.step_wp (hs.get i o hl2 f w hw (fun e he hbi => hR _ (hdep e (by simpa using he) hbi))) ?_ ?_
      · refine execOp_congr o g2 fun x hx => ?_
        cases x with
        | tmp t =>
          refine Rg.eval (fun j o' hj hd => ?_) rfl rfl
          rw [Nat.zero_add]
          obtain ⟨e, he1, he2, he3⟩ := g5 t hx j o' (by simpa using hj) hd
          rw [← he2]
          exact hdep e he1 he3
        | const v => rfl
        | global g => rfl
        | func g => rfl
      · rintro v w' ⟨r1, r2, r3⟩
        rw [Nat.zero_add] at r1
        rw [Rg.put_on (Rg.apart_ofW ht) (Nat.zero_le i) (by simpa using hl2) hli]
        have hset : (fun k => if k = i then true else listed.getD k false) = fun k => (listed.setIfInBounds i true).getD k false := by
          funext k
          by_cases hk : k = i
          · subst hk
            simp [Array.getD_eq_getD_getElem?, hsz, hlt]
          · rw [if_neg hk, getD_set_ne false (Ne.symm hk)]
        rw [hset]
        refine ih (listed.setIfInBounds i true) _ w' (by simpa using hsz) ?_ r2 ?_
        · have hcount : ((List.range ops.size).countP fun k => !(listed.setIfInBounds i true).getD k false) < (List.range ops.size).countP fun k => !listed.getD k false := by
            refine Rg.count_lt (x := i) (by simpa using hlt) (fun k _ hk => ?_) (by rw [hli]; rfl) (by simp [Array.getD_eq_getD_getElem?, hsz, hlt])
            by_cases e : k = i
            · subst e; rw [hli]; rfl
            · rw [getD_set_ne false (Ne.symm e)] at hk; exact hk
          omega
        · intro k hk
          by_cases e : k = i
          · subst e; simpa using r1
          · simp only [e, if_false]
            rw [getD_set_ne false (Ne.symm e)] at hk
            exact hM _ _ _ _ (hR k hk) hw r3
  have := key ops.size (Array.replicate ops.size false) (fun _ => undef) w.drew (by simp) (by
    have h := List.countP_le_length (p := fun i => !(Array.replicate ops.size false).getD i false) (l := List.range ops.size)
    simpa using h) hW (fun i hi => by
      simp [Array.getD_eq_getD_getElem?, Array.getElem?_replicate] at hi
      split at hi <;> simp at hi)
  rw [Rg.put_none (fun j _ h2 => by
    simp [Array.getD_eq_getD_getElem?, Array.getElem?_replicate]
    split <;> rfl)] at this
  exact this
end Go.Proofs.Ytndenipjiclkaaa
