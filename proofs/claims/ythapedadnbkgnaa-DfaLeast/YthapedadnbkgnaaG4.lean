/- A region that draws its order, by one relation for each operation's answer: whatever the order, the relations hold behind it. A region that draws its order and ends in one operation that hangs on all others. A region that draws its order and ends in one operation that hangs on all others; calls in it may panic. A region that draws its order, whose last operation writes what others read. A region that draws its order and is guarded: all its operations but the last one only read: whatever the order, each answers the same. -/
import Derived.Test.YthapedadnbkgnaaRows
import Derived.Orders
import Derived.Below
import Derived.Deep.AppendLies
namespace Go.Proofs.Ythapedadnbkgnaa
set_option linter.unusedVariables false
set_option linter.unusedSimpArgs false
def Rg.step (P : Program) (ρ : Operand → Value) (o : Oper) (w : World) (R : Value → World → Prop) : Prop :=
  match (execOp ρ o).run P w with
  | .ok (.value v) w' => R v w'
  | .ok .skip w' => R undef w'
  | .ok (.enter f args) w' => Calls P f args w' fun e w'' => ∃ v, e = .returned v ∧ R v w''
  | _ => False
theorem Rg.step_wp {P : Program} {ρ : Operand → Value} {o : Oper} {w : World} {R : Value → World → Prop} (h : Rg.step P ρ o w R) {a : Act} (he : execOp a.eval o = execOp ρ o) {K : Act → World → Prop} {Q : Exit → Act → World → Prop} (hK : ∀ v w', R v w' → K (a.put o.dst v) w') : o.wp P a w K Q := by
  unfold Rg.step at h
  unfold Oper.wp
  rw [he]
  generalize (execOp ρ o).run P w = r at h
  cases r with
  | ok n w' =>
    cases n <;> simp only [Oper.upon] at h ⊢
    case value v => exact hK _ _ h
    case skip => exact hK _ _ h
    case enter f args =>
      refine h.mono fun e w'' he => ?_
      obtain ⟨v, rfl, hR⟩ := he
      exact hK _ _ hR
  | halt x w' => simp at h
def Rg.put (L : Nat → Bool) (f : Nat → Value) : List Oper → Nat → Act → Act
  | [], _, a => a
  | o :: r, i, a => Rg.put L f r (i + 1) (if L i then a.put o.dst (f i) else a)
def Rg.all (f : Nat → Value) : List Oper → Nat → Act → Act
  | [], _, a => a
  | o :: r, i, a => Rg.all f r (i + 1) (a.put o.dst (f i))
theorem Rg.put_all {L : Nat → Bool} {f : Nat → Value} : ∀ {l : List Oper} {i : Nat} {a : Act}, (∀ j, i ≤ j → j < i + l.length → L j = true) → Rg.put L f l i a = Rg.all f l i a
  | [], _, _, _ => rfl
  | o :: r, i, a, h => by
    rw [Rg.put, Rg.all, if_pos (h i (Nat.le_refl _) (by simp))]
    exact Rg.put_all fun j h1 h2 => h j (by omega) (by simp; omega)
theorem Rg.put_none {L : Nat → Bool} {f : Nat → Value} : ∀ {l : List Oper} {i : Nat} {a : Act}, (∀ j, i ≤ j → j < i + l.length → L j = false) → Rg.put L f l i a = a
  | [], _, _, _ => rfl
  | o :: r, i, a, h => by
    rw [Rg.put, if_neg (by rw [h i (Nat.le_refl _) (by simp)]; simp)]
    exact Rg.put_none fun j h1 h2 => h j (by omega) (by simp; omega)
theorem Rg.put_out {L : Nat → Bool} {f : Nat → Value} {x : Option Tmp} {v : Value} : ∀ {l : List Oper} {i : Nat} {a : Act}, (∀ o ∈ l, ∀ d, x = some d → o.dst ≠ some d) → Rg.put L f l i (a.put x v) = (Rg.put L f l i a).put x v
  | [], _, _, _ => rfl
  | o :: r, i, a, h => by
    rw [Rg.put, Rg.put]
    have hr := fun o' ho' => h o' (List.mem_cons_of_mem _ ho')
    cases L i
    · exact Rg.put_out hr
    · simp only [if_true]
      rw [Act.put_comm a v (f i) (fun d hd => h o (by simp) d hd)]
      exact Rg.put_out hr
theorem Rg.put_congr {L L' : Nat → Bool} {f f' : Nat → Value} : ∀ {l : List Oper} {i : Nat} {a : Act}, (∀ j, i ≤ j → L j = L' j ∧ f j = f' j) → Rg.put L f l i a = Rg.put L' f' l i a
  | [], _, _, _ => rfl
  | o :: r, i, a, h => by
    rw [Rg.put, Rg.put, (h i (Nat.le_refl _)).1, (h i (Nat.le_refl _)).2]
    exact Rg.put_congr fun j hj => h j (by omega)
def Rg.apart : List Oper → Prop
  | [] => True
  | o :: r => (∀ o' ∈ r, ∀ d, o.dst = some d → o'.dst ≠ some d) ∧ Rg.apart r
theorem Rg.put_on {L : Nat → Bool} {f : Nat → Value} {v : Value} {j : Nat} : ∀ {l : List Oper} {i : Nat} {a : Act} {o : Oper}, Rg.apart l → i ≤ j → l[j - i]? = some o → L j = false → (Rg.put L f l i a).put o.dst v = Rg.put (fun k => if k = j then true else L k) (fun k => if k = j then v else f k) l i a
  | [], _, _, _, _, _, h, _ => by simp at h
  | o' :: r, i, a, o, ha, hi, h, hL => by
    by_cases e : i = j
    · subst e
      rw [Nat.sub_self, List.getElem?_cons_zero, Option.some.injEq] at h
      subst h
      rw [Rg.put, Rg.put, hL]
      simp only [Bool.false_eq_true, if_false, if_true]
      rw [Rg.put_out (fun o'' ho'' d hd => ha.1 o'' ho'' d hd)]
      congr 1
      exact Rg.put_congr fun k hk => by
        have : k ≠ i := by omega
        simp [this]
    · rw [Rg.put, Rg.put]
      simp only [e, if_false]
      refine Rg.put_on ha.2 (by omega) ?_ hL
      rw [show j - i = (j - (i + 1)) + 1 by omega, List.getElem?_cons_succ] at h
      exact h
theorem Rg.put_size {x : Option Tmp} {v : Value} (a : Act) : (a.put x v).tmps.size = a.tmps.size := by
  cases x <;> simp [Act.put]
theorem Rg.eval {L : Nat → Bool} {f : Nat → Value} {t : Tmp} : ∀ {l : List Oper} {i : Nat} {a a' : Act}, (∀ j o, l[j]? = some o → o.dst = some t → L (i + j) = true) → a.eval (.tmp t) = a'.eval (.tmp t) → a.tmps.size = a'.tmps.size → (Rg.put L f l i a).eval (.tmp t) = (Rg.all f l i a').eval (.tmp t)
  | [], _, _, _, _, h, _ => h
  | o :: r, i, a, a', h, he, hs => by
    rw [Rg.put, Rg.all]
    have hr : ∀ j o', r[j]? = some o' → o'.dst = some t → L (i + 1 + j) = true := fun j o' h1 h2 => by
      have := h (j + 1) o' (by simpa using h1) h2
      rwa [show i + (j + 1) = i + 1 + j by omega] at this
    by_cases hd : o.dst = some t
    · rw [if_pos (show L i = true from h 0 o rfl hd), hd]
      refine Rg.eval hr ?_ (by rw [Rg.put_size, Rg.put_size, hs])
      simp only [Act.put, Act.eval]
      simp only [Act.eval] at he
      rw [Array.getD_eq_getD_getElem?, Array.getD_eq_getD_getElem?, Array.getElem?_setIfInBounds_self, Array.getElem?_setIfInBounds_self, hs]
    · have e1 : ∀ (b : Act) (v : Value), (b.put o.dst v).eval (.tmp t) = b.eval (.tmp t) := fun b v => Act.eval_put fun d h1 h2 => hd (by rw [h1]; injection h2 with h2; rw [h2])
      refine Rg.eval hr ?_ ?_
      · rw [e1]
        split
        · rw [e1]; exact he
        · exact he
      · rw [Rg.put_size]
        split
        · rw [Rg.put_size]; exact hs
        · exact hs
def Rg.text (ops : Array Oper) : Bool :=
  ops.toList.zipIdx.all fun (o, i) => o.guard.isNone && (match o.op with | .select .. => false | _ => true) &&
    (o.after.toList.all fun e => decide (e.on < i) && Region.binds .any e) &&
    (ops.toList.zipIdx.all fun (o', j) => i == j || (match o.dst with | none => true | some d => !(o'.dst == some d))) &&
    (o.op.operands.toList.all fun x => match x with
      | .tmp t => ops.toList.zipIdx.all fun (o', j) => !(o'.dst == some t) || o.after.toList.any fun e => e.on == j
      | _ => true)
def Rg.Steps (P : Program) (Rel : Nat → Value → World → Prop) (W : World → Prop) (M : World → World → Prop) (ρ : (Nat → Value) → Operand → Value) : List Oper → Nat → Prop
  | [], _ => True
  | o :: r, i => (∀ (f : Nat → Value) (w : World), W w → (∀ e ∈ o.after.toList, Rel e.on (f e.on) w) → Rg.step P (ρ f) o w fun v w' => Rel i v w' ∧ W w' ∧ M w w') ∧ Rg.Steps P Rel W M ρ r (i + 1)
theorem Rg.Steps.get {P : Program} {Rel : Nat → Value → World → Prop} {W : World → Prop} {M : World → World → Prop} {ρ : (Nat → Value) → Operand → Value} : ∀ {l : List Oper} {i : Nat}, Rg.Steps P Rel W M ρ l i → ∀ j o, l[j]? = some o → ∀ (f : Nat → Value) (w : World), W w → (∀ e ∈ o.after.toList, Rel e.on (f e.on) w) → Rg.step P (ρ f) o w fun v w' => Rel (i + j) v w' ∧ W w' ∧ M w w'
  | [], _, _, j, o, h => by simp at h
  | o' :: r, i, hs, j, o, h => by
    cases j with
    | zero => simp at h; subst h; exact hs.1
    | succ j =>
      have := Rg.Steps.get hs.2 j o (by simpa using h)
      rwa [show i + 1 + j = i + (j + 1) by omega] at this
theorem Rg.text_get {ops : Array Oper} (h : Rg.text ops = true) {i : Nat} {o : Oper} (ho : ops[i]? = some o) :
    o.guard = none ∧ (∀ cs b, o.op ≠ .select cs b) ∧ (∀ e ∈ o.after, e.on < i ∧ Region.binds .any e = true) ∧ (∀ j o' d, ops[j]? = some o' → i ≠ j → o.dst = some d → o'.dst ≠ some d) ∧
      (∀ t, .tmp t ∈ o.op.operands → ∀ j o', ops[j]? = some o' → o'.dst = some t → ∃ e ∈ o.after, e.on = j) := by
  unfold Rg.text at h
  rw [List.all_eq_true] at h
  have hmem : ∀ {j : Nat} {o' : Oper}, ops[j]? = some o' → (o', j) ∈ ops.toList.zipIdx := fun {j o'} h => by
    rw [List.mem_zipIdx_iff_getElem?]; simpa using h
  have := h (o, i) (hmem ho)
  simp only [Bool.and_eq_true] at this
  obtain ⟨⟨⟨⟨h1, h2⟩, h3⟩, h4⟩, h5⟩ := this
  refine ⟨by simpa using h1, ?_, ?_, ?_, ?_⟩
  · intro cs b e
    rw [e] at h2
    simp at h2
  · intro e he
    rw [List.all_eq_true] at h3
    have := h3 e (by simpa using he)
    simpa using this
  · intro j o' d hj hij hd e
    rw [List.all_eq_true] at h4
    have := h4 (o', j) (hmem hj)
    simp [hd, e, hij] at this
  · intro t ht j o' hj hd
    rw [List.all_eq_true] at h5
    have := h5 (.tmp t) (by simpa using ht)
    simp only [List.all_eq_true] at this
    have := this (o', j) (hmem hj)
    simp only [hd, beq_self_eq_true, Bool.not_true, Bool.false_or, List.any_eq_true] at this
    obtain ⟨e, he1, he2⟩ := this
    exact ⟨e, by simpa using he1, by simpa using he2⟩
theorem Rg.apart_of {ops : Array Oper} (h : Rg.text ops = true) : Rg.apart ops.toList := by
  have key : ∀ (l : List Oper) (i : Nat), ops.toList.drop i = l → Rg.apart l := by
    intro l
    induction l with
    | nil => intro i _; trivial
    | cons o r ih =>
      intro i hi
      have hget : ∀ j o', (o :: r)[j]? = some o' → ops[i + j]? = some o' := fun j o' hj => by
        rw [← hi, List.getElem?_drop] at hj
        simpa using hj
      refine ⟨?_, ih (i + 1) ?_⟩
      · intro o' ho' d hd
        obtain ⟨j, hj⟩ := List.getElem?_of_mem ho'
        exact (Rg.text_get h (hget 0 o rfl)).2.2.2.1 (i + (j + 1)) o' d (hget (j + 1) o' (by simpa using hj)) (by omega) hd
      · have := congrArg (List.drop 1) hi
        rw [List.drop_drop] at this
        simpa [Nat.add_comm] using this
  exact key _ 0 (by simp)
theorem Rg.count_lt {p q : Nat → Bool} : ∀ {l : List Nat} {x : Nat}, x ∈ l → (∀ k ∈ l, q k = true → p k = true) → p x = true → q x = false → l.countP q < l.countP p
  | [], _, h, _, _, _ => by simp at h
  | y :: r, x, h, hp, h1, h2 => by
    have hle : r.countP q ≤ r.countP p := List.countP_mono_left fun k hk => hp k (by simp [hk])
    rw [List.countP_cons, List.countP_cons]
    by_cases e : x = y
    · subst e
      rw [h1, h2]; simp; omega
    · have := Rg.count_lt (l := r) (x := x) (by simpa [e] using h) (fun k hk => hp k (by simp [hk])) h1 h2
      have hy := hp y (by simp)
      cases hq : q y
      · simp; omega
      · rw [hy hq]; simp; omega
def Rg.tail (ops : Array Oper) : Bool := (List.range (ops.size - 1)).all fun i => ops.toList.zipIdx.any fun (o, j) => decide (i < j) && o.after.toList.any fun e => e.on == i
theorem Rg.tail_get {ops : Array Oper} (h : Rg.tail ops = true) {i : Nat} (hi : i < ops.size - 1) : ∃ j o e, i < j ∧ ops[j]? = some o ∧ e ∈ o.after ∧ e.on = i := by
  unfold Rg.tail at h
  rw [List.all_eq_true] at h
  have := h i (by simpa using hi)
  rw [List.any_eq_true] at this
  obtain ⟨⟨o, j⟩, hm, h2⟩ := this
  rw [List.mem_zipIdx_iff_getElem?] at hm
  simp only [Bool.and_eq_true, decide_eq_true_eq, List.any_eq_true] at h2
  obtain ⟨h3, e, he, h4⟩ := h2
  exact ⟨j, o, e, h3, by simpa using hm, by simpa using he, by simpa using h4⟩
theorem Rg.regionT {P : Program} {ops : Array Oper} {Q : Exit → Act → World → Prop} {id : Nat} {a : Act} {w : World} (hm : P.follows .mixedOrders = true) (ht : Rg.text ops = true) (hl : Rg.tail ops = true) (hn : 0 < ops.size)
    (Rel : Nat → Value → World → Prop) (W : World → Prop) (M : World → World → Prop)
    (hM : ∀ i v w w', Rel i v w → W w → M w w' → Rel i v w') (hW : W w.drew)
    (hs : Rg.Steps P Rel W M (fun f => (Rg.all f ops.toList 0 a).eval) (ops.toList.take (ops.size - 1)) 0)
    (he : ∀ (f : Nat → Value) (w : World), W w → (∀ i, i < ops.size - 1 → Rel i (f i) w) → ∀ o, ops[ops.size - 1]? = some o → Rg.step P (Rg.all f ops.toList 0 a).eval o w fun v w' => Q .normal ((Rg.all f ops.toList 0 a).put o.dst v) w') : (Code.region id ops true).wp P Q a w := by
  refine wp_region_any hm ?_
  have key : ∀ (n : Nat) (listed : Array Bool) (f : Nat → Value) (w : World), listed.size = ops.size → ((List.range ops.size).countP fun i => !listed.getD i false) ≤ n → (∀ j o e, ops[j]? = some o → listed.getD j false = true → e ∈ o.after → listed.getD e.on false = true) →
      ((listed.getD (ops.size - 1) false = false ∧ W w ∧ ∀ i, listed.getD i false = true → Rel i (f i) w) ∨ (listed.getD (ops.size - 1) false = true ∧ Q .normal (Rg.all f ops.toList 0 a) w)) → wpAny P .any ops Q n listed (Rg.put (fun i => listed.getD i false) f ops.toList 0 a) w := by
    have allL : ∀ (listed : Array Bool), listed.size = ops.size → (∀ j o e, ops[j]? = some o → listed.getD j false = true → e ∈ o.after → listed.getD e.on false = true) → (∀ o e, ops[ops.size - 1]? = some o → e ∈ o.after → listed.getD e.on false = true) → ∀ i, i < ops.size - 1 → listed.getD i false = true := by
      intro listed hsz hcl hlast i hi
      have : ∀ (d i : Nat), d = ops.size - 1 - i → i < ops.size - 1 → listed.getD i false = true := by
        intro d
        induction d using Nat.strongRecOn with
        | _ d ih =>
          intro i hd hi
          obtain ⟨j, o, e, hij, ho, he1, he2⟩ := Rg.tail_get hl hi
          have hj : j < ops.size := (Array.getElem?_eq_some_iff.1 ho).1
          rw [← he2]
          by_cases hjl : j = ops.size - 1
          · exact hlast o e (by rw [← hjl]; exact ho) he1
          · exact hcl j o e ho (ih (ops.size - 1 - j) (by omega) j rfl (by omega)) he1
      exact this _ i rfl hi
    have done : ∀ (listed : Array Bool) (f : Nat → Value) (w : World), listed.size = ops.size → (∀ j o e, ops[j]? = some o → listed.getD j false = true → e ∈ o.after → listed.getD e.on false = true) → Region.ready .any ops listed = [] → ((listed.getD (ops.size - 1) false = false ∧ W w ∧ ∀ i, listed.getD i false = true → Rel i (f i) w) ∨ (listed.getD (ops.size - 1) false = true ∧ Q .normal (Rg.all f ops.toList 0 a) w)) → Q .normal (Rg.put (fun i => listed.getD i false) f ops.toList 0 a) w := by
      intro listed f w hsz hcl hr hor
      have hall : ∀ i, i < ops.size → listed.getD i false = true := by
        intro i
        induction i using Nat.strongRecOn with
        | _ i ih =>
          intro hi
          by_cases hl : listed.getD i false = true
          · exact hl
          · have ho : ops[i]? = some ops[i] := by simp [hi]
            have hmem : i ∈ Region.ready .any ops listed := mem_ready.2 ⟨by
              rw [Array.getD_eq_getD_getElem?] at hl ⊢
              have : listed[i]? = some listed[i] := by simp [hsz, hi]
              rw [this] at hl ⊢
              simpa using hl, ops[i], ho, fun e he _ => ih e.on ((Rg.text_get ht ho).2.2.1 e he).1 (by have := ((Rg.text_get ht ho).2.2.1 e he).1; omega)⟩
            rw [hr] at hmem
            simp at hmem
      rw [Rg.put_all (fun j _ h2 => hall j (by simpa using h2))]
      rcases hor with ⟨h1, _⟩ | ⟨_, h2⟩
      · rw [hall _ (by omega)] at h1; simp at h1
      · exact h2
    intro n
    induction n with
    | zero =>
      intro listed f w hsz hn hcl hor
      have hr : Region.ready .any ops listed = [] := by
        rw [List.eq_nil_iff_forall_not_mem]
        intro i hi
        obtain ⟨h1, o, ho, _⟩ := mem_ready.1 hi
        have hlt : i < ops.size := (Array.getElem?_eq_some_iff.1 ho).1
        have hc : 0 < (List.range ops.size).countP fun i => !listed.getD i false := List.countP_pos_iff.2 ⟨i, by simpa using hlt, by
          rw [Array.getD_eq_getD_getElem?] at h1 ⊢
          have : listed[i]? = some listed[i] := by simp [hsz, hlt]
          rw [this] at h1 ⊢
          simpa using h1⟩
        omega
      exact ⟨hr, done listed f w hsz hcl hr hor⟩
    | succ n ih =>
      intro listed f w hsz hn' hcl hor
      refine ⟨fun hr => done listed f w hsz hcl hr hor, fun i hi => ?_⟩
      obtain ⟨h1, o, ho, hdep⟩ := mem_ready.1 hi
      have hlt : i < ops.size := (Array.getElem?_eq_some_iff.1 ho).1
      obtain ⟨g1, g2, g3, g4, g5⟩ := Rg.text_get ht ho
      have hdep' : ∀ e ∈ o.after, listed.getD e.on false = true := fun e he => hdep e he (g3 e he).2
      have hli : listed.getD i false = false := by
        rw [Array.getD_eq_getD_getElem?] at h1 ⊢
        have : listed[i]? = some listed[i] := by simp [hsz, hlt]
        rw [this] at h1 ⊢
        simpa using h1
      unfold wpOp
      simp only [ho]
      have hwt : Region.wanted o (yielded ops (Rg.put (fun i => listed.getD i false) f ops.toList 0 a).tmps) = true := by simp [Region.wanted, g1]
      rw [if_pos hwt]
      refine .inl ?_
      have hl2 : ops.toList[i]? = some o := by simpa using ho
      have hev : execOp (Rg.put (fun i => listed.getD i false) f ops.toList 0 a).eval o = execOp (Rg.all f ops.toList 0 a).eval o := by
        refine execOp_congr o g2 fun x hx => ?_
        cases x with
        | tmp t =>
          refine Rg.eval (fun j o' hj hd => ?_) rfl rfl
          rw [Nat.zero_add]
          obtain ⟨e, he1, he2⟩ := g5 t hx j o' (by simpa using hj) hd
          rw [← he2]
          exact hdep' e he1
        | const v => rfl
        | global g => rfl
        | func g => rfl
      have hset : (fun k => if k = i then true else listed.getD k false) = fun k => (listed.setIfInBounds i true).getD k false := by
        funext k
        by_cases hk : k = i
        · subst hk
          simp [Array.getD_eq_getD_getElem?, hsz, hlt]
        · rw [if_neg hk, getD_set_ne false (Ne.symm hk)]
      have hcount : ((List.range ops.size).countP fun k => !(listed.setIfInBounds i true).getD k false) < (List.range ops.size).countP fun k => !listed.getD k false := by
        refine Rg.count_lt (x := i) (by simpa using hlt) (fun k _ hk => ?_) (by rw [hli]; rfl) (by simp [Array.getD_eq_getD_getElem?, hsz, hlt])
        by_cases e : k = i
        · subst e; rw [hli]; rfl
        · rw [getD_set_ne false (Ne.symm e)] at hk; exact hk
      have hcl' : ∀ j o' e, ops[j]? = some o' → (listed.setIfInBounds i true).getD j false = true → e ∈ o'.after → (listed.setIfInBounds i true).getD e.on false = true := by
        intro j o' e ho' hj he
        refine getD_set_true ?_
        by_cases hji : j = i
        · subst hji
          rw [ho] at ho'
          injection ho' with ho'
          subst ho'
          exact hdep' e he
        · rw [getD_set_ne false (Ne.symm hji)] at hj
          exact hcl j o' e ho' hj he
      rcases hor with ⟨hlast, hw, hR⟩ | ⟨hlast, _⟩
      · by_cases hil : i = ops.size - 1
        · have hall : ∀ k, k < ops.size - 1 → listed.getD k false = true := allL listed hsz hcl (fun o' e ho' he' => by
            rw [← hil, ho] at ho'
            injection ho' with ho'
            subst ho'
            exact hdep' e he')
          refine Rg.step_wp (he f w hw (fun k hk => hR k (hall k hk)) o (by rw [← hil]; exact ho)) hev ?_
          intro v w' hq
          rw [Rg.put_on (Rg.apart_of ht) (Nat.zero_le i) (by simpa using hl2) hli, hset]
          refine ih (listed.setIfInBounds i true) _ w' (by simpa using hsz) (by omega) hcl' (.inr ⟨?_, ?_⟩)
          · rw [← hil]; simp [Array.getD_eq_getD_getElem?, hsz, hlt]
          · have e1 := Rg.put_on (L := fun k => listed.getD k false) (f := f) (v := v) (a := a) (Rg.apart_of ht) (Nat.zero_le i) (by simpa using hl2) hli
            have e2 : Rg.put (fun k => if k = i then true else listed.getD k false) (fun k => if k = i then v else f k) ops.toList 0 a = Rg.all (fun k => if k = i then v else f k) ops.toList 0 a := Rg.put_all (fun j _ h2 => by
              by_cases hji : j = i
              · simp [hji]
              · have h3 : j < ops.size := by simpa using h2
                simp only [hji, if_false]
                exact hall j (by omega))
            rw [← e2, ← e1]
            have e3 : (Rg.put (fun k => listed.getD k false) f ops.toList 0 a).put o.dst v = (Rg.all f ops.toList 0 a).put o.dst v := by
              have p1 : Rg.put (fun k => if k = i then true else listed.getD k false) f ops.toList 0 a = Rg.all f ops.toList 0 a := Rg.put_all (fun j _ h2 => by
                by_cases hji : j = i
                · simp [hji]
                · have h3 : j < ops.size := by simpa using h2
                  simp only [hji, if_false]
                  exact hall j (by omega))
              have p2 := Rg.put_on (L := fun k => listed.getD k false) (f := f) (v := f i) (a := a) (Rg.apart_of ht) (Nat.zero_le i) (by simpa using hl2) hli
              have p3 : (fun k => if k = i then f i else f k) = f := by
                funext k
                by_cases hk : k = i
                · simp [hk]
                · simp [hk]
              rw [p3, p1] at p2
              rw [← p2]
              cases hd : o.dst with
              | none => rfl
              | some d => simp [Act.put]
            rw [e3]
            exact hq
        · have hl3 : (ops.toList.take (ops.size - 1))[i]? = some o := by
            rw [List.getElem?_take, if_pos (by omega)]; exact hl2
          refine Rg.step_wp (hs.get i o hl3 f w hw (fun e he => hR _ (hdep' e (by simpa using he)))) hev ?_
          rintro v w' ⟨r1, r2, r3⟩
          rw [Nat.zero_add] at r1
          rw [Rg.put_on (Rg.apart_of ht) (Nat.zero_le i) (by simpa using hl2) hli, hset]
          refine ih (listed.setIfInBounds i true) _ w' (by simpa using hsz) (by omega) hcl' (.inl ⟨?_, r2, ?_⟩)
          · rw [getD_set_ne false hil]; exact hlast
          · intro k hk
            by_cases e : k = i
            · subst e; simpa using r1
            · simp only [e, if_false]
              rw [getD_set_ne false (Ne.symm e)] at hk
              exact hM _ _ _ _ (hR k hk) hw r3
      · exfalso
        have hlt' : ops.size - 1 < ops.size := by omega
        have ho' : ops[ops.size - 1]? = some ops[ops.size - 1] := by simp [hlt']
        have := allL listed hsz hcl (fun o' e h1 h2 => hcl _ o' e h1 hlast h2) i (by
          rcases Nat.lt_or_ge i (ops.size - 1) with h | h
          · exact h
          · have : i = ops.size - 1 := by omega
            rw [← this, hli] at hlast
            simp at hlast)
        rw [hli] at this
        simp at this
  have := key ops.size (Array.replicate ops.size false) (fun _ => undef) w.drew (by simp) (by
    have h := List.countP_le_length (p := fun i => !(Array.replicate ops.size false).getD i false) (l := List.range ops.size)
    simpa using h) (fun j o e _ hj _ => by
      simp [Array.getD_eq_getD_getElem?, Array.getElem?_replicate] at hj
      split at hj <;> simp at hj) (.inl ⟨by
      simp [Array.getD_eq_getD_getElem?, Array.getElem?_replicate]
      split <;> rfl, hW, fun i hi => by
      simp [Array.getD_eq_getD_getElem?, Array.getElem?_replicate] at hi
      split at hi <;> simp at hi⟩)
  rw [Rg.put_none (fun j _ h2 => by
    simp [Array.getD_eq_getD_getElem?, Array.getElem?_replicate]
    split <;> rfl)] at this
  exact this
def Rg.rel : List (Value → World → Prop) → Nat → Value → World → Prop
  | [], _, _, _ => True
  | p :: _, 0, v, w => p v w
  | _ :: r, i + 1, v, w => Rg.rel r i v w
def Rg.Ups : List (Value → World → Prop) → Prop
  | [] => True
  | p :: r => (∀ v (w w' : World), p v w → RowKit.Below w.heap.size w w' → p v w') ∧ Rg.Ups r
theorem Rg.rel_up : ∀ {l : List (Value → World → Prop)}, Rg.Ups l → ∀ {i : Nat} {v : Value} {w w' : World}, Rg.rel l i v w → RowKit.Below w.heap.size w w' → Rg.rel l i v w'
  | [], _, _, _, _, _, _, _ => by simp [Rg.rel]
  | p :: r, h, 0, v, w, w', hr, hb => h.1 v w w' hr hb
  | p :: r, h, i + 1, v, w, w', hr, hb => Rg.rel_up (l := r) h.2 (i := i) hr hb
def Rg.stepZ (P : Program) (ρ : Operand → Value) (o : Oper) (w : World) (Z : List PanicEntry → World → Prop) (R : Value → World → Prop) : Prop :=
  match (execOp ρ o).run P w with
  | .ok (.value v) w' => R v w'
  | .ok .skip w' => R undef w'
  | .ok (.enter f args) w' => Calls P f args w' fun e w'' => (∃ v, e = .returned v ∧ R v w'') ∨ (∃ c, e = .panicked c ∧ Z c w'')
  | _ => False
theorem Rg.stepZ_wp {P : Program} {ρ : Operand → Value} {o : Oper} {w : World} {Z : List PanicEntry → World → Prop} {R : Value → World → Prop} (h : Rg.stepZ P ρ o w Z R) {a : Act} (he : execOp a.eval o = execOp ρ o) {K : Act → World → Prop} {Q : Exit → Act → World → Prop} (hZ : ∀ c w', Z c w' → Q (.panic c) a w') (hK : ∀ v w', R v w' → K (a.put o.dst v) w') : o.wp P a w K Q := by
  unfold Rg.stepZ at h
  unfold Oper.wp
  rw [he]
  generalize (execOp ρ o).run P w = r at h
  cases r with
  | ok n w' =>
    cases n <;> simp only [Oper.upon] at h ⊢
    case value v => exact hK _ _ h
    case skip => exact hK _ _ h
    case enter f args =>
      refine h.mono fun e w'' he => ?_
      rcases he with ⟨v, rfl, hR⟩ | ⟨c, rfl, hz⟩
      · exact hK _ _ hR
      · exact hZ _ _ hz
  | halt x w' => simp at h
theorem Rg.put_defers (L : Nat → Bool) (f : Nat → Value) : ∀ (l : List Oper) (i : Nat) (a : Act), (Rg.put L f l i a).defers = a.defers
  | [], _, _ => rfl
  | o :: r, i, a => by
    rw [Rg.put, Rg.put_defers L f r]
    split
    · cases o.dst <;> rfl
    · rfl
def Rg.StepsZ (P : Program) (Rel : Nat → Value → World → Prop) (W : (Nat → Bool) → World → Prop) (M : Nat → World → World → Prop) (Z : List PanicEntry → World → Prop) (ρ : (Nat → Value) → Operand → Value) : List Oper → Nat → Prop
  | [], _ => True
  | o :: r, i => (∀ (L : Nat → Bool) (f : Nat → Value) (w : World), L i = false → W L w → (∀ e ∈ o.after.toList, L e.on = true ∧ Rel e.on (f e.on) w) → Rg.stepZ P (ρ f) o w Z fun v w' => Rel i v w' ∧ W (fun k => if k = i then true else L k) w' ∧ M i w w') ∧ Rg.StepsZ P Rel W M Z ρ r (i + 1)
theorem Rg.StepsZ.get {P : Program} {Rel : Nat → Value → World → Prop} {W : (Nat → Bool) → World → Prop} {M : Nat → World → World → Prop} {Z : List PanicEntry → World → Prop} {ρ : (Nat → Value) → Operand → Value} : ∀ {l : List Oper} {i : Nat}, Rg.StepsZ P Rel W M Z ρ l i → ∀ j o, l[j]? = some o → ∀ (L : Nat → Bool) (f : Nat → Value) (w : World), L (i + j) = false → W L w → (∀ e ∈ o.after.toList, L e.on = true ∧ Rel e.on (f e.on) w) → Rg.stepZ P (ρ f) o w Z fun v w' => Rel (i + j) v w' ∧ W (fun k => if k = i + j then true else L k) w' ∧ M (i + j) w w'
  | [], _, _, j, o, h => by simp at h
  | o' :: r, i, hs, j, o, h => by
    cases j with
    | zero => simp at h; subst h; exact hs.1
    | succ j =>
      have := Rg.StepsZ.get hs.2 j o (by simpa using h)
      rwa [show i + 1 + j = i + (j + 1) by omega] at this
theorem Rg.regionZ {P : Program} {ops : Array Oper} {Q : Exit → Act → World → Prop} {id : Nat} {a : Act} {w : World} (hm : P.follows .mixedOrders = true) (ht : Rg.text ops = true) (hl : Rg.tail ops = true) (hn : 0 < ops.size)
    (Rel : Nat → Value → World → Prop) (W : (Nat → Bool) → World → Prop) (M : Nat → World → World → Prop)
    (Z : List PanicEntry → World → Prop) (hZ : ∀ (c : List PanicEntry) (b : Act) (w : World), b.defers = a.defers → Z c w → Q (.panic c) b w)
    (hM : ∀ i j v w w', j ≠ i → Rel j v w → M i w w' → Rel j v w') (hW : W (fun _ => false) w.drew)
    (hs : Rg.StepsZ P Rel W M Z (fun f => (Rg.all f ops.toList 0 a).eval) (ops.toList.take (ops.size - 1)) 0)
    (he : ∀ (L : Nat → Bool) (f : Nat → Value) (w : World), (∀ i, i < ops.size - 1 → L i = true) → W L w → (∀ i, i < ops.size - 1 → Rel i (f i) w) → ∀ o, ops[ops.size - 1]? = some o → Rg.stepZ P (Rg.all f ops.toList 0 a).eval o w Z fun v w' => Q .normal ((Rg.all f ops.toList 0 a).put o.dst v) w') : (Code.region id ops true).wp P Q a w := by
  refine wp_region_any hm ?_
  have key : ∀ (n : Nat) (listed : Array Bool) (f : Nat → Value) (w : World), listed.size = ops.size → ((List.range ops.size).countP fun i => !listed.getD i false) ≤ n → (∀ j o e, ops[j]? = some o → listed.getD j false = true → e ∈ o.after → listed.getD e.on false = true) →
      ((listed.getD (ops.size - 1) false = false ∧ W (fun i => listed.getD i false) w ∧ ∀ i, listed.getD i false = true → Rel i (f i) w) ∨ (listed.getD (ops.size - 1) false = true ∧ Q .normal (Rg.all f ops.toList 0 a) w)) → wpAny P .any ops Q n listed (Rg.put (fun i => listed.getD i false) f ops.toList 0 a) w := by
    have allL : ∀ (listed : Array Bool), listed.size = ops.size → (∀ j o e, ops[j]? = some o → listed.getD j false = true → e ∈ o.after → listed.getD e.on false = true) → (∀ o e, ops[ops.size - 1]? = some o → e ∈ o.after → listed.getD e.on false = true) → ∀ i, i < ops.size - 1 → listed.getD i false = true := by
      intro listed hsz hcl hlast i hi
      have : ∀ (d i : Nat), d = ops.size - 1 - i → i < ops.size - 1 → listed.getD i false = true := by
        intro d
        induction d using Nat.strongRecOn with
        | _ d ih =>
          intro i hd hi
          obtain ⟨j, o, e, hij, ho, he1, he2⟩ := Rg.tail_get hl hi
          have hj : j < ops.size := (Array.getElem?_eq_some_iff.1 ho).1
          rw [← he2]
          by_cases hjl : j = ops.size - 1
          · exact hlast o e (by rw [← hjl]; exact ho) he1
          · exact hcl j o e ho (ih (ops.size - 1 - j) (by omega) j rfl (by omega)) he1
      exact this _ i rfl hi
    have done : ∀ (listed : Array Bool) (f : Nat → Value) (w : World), listed.size = ops.size → (∀ j o e, ops[j]? = some o → listed.getD j false = true → e ∈ o.after → listed.getD e.on false = true) → Region.ready .any ops listed = [] → ((listed.getD (ops.size - 1) false = false ∧ W (fun i => listed.getD i false) w ∧ ∀ i, listed.getD i false = true → Rel i (f i) w) ∨ (listed.getD (ops.size - 1) false = true ∧ Q .normal (Rg.all f ops.toList 0 a) w)) → Q .normal (Rg.put (fun i => listed.getD i false) f ops.toList 0 a) w := by
      intro listed f w hsz hcl hr hor
      have hall : ∀ i, i < ops.size → listed.getD i false = true := by
        intro i
        induction i using Nat.strongRecOn with
        | _ i ih =>
          intro hi
          by_cases hl : listed.getD i false = true
          · exact hl
          · have ho : ops[i]? = some ops[i] := by simp [hi]
            have hmem : i ∈ Region.ready .any ops listed := mem_ready.2 ⟨by
              rw [Array.getD_eq_getD_getElem?] at hl ⊢
              have : listed[i]? = some listed[i] := by simp [hsz, hi]
              rw [this] at hl ⊢
              simpa using hl, ops[i], ho, fun e he _ => ih e.on ((Rg.text_get ht ho).2.2.1 e he).1 (by have := ((Rg.text_get ht ho).2.2.1 e he).1; omega)⟩
            rw [hr] at hmem
            simp at hmem
      rw [Rg.put_all (fun j _ h2 => hall j (by simpa using h2))]
      rcases hor with ⟨h1, _⟩ | ⟨_, h2⟩
      · rw [hall _ (by omega)] at h1; simp at h1
      · exact h2
    intro n
    induction n with
    | zero =>
      intro listed f w hsz hn hcl hor
      have hr : Region.ready .any ops listed = [] := by
        rw [List.eq_nil_iff_forall_not_mem]
        intro i hi
        obtain ⟨h1, o, ho, _⟩ := mem_ready.1 hi
        have hlt : i < ops.size := (Array.getElem?_eq_some_iff.1 ho).1
        have hc : 0 < (List.range ops.size).countP fun i => !listed.getD i false := List.countP_pos_iff.2 ⟨i, by simpa using hlt, by
          rw [Array.getD_eq_getD_getElem?] at h1 ⊢
          have : listed[i]? = some listed[i] := by simp [hsz, hlt]
          rw [this] at h1 ⊢
          simpa using h1⟩
        omega
      exact ⟨hr, done listed f w hsz hcl hr hor⟩
    | succ n ih =>
      intro listed f w hsz hn' hcl hor
      refine ⟨fun hr => done listed f w hsz hcl hr hor, fun i hi => ?_⟩
      obtain ⟨h1, o, ho, hdep⟩ := mem_ready.1 hi
      have hlt : i < ops.size := (Array.getElem?_eq_some_iff.1 ho).1
      obtain ⟨g1, g2, g3, g4, g5⟩ := Rg.text_get ht ho
      have hdep' : ∀ e ∈ o.after, listed.getD e.on false = true := fun e he => hdep e he (g3 e he).2
      have hli : listed.getD i false = false := by
        rw [Array.getD_eq_getD_getElem?] at h1 ⊢
        have : listed[i]? = some listed[i] := by simp [hsz, hlt]
        rw [this] at h1 ⊢
        simpa using h1
      unfold wpOp
      simp only [ho]
      have hwt : Region.wanted o (yielded ops (Rg.put (fun i => listed.getD i false) f ops.toList 0 a).tmps) = true := by simp [Region.wanted, g1]
      rw [if_pos hwt]
      refine .inl ?_
      have hl2 : ops.toList[i]? = some o := by simpa using ho
      have hev : execOp (Rg.put (fun i => listed.getD i false) f ops.toList 0 a).eval o = execOp (Rg.all f ops.toList 0 a).eval o := by
        refine execOp_congr o g2 fun x hx => ?_
        cases x with
        | tmp t =>
          refine Rg.eval (fun j o' hj hd => ?_) rfl rfl
          rw [Nat.zero_add]
          obtain ⟨e, he1, he2⟩ := g5 t hx j o' (by simpa using hj) hd
          rw [← he2]
          exact hdep' e he1
        | const v => rfl
        | global g => rfl
        | func g => rfl
      have hset : (fun k => if k = i then true else listed.getD k false) = fun k => (listed.setIfInBounds i true).getD k false := by
        funext k
        by_cases hk : k = i
        · subst hk
          simp [Array.getD_eq_getD_getElem?, hsz, hlt]
        · rw [if_neg hk, getD_set_ne false (Ne.symm hk)]
      have hcount : ((List.range ops.size).countP fun k => !(listed.setIfInBounds i true).getD k false) < (List.range ops.size).countP fun k => !listed.getD k false := by
        refine Rg.count_lt (x := i) (by simpa using hlt) (fun k _ hk => ?_) (by rw [hli]; rfl) (by simp [Array.getD_eq_getD_getElem?, hsz, hlt])
        by_cases e : k = i
        · subst e; rw [hli]; rfl
        · rw [getD_set_ne false (Ne.symm e)] at hk; exact hk
      have hcl' : ∀ j o' e, ops[j]? = some o' → (listed.setIfInBounds i true).getD j false = true → e ∈ o'.after → (listed.setIfInBounds i true).getD e.on false = true := by
        intro j o' e ho' hj he
        refine getD_set_true ?_
        by_cases hji : j = i
        · subst hji
          rw [ho] at ho'
          injection ho' with ho'
          subst ho'
          exact hdep' e he
        · rw [getD_set_ne false (Ne.symm hji)] at hj
          exact hcl j o' e ho' hj he
      rcases hor with ⟨hlast, hw, hR⟩ | ⟨hlast, _⟩
      · by_cases hil : i = ops.size - 1
        · have hall : ∀ k, k < ops.size - 1 → listed.getD k false = true := allL listed hsz hcl (fun o' e ho' he' => by
            rw [← hil, ho] at ho'
            injection ho' with ho'
            subst ho'
            exact hdep' e he')
          refine Rg.stepZ_wp (he _ f w hall hw (fun k hk => hR k (hall k hk)) o (by rw [← hil]; exact ho)) hev (fun c u hz => hZ c _ u (Rg.put_defers ..) hz) ?_
          intro v w' hq
          rw [Rg.put_on (Rg.apart_of ht) (Nat.zero_le i) (by simpa using hl2) hli, hset]
          refine ih (listed.setIfInBounds i true) _ w' (by simpa using hsz) (by omega) hcl' (.inr ⟨?_, ?_⟩)
          · rw [← hil]; simp [Array.getD_eq_getD_getElem?, hsz, hlt]
          · have e1 := Rg.put_on (L := fun k => listed.getD k false) (f := f) (v := v) (a := a) (Rg.apart_of ht) (Nat.zero_le i) (by simpa using hl2) hli
            have e2 : Rg.put (fun k => if k = i then true else listed.getD k false) (fun k => if k = i then v else f k) ops.toList 0 a = Rg.all (fun k => if k = i then v else f k) ops.toList 0 a := Rg.put_all (fun j _ h2 => by
              by_cases hji : j = i
              · simp [hji]
              · have h3 : j < ops.size := by simpa using h2
                simp only [hji, if_false]
                exact hall j (by omega))
            rw [← e2, ← e1]
            have e3 : (Rg.put (fun k => listed.getD k false) f ops.toList 0 a).put o.dst v = (Rg.all f ops.toList 0 a).put o.dst v := by
              have p1 : Rg.put (fun k => if k = i then true else listed.getD k false) f ops.toList 0 a = Rg.all f ops.toList 0 a := Rg.put_all (fun j _ h2 => by
                by_cases hji : j = i
                · simp [hji]
                · have h3 : j < ops.size := by simpa using h2
                  simp only [hji, if_false]
                  exact hall j (by omega))
              have p2 := Rg.put_on (L := fun k => listed.getD k false) (f := f) (v := f i) (a := a) (Rg.apart_of ht) (Nat.zero_le i) (by simpa using hl2) hli
              have p3 : (fun k => if k = i then f i else f k) = f := by
                funext k
                by_cases hk : k = i
                · simp [hk]
                · simp [hk]
              rw [p3, p1] at p2
              rw [← p2]
              cases hd : o.dst with
              | none => rfl
              | some d => simp [Act.put]
            rw [e3]
            exact hq
        · have hl3 : (ops.toList.take (ops.size - 1))[i]? = some o := by
            rw [List.getElem?_take, if_pos (by omega)]; exact hl2
          refine Rg.stepZ_wp (hs.get i o hl3 (fun k => listed.getD k false) f w (by rw [Nat.zero_add]; exact hli) hw (fun e he => ⟨hdep' e (by simpa using he), hR _ (hdep' e (by simpa using he))⟩)) hev (fun c u hz => hZ c _ u (Rg.put_defers ..) hz) ?_
          rintro v w' ⟨r1, r2, r3⟩
          rw [Nat.zero_add] at r1 r2 r3
          rw [hset] at r2
          rw [Rg.put_on (Rg.apart_of ht) (Nat.zero_le i) (by simpa using hl2) hli, hset]
          refine ih (listed.setIfInBounds i true) _ w' (by simpa using hsz) (by omega) hcl' (.inl ⟨?_, r2, ?_⟩)
          · rw [getD_set_ne false hil]; exact hlast
          · intro k hk
            by_cases e : k = i
            · subst e; simpa using r1
            · simp only [e, if_false]
              rw [getD_set_ne false (Ne.symm e)] at hk
              exact hM _ _ _ _ _ e (hR k hk) r3
      · exfalso
        have hlt' : ops.size - 1 < ops.size := by omega
        have ho' : ops[ops.size - 1]? = some ops[ops.size - 1] := by simp [hlt']
        have := allL listed hsz hcl (fun o' e h1 h2 => hcl _ o' e h1 hlast h2) i (by
          rcases Nat.lt_or_ge i (ops.size - 1) with h | h
          · exact h
          · have : i = ops.size - 1 := by omega
            rw [← this, hli] at hlast
            simp at hlast)
        rw [hli] at this
        simp at this
  have := key ops.size (Array.replicate ops.size false) (fun _ => undef) w.drew (by simp) (by
    have h := List.countP_le_length (p := fun i => !(Array.replicate ops.size false).getD i false) (l := List.range ops.size)
    simpa using h) (fun j o e _ hj _ => by
      simp [Array.getD_eq_getD_getElem?, Array.getElem?_replicate] at hj
      split at hj <;> simp at hj) (.inl ⟨by
      simp [Array.getD_eq_getD_getElem?, Array.getElem?_replicate]
      split <;> rfl, by
      have e0 : (fun i => (Array.replicate ops.size false).getD i false) = fun _ => false := by
        funext i
        simp [Array.getD_eq_getD_getElem?, Array.getElem?_replicate]
        split <;> rfl
      rw [e0]; exact hW, fun i hi => by
      simp [Array.getD_eq_getD_getElem?, Array.getElem?_replicate] at hi
      split at hi <;> simp at hi⟩)
  rw [Rg.put_none (fun j _ h2 => by
    simp [Array.getD_eq_getD_getElem?, Array.getElem?_replicate]
    split <;> rfl)] at this
  exact this
theorem Rg.stepZ_append {P : Program} {ρ : Operand → Value} {o : Oper} {w : World} {Z : List PanicEntry → World → Prop} {R : Value → World → Prop} (s x : Operand) (t : TypeId)
    (ho : o.op = .call { callee := .builtin .append, args := #[s, x], argTypes := #[t, t] })
    (base : Nat) (e : TypeId) (i : TypeInfo) (z : Value) (size bytes : Nat) (ht : P.underlying t = some (.slice e)) (hi : P.info? e = some i) (hz : i.zero = some z)
    (hsize : i.size = size) (hby : i.bytes = bytes) (hzs : z.cells.size = size) (hsz : 0 < size)
    (v : Value) (n : Nat) (xs : List Value) (hs : ρ s = v) (hown : w.ownsRow base e size v n xs)
    (ad : Addr) (m c : Nat) (news : List Value) (hx : ρ x = .slice (some ad) m c) (hl : news.length = m * size) (hnews : ∀ j u, news[j]? = some u → w.cell? (ad.add j) = some u) (h1 : ∀ u ∈ news, u.oneCell' = true)
    (hm : 0 < m) (h63 : n + m ≤ maxLen) (hbytes : (n + m) * bytes ≤ 140737488355328) (hbase : base ≤ w.heap.size)
    (h : ∀ g cap w', w'.ownsRow base e size (.slice (some ⟨g, 0, none⟩) (n + m) cap) (n + m) (xs ++ news) → w.grownBy w' v.ownBlock → (v.ownBlock = some g ∨ g = w.heap.size) → g < w'.heap.size → R (.slice (some ⟨g, 0, none⟩) (n + m) cap) w') : Rg.stepZ P ρ o w Z R := by
  obtain ⟨g, cap, w', hr, h2, h3, h4, h5⟩ := run_append_lies (P := P) w t o.type base e i z size bytes ht hi hz hsize hby hzs hsz v n xs hown ad m c news hl hnews h1 hm h63 hbytes hbase _ rfl
  unfold Rg.stepZ execOp
  simp only [ho, resolve, invoke, builtin, Sem.run_bind, Sem.run_pure, Result.andThen_ok, List.map_toArray, List.map_cons, List.map_nil, hs, hx, hr]
  exact h g cap w' h2 h3 h4 h5

def Rg.bare (o : Oper) : Oper := { o with guard := none }
def Rg.isB (v : Value) (b : Bool) : Bool := match v with
  | .bool c => c == b
  | _ => false
def Rg.textH (ops : Array Oper) (sz : Nat) : Bool :=
  Rg.text (ops.map Rg.bare) &&
  (ops.toList.all fun o => match o.guard with
    | none => true
    | some (j, _) => (o.after.toList.any fun e => e.on == j) && (match (ops[j]?).bind (·.dst) with | some d => decide (d < sz) | none => false))
def Rg.Still (P : Program) (E : Operand → Value) (vs : Nat → Value) (w : World) : List Oper → Nat → Prop
  | [], _ => True
  | o :: r, i => (match o.guard with
      | none => (execOp E o).run P w = .ok (.value (vs i)) w
      | some (j, b) => if Rg.isB (vs j) b = true then (execOp E o).run P w = .ok (.value (vs i)) w else vs i = undef) ∧ Rg.Still P E vs w r (i + 1)
theorem Rg.Still.get {P : Program} {E : Operand → Value} {vs : Nat → Value} {w : World} : ∀ {l : List Oper} {i : Nat}, Rg.Still P E vs w l i → ∀ (j : Nat) (o : Oper), l[j]? = some o → (match o.guard with
      | none => (execOp E o).run P w = .ok (.value (vs (i + j))) w
      | some (g, b) => if Rg.isB (vs g) b = true then (execOp E o).run P w = .ok (.value (vs (i + j))) w else vs (i + j) = undef)
  | [], _, _, j, o, h => by simp at h
  | o' :: r, i, hs, j, o, h => by
    cases j with
    | zero => simp at h; subst h; exact hs.1
    | succ j =>
      have := Rg.Still.get hs.2 j o (by simpa using h)
      rwa [show i + 1 + j = i + (j + 1) by omega] at this
theorem Rg.textH_get {ops : Array Oper} {sz : Nat} (h : Rg.textH ops sz = true) {i : Nat} {o : Oper} (ho : ops[i]? = some o) :
    (∀ cs b, o.op ≠ .select cs b) ∧ (∀ e ∈ o.after, e.on < i ∧ Region.binds .any e = true) ∧ (∀ j o' d, ops[j]? = some o' → i ≠ j → o.dst = some d → o'.dst ≠ some d) ∧
      (∀ t, .tmp t ∈ o.op.operands → ∀ j o', ops[j]? = some o' → o'.dst = some t → ∃ e ∈ o.after, e.on = j) ∧
      (∀ j b, o.guard = some (j, b) → (∃ e ∈ o.after, e.on = j) ∧ ∃ o' d, ops[j]? = some o' ∧ o'.dst = some d ∧ d < sz) := by
  simp only [Rg.textH, Bool.and_eq_true] at h
  have hb : ∀ {j : Nat} {o' : Oper}, ops[j]? = some o' → (ops.map Rg.bare)[j]? = some (Rg.bare o') := fun h => by rw [Array.getElem?_map, h]; rfl
  obtain ⟨_, h2, h3, h4, h5⟩ := Rg.text_get h.1 (hb ho)
  refine ⟨h2, h3, fun j o' d hj hij hd => h4 j (Rg.bare o') d (hb hj) hij hd, fun t ht j o' hj hd => h5 t ht j (Rg.bare o') (hb hj) hd, ?_⟩
  intro j b hg
  have hall := h.2
  rw [List.all_eq_true] at hall
  have hm : o ∈ ops.toList := by
    rw [Array.mem_toList_iff]
    exact Array.mem_of_getElem? ho
  have := hall o hm
  rw [hg] at this
  simp only [Bool.and_eq_true, List.any_eq_true] at this
  obtain ⟨⟨e, he1, he2⟩, h7⟩ := this
  refine ⟨⟨e, by simpa using he1, by simpa using he2⟩, ?_⟩
  cases hj : ops[j]? with
  | none => rw [hj] at h7; simp at h7
  | some o' =>
    rw [hj] at h7
    simp only [Option.bind_some] at h7
    cases hd : o'.dst with
    | none => rw [hd] at h7; simp at h7
    | some d => rw [hd] at h7; exact ⟨o', d, rfl, hd, by simpa using h7⟩
theorem Rg.apartH {ops : Array Oper} {sz : Nat} (h : Rg.textH ops sz = true) : Rg.apart ops.toList := by
  have key : ∀ (l : List Oper) (i : Nat), ops.toList.drop i = l → Rg.apart l := by
    intro l
    induction l with
    | nil => intro i _; trivial
    | cons o r ih =>
      intro i hi
      have hget : ∀ j o', (o :: r)[j]? = some o' → ops[i + j]? = some o' := fun j o' hj => by
        rw [← hi, List.getElem?_drop] at hj
        simpa using hj
      refine ⟨?_, ih (i + 1) ?_⟩
      · intro o' ho' d hd
        obtain ⟨j, hj⟩ := List.getElem?_of_mem ho'
        exact (Rg.textH_get h (hget 0 o rfl)).2.2.1 (i + (j + 1)) o' d (hget (j + 1) o' (by simpa using hj)) (by omega) hd
      · have := congrArg (List.drop 1) hi
        rw [List.drop_drop] at this
        simpa [Nat.add_comm] using this
  exact key _ 0 (by simp)
theorem Rg.put_len {L : Nat → Bool} {f : Nat → Value} : ∀ {l : List Oper} {i : Nat} {a : Act}, (Rg.put L f l i a).tmps.size = a.tmps.size
  | [], _, _ => rfl
  | o :: r, i, a => by
    rw [Rg.put, Rg.put_len]
    split
    · exact Rg.put_size _
    · rfl
theorem Rg.put_at {L : Nat → Bool} {f : Nat → Value} {d : Nat} : ∀ {l : List Oper} {i j : Nat} {a : Act} {o : Oper}, Rg.apart l → l[j]? = some o → o.dst = some d → L (i + j) = true → d < a.tmps.size → (Rg.put L f l i a).tmps[d]? = some (f (i + j))
  | [], _, _, _, _, _, h, _, _, _ => by simp at h
  | o' :: r, i, 0, a, o, ha, h, hd, hL, hs => by
    rw [List.getElem?_cons_zero, Option.some.injEq] at h
    subst h
    rw [Nat.add_zero] at hL
    rw [Rg.put, if_pos hL, hd, Rg.put_out (fun o'' ho'' d' hd' => by
      have := ha.1 o'' ho'' d' (by rw [hd]; exact hd')
      exact this)]
    simp [Act.put, Rg.put_len, hs]
  | o' :: r, i, j + 1, a, o, ha, h, hd, hL, hs => by
    rw [Rg.put]
    have := Rg.put_at (L := L) (f := f) (l := r) (i := i + 1) (j := j) (a := if L i = true then a.put o'.dst (f i) else a) (o := o) ha.2 (by simpa using h) hd (by rw [show i + 1 + j = i + (j + 1) by omega]; exact hL) (by
      split
      · rw [Rg.put_size]; exact hs
      · exact hs)
    rwa [show i + 1 + j = i + (j + 1) by omega] at this
theorem Rg.regionU {P : Program} {ops : Array Oper} {Q : Exit → Act → World → Prop} {id : Nat} {a : Act} {w : World} (hm : P.follows .mixedOrders = true) (sz : Nat) (ht : Rg.textH ops sz = true) (hl : Rg.tail ops = true) (hn : 0 < ops.size) (hszA : sz ≤ a.tmps.size)
    (Rel : Nat → Value → World → Prop) (W : World → Prop) (M : World → World → Prop)
    (hM : ∀ i v w w', Rel i v w → W w → M w w' → Rel i v w') (hW : W w.drew) (hG : ∀ o ∈ ops.toList, ∀ j b, o.guard = some (j, b) → ∀ v w, Rel j v w → v = .bool b)
    (hs : Rg.Steps P Rel W M (fun f => (Rg.all f ops.toList 0 a).eval) (ops.toList.take (ops.size - 1)) 0)
    (he : ∀ (f : Nat → Value) (w : World), W w → (∀ i, i < ops.size - 1 → Rel i (f i) w) → ∀ o, ops[ops.size - 1]? = some o → Rg.step P (Rg.all f ops.toList 0 a).eval o w fun v w' => Q .normal ((Rg.all f ops.toList 0 a).put o.dst v) w') : (Code.region id ops true).wp P Q a w := by
  refine wp_region_any hm ?_
  have key : ∀ (n : Nat) (listed : Array Bool) (f : Nat → Value) (w : World), listed.size = ops.size → ((List.range ops.size).countP fun i => !listed.getD i false) ≤ n → (∀ j o e, ops[j]? = some o → listed.getD j false = true → e ∈ o.after → listed.getD e.on false = true) →
      ((listed.getD (ops.size - 1) false = false ∧ W w ∧ ∀ i, listed.getD i false = true → Rel i (f i) w) ∨ (listed.getD (ops.size - 1) false = true ∧ Q .normal (Rg.all f ops.toList 0 a) w)) → wpAny P .any ops Q n listed (Rg.put (fun i => listed.getD i false) f ops.toList 0 a) w := by
    have allL : ∀ (listed : Array Bool), listed.size = ops.size → (∀ j o e, ops[j]? = some o → listed.getD j false = true → e ∈ o.after → listed.getD e.on false = true) → (∀ o e, ops[ops.size - 1]? = some o → e ∈ o.after → listed.getD e.on false = true) → ∀ i, i < ops.size - 1 → listed.getD i false = true := by
      intro listed hsz hcl hlast i hi
      have : ∀ (d i : Nat), d = ops.size - 1 - i → i < ops.size - 1 → listed.getD i false = true := by
        intro d
        induction d using Nat.strongRecOn with
        | _ d ih =>
          intro i hd hi
          obtain ⟨j, o, e, hij, ho, he1, he2⟩ := Rg.tail_get hl hi
          have hj : j < ops.size := (Array.getElem?_eq_some_iff.1 ho).1
          rw [← he2]
          by_cases hjl : j = ops.size - 1
          · exact hlast o e (by rw [← hjl]; exact ho) he1
          · exact hcl j o e ho (ih (ops.size - 1 - j) (by omega) j rfl (by omega)) he1
      exact this _ i rfl hi
    have done : ∀ (listed : Array Bool) (f : Nat → Value) (w : World), listed.size = ops.size → (∀ j o e, ops[j]? = some o → listed.getD j false = true → e ∈ o.after → listed.getD e.on false = true) → Region.ready .any ops listed = [] → ((listed.getD (ops.size - 1) false = false ∧ W w ∧ ∀ i, listed.getD i false = true → Rel i (f i) w) ∨ (listed.getD (ops.size - 1) false = true ∧ Q .normal (Rg.all f ops.toList 0 a) w)) → Q .normal (Rg.put (fun i => listed.getD i false) f ops.toList 0 a) w := by
      intro listed f w hsz hcl hr hor
      have hall : ∀ i, i < ops.size → listed.getD i false = true := by
        intro i
        induction i using Nat.strongRecOn with
        | _ i ih =>
          intro hi
          by_cases hl : listed.getD i false = true
          · exact hl
          · have ho : ops[i]? = some ops[i] := by simp [hi]
            have hmem : i ∈ Region.ready .any ops listed := mem_ready.2 ⟨by
              rw [Array.getD_eq_getD_getElem?] at hl ⊢
              have : listed[i]? = some listed[i] := by simp [hsz, hi]
              rw [this] at hl ⊢
              simpa using hl, ops[i], ho, fun e he _ => ih e.on ((Rg.textH_get ht ho).2.1 e he).1 (by have := ((Rg.textH_get ht ho).2.1 e he).1; omega)⟩
            rw [hr] at hmem
            simp at hmem
      rw [Rg.put_all (fun j _ h2 => hall j (by simpa using h2))]
      rcases hor with ⟨h1, _⟩ | ⟨_, h2⟩
      · rw [hall _ (by omega)] at h1; simp at h1
      · exact h2
    intro n
    induction n with
    | zero =>
      intro listed f w hsz hn hcl hor
      have hr : Region.ready .any ops listed = [] := by
        rw [List.eq_nil_iff_forall_not_mem]
        intro i hi
        obtain ⟨h1, o, ho, _⟩ := mem_ready.1 hi
        have hlt : i < ops.size := (Array.getElem?_eq_some_iff.1 ho).1
        have hc : 0 < (List.range ops.size).countP fun i => !listed.getD i false := List.countP_pos_iff.2 ⟨i, by simpa using hlt, by
          rw [Array.getD_eq_getD_getElem?] at h1 ⊢
          have : listed[i]? = some listed[i] := by simp [hsz, hlt]
          rw [this] at h1 ⊢
          simpa using h1⟩
        omega
      exact ⟨hr, done listed f w hsz hcl hr hor⟩
    | succ n ih =>
      intro listed f w hsz hn' hcl hor
      refine ⟨fun hr => done listed f w hsz hcl hr hor, fun i hi => ?_⟩
      obtain ⟨h1, o, ho, hdep⟩ := mem_ready.1 hi
      have hlt : i < ops.size := (Array.getElem?_eq_some_iff.1 ho).1
      obtain ⟨g2, g3, g4, g5, g6⟩ := Rg.textH_get ht ho
      have hdep' : ∀ e ∈ o.after, listed.getD e.on false = true := fun e he => hdep e he (g3 e he).2
      have hli : listed.getD i false = false := by
        rw [Array.getD_eq_getD_getElem?] at h1 ⊢
        have : listed[i]? = some listed[i] := by simp [hsz, hlt]
        rw [this] at h1 ⊢
        simpa using h1
      unfold wpOp
      simp only [ho]
      have hor' := hor
      have hwt : Region.wanted o (yielded ops (Rg.put (fun i => listed.getD i false) f ops.toList 0 a).tmps) = true := by
        cases hg : o.guard with
        | none => simp [Region.wanted, hg]
        | some p =>
          obtain ⟨j, b⟩ := p
          obtain ⟨⟨e, he1, he2⟩, o', d, ho', hd', hsz'⟩ := g6 j b hg
          have hjl : listed.getD j false = true := by rw [← he2]; exact hdep' e he1
          have hat := Rg.put_at (L := fun k => listed.getD k false) (f := f) (l := ops.toList) (i := 0) (j := j) (a := a) (o := o') (Rg.apartH ht) (by simpa using ho') hd' (by rw [Nat.zero_add]; exact hjl) (Nat.lt_of_lt_of_le hsz' hszA)
          rw [Nat.zero_add] at hat
          have hfj : f j = .bool b := by
            rcases hor' with ⟨_, _, hR⟩ | ⟨hlast, _⟩
            · exact hG o (by rw [Array.mem_toList_iff]; exact Array.mem_of_getElem? ho) j b hg _ _ (hR j hjl)
            · exfalso
              have := allL listed hsz hcl (fun o' e h1 h2 => hcl _ o' e h1 hlast h2) i (by
                rcases Nat.lt_or_ge i (ops.size - 1) with h | h
                · exact h
                · have : i = ops.size - 1 := by omega
                  rw [← this, hli] at hlast
                  simp at hlast)
              rw [hli] at this
              simp at this
          simp only [Region.wanted, hg, yielded, ho', Option.bind_some, hd', hat, hfj]
          simp
      rw [if_pos hwt]
      refine .inl ?_
      have hl2 : ops.toList[i]? = some o := by simpa using ho
      have hev : execOp (Rg.put (fun i => listed.getD i false) f ops.toList 0 a).eval o = execOp (Rg.all f ops.toList 0 a).eval o := by
        refine execOp_congr o g2 fun x hx => ?_
        cases x with
        | tmp t =>
          refine Rg.eval (fun j o' hj hd => ?_) rfl rfl
          rw [Nat.zero_add]
          obtain ⟨e, he1, he2⟩ := g5 t hx j o' (by simpa using hj) hd
          rw [← he2]
          exact hdep' e he1
        | const v => rfl
        | global g => rfl
        | func g => rfl
      have hset : (fun k => if k = i then true else listed.getD k false) = fun k => (listed.setIfInBounds i true).getD k false := by
        funext k
        by_cases hk : k = i
        · subst hk
          simp [Array.getD_eq_getD_getElem?, hsz, hlt]
        · rw [if_neg hk, getD_set_ne false (Ne.symm hk)]
      have hcount : ((List.range ops.size).countP fun k => !(listed.setIfInBounds i true).getD k false) < (List.range ops.size).countP fun k => !listed.getD k false := by
        refine Rg.count_lt (x := i) (by simpa using hlt) (fun k _ hk => ?_) (by rw [hli]; rfl) (by simp [Array.getD_eq_getD_getElem?, hsz, hlt])
        by_cases e : k = i
        · subst e; rw [hli]; rfl
        · rw [getD_set_ne false (Ne.symm e)] at hk; exact hk
      have hcl' : ∀ j o' e, ops[j]? = some o' → (listed.setIfInBounds i true).getD j false = true → e ∈ o'.after → (listed.setIfInBounds i true).getD e.on false = true := by
        intro j o' e ho' hj he
        refine getD_set_true ?_
        by_cases hji : j = i
        · subst hji
          rw [ho] at ho'
          injection ho' with ho'
          subst ho'
          exact hdep' e he
        · rw [getD_set_ne false (Ne.symm hji)] at hj
          exact hcl j o' e ho' hj he
      rcases hor with ⟨hlast, hw, hR⟩ | ⟨hlast, _⟩
      · by_cases hil : i = ops.size - 1
        · have hall : ∀ k, k < ops.size - 1 → listed.getD k false = true := allL listed hsz hcl (fun o' e ho' he' => by
            rw [← hil, ho] at ho'
            injection ho' with ho'
            subst ho'
            exact hdep' e he')
          refine Rg.step_wp (he f w hw (fun k hk => hR k (hall k hk)) o (by rw [← hil]; exact ho)) hev ?_
          intro v w' hq
          rw [Rg.put_on (Rg.apartH ht) (Nat.zero_le i) (by simpa using hl2) hli, hset]
          refine ih (listed.setIfInBounds i true) _ w' (by simpa using hsz) (by omega) hcl' (.inr ⟨?_, ?_⟩)
          · rw [← hil]; simp [Array.getD_eq_getD_getElem?, hsz, hlt]
          · have e1 := Rg.put_on (L := fun k => listed.getD k false) (f := f) (v := v) (a := a) (Rg.apartH ht) (Nat.zero_le i) (by simpa using hl2) hli
            have e2 : Rg.put (fun k => if k = i then true else listed.getD k false) (fun k => if k = i then v else f k) ops.toList 0 a = Rg.all (fun k => if k = i then v else f k) ops.toList 0 a := Rg.put_all (fun j _ h2 => by
              by_cases hji : j = i
              · simp [hji]
              · have h3 : j < ops.size := by simpa using h2
                simp only [hji, if_false]
                exact hall j (by omega))
            rw [← e2, ← e1]
            have e3 : (Rg.put (fun k => listed.getD k false) f ops.toList 0 a).put o.dst v = (Rg.all f ops.toList 0 a).put o.dst v := by
              have p1 : Rg.put (fun k => if k = i then true else listed.getD k false) f ops.toList 0 a = Rg.all f ops.toList 0 a := Rg.put_all (fun j _ h2 => by
                by_cases hji : j = i
                · simp [hji]
                · have h3 : j < ops.size := by simpa using h2
                  simp only [hji, if_false]
                  exact hall j (by omega))
              have p2 := Rg.put_on (L := fun k => listed.getD k false) (f := f) (v := f i) (a := a) (Rg.apartH ht) (Nat.zero_le i) (by simpa using hl2) hli
              have p3 : (fun k => if k = i then f i else f k) = f := by
                funext k
                by_cases hk : k = i
                · simp [hk]
                · simp [hk]
              rw [p3, p1] at p2
              rw [← p2]
              cases hd : o.dst with
              | none => rfl
              | some d => simp [Act.put]
            rw [e3]
            exact hq
        · have hl3 : (ops.toList.take (ops.size - 1))[i]? = some o := by
            rw [List.getElem?_take, if_pos (by omega)]; exact hl2
          refine Rg.step_wp (hs.get i o hl3 f w hw (fun e he => hR _ (hdep' e (by simpa using he)))) hev ?_
          rintro v w' ⟨r1, r2, r3⟩
          rw [Nat.zero_add] at r1
          rw [Rg.put_on (Rg.apartH ht) (Nat.zero_le i) (by simpa using hl2) hli, hset]
          refine ih (listed.setIfInBounds i true) _ w' (by simpa using hsz) (by omega) hcl' (.inl ⟨?_, r2, ?_⟩)
          · rw [getD_set_ne false hil]; exact hlast
          · intro k hk
            by_cases e : k = i
            · subst e; simpa using r1
            · simp only [e, if_false]
              rw [getD_set_ne false (Ne.symm e)] at hk
              exact hM _ _ _ _ (hR k hk) hw r3
      · exfalso
        have hlt' : ops.size - 1 < ops.size := by omega
        have ho' : ops[ops.size - 1]? = some ops[ops.size - 1] := by simp [hlt']
        have := allL listed hsz hcl (fun o' e h1 h2 => hcl _ o' e h1 hlast h2) i (by
          rcases Nat.lt_or_ge i (ops.size - 1) with h | h
          · exact h
          · have : i = ops.size - 1 := by omega
            rw [← this, hli] at hlast
            simp at hlast)
        rw [hli] at this
        simp at this
  have := key ops.size (Array.replicate ops.size false) (fun _ => undef) w.drew (by simp) (by
    have h := List.countP_le_length (p := fun i => !(Array.replicate ops.size false).getD i false) (l := List.range ops.size)
    simpa using h) (fun j o e _ hj _ => by
      simp [Array.getD_eq_getD_getElem?, Array.getElem?_replicate] at hj
      split at hj <;> simp at hj) (.inl ⟨by
      simp [Array.getD_eq_getD_getElem?, Array.getElem?_replicate]
      split <;> rfl, hW, fun i hi => by
      simp [Array.getD_eq_getD_getElem?, Array.getElem?_replicate] at hi
      split at hi <;> simp at hi⟩)
  rw [Rg.put_none (fun j _ h2 => by
    simp [Array.getD_eq_getD_getElem?, Array.getElem?_replicate]
    split <;> rfl)] at this
  exact this
theorem Rg.guards {ops : Array Oper} {Rel : Nat → Value → World → Prop} (gs : List (Nat × Bool)) (h : (ops.toList.all fun o => match o.guard with | none => true | some p => gs.contains p) = true) (hG : ∀ p ∈ gs, ∀ v w, Rel p.1 v w → v = .bool p.2) : ∀ o ∈ ops.toList, ∀ j b, o.guard = some (j, b) → ∀ v w, Rel j v w → v = .bool b := by
  intro o ho j b hg v w hR
  rw [List.all_eq_true] at h
  have := h o ho
  rw [hg] at this
  simp only [List.contains_eq_mem, decide_eq_true_eq] at this
  exact hG (j, b) this v w hR
end Go.Proofs.Ythapedadnbkgnaa
