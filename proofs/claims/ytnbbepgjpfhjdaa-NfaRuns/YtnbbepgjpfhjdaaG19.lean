/- A rule for drawn regions with guards, whatever they say: what a guard doesn't want is left out. What the document's of keeps at an ALT and at a STAR: facts about worlds. -/
import Derived.Test.YtnbbepgjpfhjdaaG16
import Derived.Test.YtnbbepgjpfhjdaaG18
namespace Go.Proofs.Ytnbbepgjpfhjdaa
set_option linter.unusedVariables false
set_option linter.unusedSimpArgs false
open Go.RowKit
def Rg.StepsG (P : Program) (Rel : Nat → Value → World → Prop) (W : World → Prop) (M : World → World → Prop) (ρ : (Nat → Value) → Operand → Value) : List Oper → Nat → Prop
  | [], _ => True
  | o :: r, i => (∀ (f : Nat → Value) (w : World), W w → (∀ e ∈ o.after.toList, Rel e.on (f e.on) w) → (match o.guard with
      | none => Rg.step P (ρ f) o w fun v w' => Rel i v w' ∧ W w' ∧ M w w'
      | some (j, b) => if Rg.isB (f j) b = true then Rg.step P (ρ f) o w fun v w' => Rel i v w' ∧ W w' ∧ M w w' else Rel i undef w)) ∧ Rg.StepsG P Rel W M ρ r (i + 1)
theorem Rg.StepsG.get {P : Program} {Rel : Nat → Value → World → Prop} {W : World → Prop} {M : World → World → Prop} {ρ : (Nat → Value) → Operand → Value} : ∀ {l : List Oper} {i : Nat}, Rg.StepsG P Rel W M ρ l i → ∀ (j : Nat) (o : Oper), l[j]? = some o → ∀ (f : Nat → Value) (w : World), W w → (∀ e ∈ o.after.toList, Rel e.on (f e.on) w) → (match o.guard with
      | none => Rg.step P (ρ f) o w fun v w' => Rel (i + j) v w' ∧ W w' ∧ M w w'
      | some (g, b) => if Rg.isB (f g) b = true then Rg.step P (ρ f) o w fun v w' => Rel (i + j) v w' ∧ W w' ∧ M w w' else Rel (i + j) undef w)
  | [], _, _, j, o, h => by simp at h
  | o' :: r, i, hs, j, o, h => by
    cases j with
    | zero => simp at h; subst h; exact hs.1
    | succ j =>
      have := Rg.StepsG.get hs.2 j o (by simpa using h)
      rwa [show i + 1 + j = i + (j + 1) by omega] at this
theorem Rg.regionH {P : Program} {ops : Array Oper} {Q : Exit → Act → World → Prop} {id : Nat} {a : Act} {w : World} (hm : P.follows .mixedOrders = true) (sz : Nat) (ht : Rg.textH ops sz = true) (hl : Rg.tail ops = true) (hn : 0 < ops.size) (hszA : sz ≤ a.tmps.size)
    (Rel : Nat → Value → World → Prop) (W : World → Prop) (M : World → World → Prop)
    (hM : ∀ i v w w', Rel i v w → W w → M w w' → Rel i v w') (hW : W w.drew) (hgl : ∀ o, ops[ops.size - 1]? = some o → o.guard = none)
    (hs : Rg.StepsG P Rel W M (fun f => (Rg.all f ops.toList 0 a).eval) (ops.toList.take (ops.size - 1)) 0)
    (he : ∀ (f : Nat → Value) (w : World), W w → (∀ i, i < ops.size - 1 → Rel i (f i) w) → ∀ o, ops[ops.size - 1]? = some o → Rg.step P (Rg.all f ops.toList 0 a).eval o w fun v w' => Q .normal ((Rg.all f ops.toList 0 a).put o.dst v) w') : (Code.region id ops true).wp P Q a w := by
  refine wp_region_any hm ?_
  have key : ∀ (n : Nat) (listed : Array Bool) (f : Nat → Value) (w : World), listed.size = ops.size → ((List.range ops.size).countP fun i => !listed.getD i false) ≤ n → (∀ j o e, ops[j]? = some o → listed.getD j false = true → e ∈ o.after → listed.getD e.on false = true) →
      ((listed.getD (ops.size - 1) false = false ∧ W w ∧ ∀ i, listed.getD i false = true → Rel i (f i) w) ∨ (listed.getD (ops.size - 1) false = true ∧ Q .normal (Rg.all f ops.toList 0 a) w)) → wpAny P .any ops Q n listed (Rg.put (fun i => listed.getD i false) f ops.toList 0 a) w := by
    have allL : ∀ (listed : Array Bool), listed.size = ops.size → (∀ j o e, ops[j]? = some o → listed.getD j false = true → e ∈ o.after → listed.getD e.on false = true) → (∀ o e, ops[ops.size - 1]? = some o → e ∈ o.after → listed.getD e.on false = true) → ∀ i, i < ops.size - 1 → listed.getD i false = true := by
      intro listed hsz hcl hlast i hi
      have : ∀ (d i : Nat), d = ops.size - 1 - i → i < ops.size - 1 → listed.getD i false = true := by
        intro d
        induction d using Nat.strongRecOn with
        | _ d ih =>
          intro i hd hi
          obtain ⟨j, o, e, hij, ho, he1, he2⟩ := Rg.tail_get hl hi
          have hj : j < ops.size := (Array.getElem?_eq_some_iff.1 ho).1
          rw [← he2]
          by_cases hjl : j = ops.size - 1
          · exact hlast o e (by rw [← hjl]; exact ho) he1
          · exact hcl j o e ho (ih (ops.size - 1 - j) (by omega) j rfl (by omega)) he1
      exact this _ i rfl hi
    have done : ∀ (listed : Array Bool) (f : Nat → Value) (w : World), listed.size = ops.size → (∀ j o e, ops[j]? = some o → listed.getD j false = true → e ∈ o.after → listed.getD e.on false = true) → Region.ready .any ops listed = [] → ((listed.getD (ops.size - 1) false = false ∧ W w ∧ ∀ i, listed.getD i false = true → Rel i (f i) w) ∨ (listed.getD (ops.size - 1) false = true ∧ Q .normal (Rg.all f ops.toList 0 a) w)) → Q .normal (Rg.put (fun i => listed.getD i false) f ops.toList 0 a) w := by
      intro listed f w hsz hcl hr hor
      have hall : ∀ i, i < ops.size → listed.getD i false = true := by
        intro i
        induction i using Nat.strongRecOn with
        | _ i ih =>
          intro hi
          by_cases hl : listed.getD i false = true
          · exact hl
          · have ho : ops[i]? = some ops[i] := by simp [hi]
            have hmem : i ∈ Region.ready .any ops listed := mem_ready.2 ⟨by
              rw [Array.getD_eq_getD_getElem?] at hl ⊢
              have : listed[i]? = some listed[i] := by simp [hsz, hi]
              rw [this] at hl ⊢
              simpa using hl, ops[i], ho, fun e he _ => ih e.on ((Rg.textH_get ht ho).2.1 e he).1 (by have := ((Rg.textH_get ht ho).2.1 e he).1; omega)⟩
            rw [hr] at hmem
            simp at hmem
      rw [Rg.put_all (fun j _ h2 => hall j (by simpa using h2))]
      rcases hor with ⟨h1, _⟩ | ⟨_, h2⟩
      · rw [hall _ (by omega)] at h1; simp at h1
      · exact h2
    intro n
    induction n with
    | zero =>
      intro listed f w hsz hn hcl hor
      have hr : Region.ready .any ops listed = [] := by
        rw [List.eq_nil_iff_forall_not_mem]
        intro i hi
        obtain ⟨h1, o, ho, _⟩ := mem_ready.1 hi
        have hlt : i < ops.size := (Array.getElem?_eq_some_iff.1 ho).1
        have hc : 0 < (List.range ops.size).countP fun i => !listed.getD i false := List.countP_pos_iff.2 ⟨i, by simpa using hlt, by
          rw [Array.getD_eq_getD_getElem?] at h1 ⊢
          have : listed[i]? = some listed[i] := by simp [hsz, hlt]
          rw [this] at h1 ⊢
          simpa using h1⟩
        omega
      exact ⟨hr, done listed f w hsz hcl hr hor⟩
    | succ n ih =>
      intro listed f w hsz hn' hcl hor
      refine ⟨fun hr => done listed f w hsz hcl hr hor, fun i hi => ?_⟩
      obtain ⟨h1, o, ho, hdep⟩ := mem_ready.1 hi
      have hlt : i < ops.size := (Array.getElem?_eq_some_iff.1 ho).1
      obtain ⟨g2, g3, g4, g5, g6⟩ := Rg.textH_get ht ho
      have hdep' : ∀ e ∈ o.after, listed.getD e.on false = true := fun e he => hdep e he (g3 e he).2
      have hli : listed.getD i false = false := by
        rw [Array.getD_eq_getD_getElem?] at h1 ⊢
        have : listed[i]? = some listed[i] := by simp [hsz, hlt]
        rw [this] at h1 ⊢
        simpa using h1
      unfold wpOp
      simp only [ho]
      have hl2 : ops.toList[i]? = some o := by simpa using ho
      have hev : execOp (Rg.put (fun i => listed.getD i false) f ops.toList 0 a).eval o = execOp (Rg.all f ops.toList 0 a).eval o := by
        refine execOp_congr o g2 fun x hx => ?_
        cases x with
        | tmp t =>
          refine Rg.eval (fun j o' hj hd => ?_) rfl rfl
          rw [Nat.zero_add]
          obtain ⟨e, he1, he2⟩ := g5 t hx j o' (by simpa using hj) hd
          rw [← he2]
          exact hdep' e he1
        | const v => rfl
        | global g => rfl
        | func g => rfl
      have hset : (fun k => if k = i then true else listed.getD k false) = fun k => (listed.setIfInBounds i true).getD k false := by
        funext k
        by_cases hk : k = i
        · subst hk
          simp [Array.getD_eq_getD_getElem?, hsz, hlt]
        · rw [if_neg hk, getD_set_ne false (Ne.symm hk)]
      have hcount : ((List.range ops.size).countP fun k => !(listed.setIfInBounds i true).getD k false) < (List.range ops.size).countP fun k => !listed.getD k false := by
        refine Rg.count_lt (x := i) (by simpa using hlt) (fun k _ hk => ?_) (by rw [hli]; rfl) (by simp [Array.getD_eq_getD_getElem?, hsz, hlt])
        by_cases e : k = i
        · subst e; rw [hli]; rfl
        · rw [getD_set_ne false (Ne.symm e)] at hk; exact hk
      have hcl' : ∀ j o' e, ops[j]? = some o' → (listed.setIfInBounds i true).getD j false = true → e ∈ o'.after → (listed.setIfInBounds i true).getD e.on false = true := by
        intro j o' e ho' hj he
        refine getD_set_true ?_
        by_cases hji : j = i
        · subst hji
          rw [ho] at ho'
          injection ho' with ho'
          subst ho'
          exact hdep' e he
        · rw [getD_set_ne false (Ne.symm hji)] at hj
          exact hcl j o' e ho' hj he
      rcases hor with ⟨hlast, hw, hR⟩ | ⟨hlast, _⟩
      · by_cases hil : i = ops.size - 1
        · have hall : ∀ k, k < ops.size - 1 → listed.getD k false = true := allL listed hsz hcl (fun o' e ho' he' => by
            rw [← hil, ho] at ho'
            injection ho' with ho'
            subst ho'
            exact hdep' e he')
          have hwt : Region.wanted o (yielded ops (Rg.put (fun i => listed.getD i false) f ops.toList 0 a).tmps) = true := by simp [Region.wanted, hgl o (by rw [← hil]; exact ho)]
          rw [if_pos hwt]
          refine .inl ?_
          refine Rg.step_wp (he f w hw (fun k hk => hR k (hall k hk)) o (by rw [← hil]; exact ho)) hev ?_
          intro v w' hq
          rw [Rg.put_on (Rg.apartH ht) (Nat.zero_le i) (by simpa using hl2) hli, hset]
          refine ih (listed.setIfInBounds i true) _ w' (by simpa using hsz) (by omega) hcl' (.inr ⟨?_, ?_⟩)
          · rw [← hil]; simp [Array.getD_eq_getD_getElem?, hsz, hlt]
          · have e1 := Rg.put_on (L := fun k => listed.getD k false) (f := f) (v := v) (a := a) (Rg.apartH ht) (Nat.zero_le i) (by simpa using hl2) hli
            have e2 : Rg.put (fun k => if k = i then true else listed.getD k false) (fun k => if k = i then v else f k) ops.toList 0 a = Rg.all (fun k => if k = i then v else f k) ops.toList 0 a := Rg.put_all (fun j _ h2 => by
              by_cases hji : j = i
              · simp [hji]
              · have h3 : j < ops.size := by simpa using h2
                simp only [hji, if_false]
                exact hall j (by omega))
            rw [← e2, ← e1]
            have e3 : (Rg.put (fun k => listed.getD k false) f ops.toList 0 a).put o.dst v = (Rg.all f ops.toList 0 a).put o.dst v := by
              have p1 : Rg.put (fun k => if k = i then true else listed.getD k false) f ops.toList 0 a = Rg.all f ops.toList 0 a := Rg.put_all (fun j _ h2 => by
                by_cases hji : j = i
                · simp [hji]
                · have h3 : j < ops.size := by simpa using h2
                  simp only [hji, if_false]
                  exact hall j (by omega))
              have p2 := Rg.put_on (L := fun k => listed.getD k false) (f := f) (v := f i) (a := a) (Rg.apartH ht) (Nat.zero_le i) (by simpa using hl2) hli
              have p3 : (fun k => if k = i then f i else f k) = f := by
                funext k
                by_cases hk : k = i
                · simp [hk]
                · simp [hk]
              rw [p3, p1] at p2
              rw [← p2]
              cases hd : o.dst with
              | none => rfl
              | some d => simp [Act.put]
            rw [e3]
            exact hq
        · have hl3 : (ops.toList.take (ops.size - 1))[i]? = some o := by
            rw [List.getElem?_take, if_pos (by omega)]; exact hl2
          have hst := hs.get i o hl3 f w hw (fun e he => hR _ (hdep' e (by simpa using he)))
          rw [Nat.zero_add] at hst
          have go : (Rg.step P ((Rg.all f ops.toList 0 a).eval) o w fun v w' => Rel i v w' ∧ W w' ∧ M w w') → o.wp P (Rg.put (fun i => listed.getD i false) f ops.toList 0 a) w (wpAny P .any ops Q n (listed.setIfInBounds i true)) Q := by
            intro hst
            refine Rg.step_wp hst hev ?_
            rintro v w' ⟨r1, r2, r3⟩
            rw [Rg.put_on (Rg.apartH ht) (Nat.zero_le i) (by simpa using hl2) hli, hset]
            refine ih (listed.setIfInBounds i true) _ w' (by simpa using hsz) (by omega) hcl' (.inl ⟨?_, r2, ?_⟩)
            · rw [getD_set_ne false hil]; exact hlast
            · intro k hk
              by_cases e : k = i
              · subst e; simpa using r1
              · simp only [e, if_false]
                rw [getD_set_ne false (Ne.symm e)] at hk
                exact hM _ _ _ _ (hR k hk) hw r3
          cases hg : o.guard with
          | none =>
            rw [hg] at hst
            have hwt : Region.wanted o (yielded ops (Rg.put (fun i => listed.getD i false) f ops.toList 0 a).tmps) = true := by simp [Region.wanted, hg]
            rw [if_pos hwt]
            exact .inl (go hst)
          | some p =>
            obtain ⟨j, b⟩ := p
            rw [hg] at hst
            obtain ⟨⟨e, he1, he2⟩, o', d, ho', hd', hsz'⟩ := g6 j b hg
            have hjl : listed.getD j false = true := by rw [← he2]; exact hdep' e he1
            have hat := Rg.put_at (L := fun k => listed.getD k false) (f := f) (l := ops.toList) (i := 0) (j := j) (a := a) (o := o') (Rg.apartH ht) (by simpa using ho') hd' (by rw [Nat.zero_add]; exact hjl) (Nat.lt_of_lt_of_le hsz' hszA)
            rw [Nat.zero_add] at hat
            have hwt : Region.wanted o (yielded ops (Rg.put (fun i => listed.getD i false) f ops.toList 0 a).tmps) = Rg.isB (f j) b := by
              simp only [Region.wanted, hg, yielded, ho', Option.bind_some, hd', hat]
              unfold Rg.isB
              cases f j <;> simp
            rw [hwt]
            by_cases hq : Rg.isB (f j) b = true
            · rw [if_pos hq]
              simp only [if_pos hq] at hst
              exact .inl (go hst)
            · rw [if_neg hq]
              simp only [if_neg hq] at hst
              rw [Rg.put_on (Rg.apartH ht) (Nat.zero_le i) (by simpa using hl2) hli, hset]
              refine ih (listed.setIfInBounds i true) _ w (by simpa using hsz) (by omega) hcl' (.inl ⟨?_, hw, ?_⟩)
              · rw [getD_set_ne false hil]; exact hlast
              · intro k hk
                by_cases e : k = i
                · subst e; simpa using hst
                · simp only [e, if_false]
                  rw [getD_set_ne false (Ne.symm e)] at hk
                  exact hR k hk
      · exfalso
        have hlt' : ops.size - 1 < ops.size := by omega
        have ho' : ops[ops.size - 1]? = some ops[ops.size - 1] := by simp [hlt']
        have := allL listed hsz hcl (fun o' e h1 h2 => hcl _ o' e h1 hlast h2) i (by
          rcases Nat.lt_or_ge i (ops.size - 1) with h | h
          · exact h
          · have : i = ops.size - 1 := by omega
            rw [← this, hli] at hlast
            simp at hlast)
        rw [hli] at this
        simp at this
  have := key ops.size (Array.replicate ops.size false) (fun _ => undef) w.drew (by simp) (by
    have h := List.countP_le_length (p := fun i => !(Array.replicate ops.size false).getD i false) (l := List.range ops.size)
    simpa using h) (fun j o e _ hj _ => by
      simp [Array.getD_eq_getD_getElem?, Array.getElem?_replicate] at hj
      split at hj <;> simp at hj) (.inl ⟨by
      simp [Array.getD_eq_getD_getElem?, Array.getElem?_replicate]
      split <;> rfl, hW, fun i hi => by
      simp [Array.getD_eq_getD_getElem?, Array.getElem?_replicate] at hi
      split at hi <;> simp at hi⟩)
  rw [Rg.put_none (fun j _ h2 => by
    simp [Array.getD_eq_getD_getElem?, Array.getElem?_replicate]
    split <;> rfl)] at this
  exact this
end Go.Proofs.Ytnbbepgjpfhjdaa
namespace Go.Proofs.Ytnbbepgjpfhjdaa
set_option linter.unusedVariables false
set_option linter.unusedSimpArgs false
open Go.RowKit
theorem Nh.AB.up {w : World} {k : Nat} {f : Nat → Bool} {al : Option Addr} {n cap b n1 : Nat} {vF1 vL1 : Value} {e1 : Bool} {vN1 : Value} {F1 L1 : List Int} {N1 : List (List Int)} {rows1 : List Value} {y : Rx} {K bx bz n2 : Nat} {vF vL vN : Value} {e2 : Bool} {vN2 : Value} {rs : List Value} {F2 L2 : List Int} {N2 : List (List Int)} {u u' : World} (h : Nh.AB w k f al n cap b n1 vF1 vL1 e1 vN1 F1 L1 N1 rows1 y K bx bz n2 vF vL vN e2 vN2 rs F2 L2 N2 u) (hb : Below u.heap.size u u') : Nh.AB w k f al n cap b n1 vF1 vL1 e1 vN1 F1 L1 N1 rows1 y K bx bz n2 vF vL vN e2 vN2 rs F2 L2 N2 u' :=
  ⟨h.cw.up hb, h.pa.up hb, h.pb.up hb, h.pt, h.rf.up hb, h.rl.up hb, h.ow.up hb, h.rr.up hb, h.fr, h.kx, h.kz, h.xz⟩
def Nh.Ka (K : Nat) (vN : Value) (k : Nat) : Prop := K ≤ k ∧ some k ≠ vN.ownBlock
theorem Nh.AB.ka {w : World} {k : Nat} {f : Nat → Bool} {al : Option Addr} {n cap b n1 : Nat} {vF1 vL1 : Value} {e1 : Bool} {vN1 : Value} {F1 L1 : List Int} {N1 : List (List Int)} {rows1 : List Value} {y : Rx} {K bx bz n2 : Nat} {vF vL vN : Value} {e2 : Bool} {vN2 : Value} {rs : List Value} {F2 L2 : List Int} {N2 : List (List Int)} {u : World} (h : Nh.AB w k f al n cap b n1 vF1 vL1 e1 vN1 F1 L1 N1 rows1 y K bx bz n2 vF vL vN e2 vN2 rs F2 L2 N2 u) : ∀ j, u.heap.size ≤ j → Nh.Ka K vN j := fun j hj =>
  ⟨by have := h.pa.lt; have := h.kx; omega, fun e => by have := (World.ownsRow.lt h.ow j e.symm).2; omega⟩
theorem Nh.AB.alt {w : World} {k : Nat} {f : Nat → Bool} {al : Option Addr} {n cap b n1 : Nat} {vF1 vL1 : Value} {e1 : Bool} {vN1 : Value} {F1 L1 : List Int} {N1 : List (List Int)} {rows1 : List Value} {y : Rx} {u0 : World} {bx bz n2 : Nat} {vF vL vN : Value} {e2 : Bool} {vN2 : Value} {rs : List Value} {F2 L2 : List Int} {N2 : List (List Int)} {u : World} (h : Nh.AB w k f al n cap b n1 vF1 vL1 e1 vN1 F1 L1 N1 rows1 y u0.heap.size bx bz n2 vF vL vN e2 vN2 rs F2 L2 N2 u) (h0 : Nh.CW w k f al n cap b n1 vF1 vL1 e1 vN1 F1 L1 N1 rows1 u0) (hb : Below u0.heap.size u0 u) (n' : Nat) (e' : Bool) {vFq vLq : Value} {Fq Lq : List Int} (r1 : Nf.Row u (Nh.Ka u0.heap.size vN) vFq Fq) (r2 : Nf.Row u (Nh.Ka u0.heap.size vN) vLq Lq) : Nh.CW w k f al n cap b n' vFq vLq e' vN Fq Lq (N1 ++ N2.map fun l => Nf.shift l n1) (rows1 ++ rs) (Nh.put u b n' vFq vLq e' vN) := by
  have hbK : b < u0.heap.size := h0.pb.lt
  have hs : ∀ j, j ≠ b → (Nh.put u b n' vFq vLq e' vN).heap[j]? = u.heap[j]? := fun j hj => Nh.put_far _ _ _ _ _ _ _ _ hj
  have hr : ∀ {v : Value} {l : List Int}, Nf.Row u (Nh.Ka u0.heap.size vN) v l → Nf.Row (Nh.put u b n' vFq vLq e' vN) (fun k => b < k ∧ some k ≠ vN.ownBlock) v l := fun h => (Nh.row_same h (fun j hj => hs j (by have := hj.1; omega))).mono (fun j hj => ⟨by have := hj.1; omega, hj.2⟩)
  have e0 := hs w.heap.size (by have := h0.hb; omega)
  have hvK : ∀ j, vN.ownBlock = some j → u0.heap.size ≤ j ∧ j < u.heap.size := fun j hj => World.ownsRow.lt h.ow j hj
  have o2 : Nh.Rows u (fun k => b < k ∧ some k ≠ vN.ownBlock) (rows1 ++ rs) (N1 ++ N2.map fun l => Nf.shift l n1) := Nh.Rows.append ((h0.rw'.lt.mono (fun j hj => ⟨hj.1.1, fun e => by have := (hvK j e.symm).1; omega⟩)).up hb) (h.rr.mono (fun j hj => ⟨by omega, hj.2.1⟩))
  exact ⟨Nh.put_below h.cw.bel (by have := h0.hb; omega) _ _ _ _ _, ⟨Ng.nod_same h.cw.nd e0, fun j hj => (World.frozen?_of_block (a := ⟨w.heap.size, j, none⟩) e0).trans (h.cw.nd.frz j hj)⟩, h.cw.p2.only (hs _ (by have := h0.hb; omega)), Nh.put_pb h.cw.pb _ _ _ _ _, hr r1, hr r2, Nh.own_same (World.ownsRow.mono h.ow (by omega)) (fun j hj => hs j (by have := (hvK j hj).1; omega)), o2.same (fun j hj => hs j (by have := hj.1; omega)), h0.hb⟩
theorem Nh.CW.put {w : World} {k : Nat} {f : Nat → Bool} {al : Option Addr} {n cap b n1 : Nat} {vF1 vL1 : Value} {e1 : Bool} {g m c : Nat} {F1 L1 : List Int} {NQ : List (List Int)} {rows : List Value} {u : World} (h : Nh.CW w k f al n cap b n1 vF1 vL1 e1 (.slice (some ⟨g, 0, none⟩) m c) F1 L1 NQ rows u) (i : Nat) {v : Value} {l : List Int} (hv : Nf.Row u (fun k => b < k ∧ some k ≠ (Value.slice (some ⟨g, 0, none⟩) m c).ownBlock) v l) : Nh.CW w k f al n cap b n1 vF1 vL1 e1 (.slice (some ⟨g, 0, none⟩) m c) F1 L1 (NQ.set i l) (rows.set i v) (u.setCell ⟨g, i, none⟩ v) := by
  have h1 := h.ow
  have hg := (World.ownsRow.lt h1 g rfl).1
  have hb := h.hb
  have hm : m = rows.length := by
    obtain ⟨a, c, e, _⟩ := h1.cells
    injection e
  subst hm
  have hn : ¬ (fun k => b < k ∧ some k ≠ (Value.slice (some ⟨g, 0, none⟩) rows.length c).ownBlock) g := fun e => e.2 rfl
  have hs := (World.ownsRow.stored h1 i v).1
  have e0 : (u.setCell ⟨g, i, none⟩ v).heap[w.heap.size]? = u.heap[w.heap.size]? := Below.heap_setCell _ _ _ _ (by simp; omega)
  refine ⟨h.bel.setCell (by simp; omega) _, ⟨Ng.nod_same h.nd e0, fun j hj => (World.frozen?_of_block (a := ⟨w.heap.size, j, none⟩) e0).trans (h.nd.frz j hj)⟩, h.p2.far (by omega) _, h.pb.far (by omega) _, h.rf.set hn _, h.rl.set hn _, ?_, (h.rw'.put i hv).set hn _, h.hb⟩
  unfold Ng.Own
  rw [List.length_set]
  exact hs
theorem Nh.CW.nx {w : World} {k : Nat} {f : Nat → Bool} {al : Option Addr} {n cap b n1 : Nat} {vF1 vL1 : Value} {e1 : Bool} {vN1 : Value} {F1 L1 : List Int} {N1 : List (List Int)} {rows1 : List Value} {u : World} (h : Nh.CW w k f al n cap b n1 vF1 vL1 e1 vN1 F1 L1 N1 rows1 u) : ∃ rows, Ng.Own (b + 1) vN1 rows u ∧ Nh.Rows u (fun k => b < k ∧ some k ≠ vN1.ownBlock) rows N1 := ⟨rows1, h.ow, h.rw'⟩
theorem Nh.CW.kb {w : World} {k : Nat} {f : Nat → Bool} {al : Option Addr} {n cap b n1 : Nat} {vF1 vL1 : Value} {e1 : Bool} {vN1 : Value} {F1 L1 : List Int} {N1 : List (List Int)} {rows1 : List Value} {u : World} (h : Nh.CW w k f al n cap b n1 vF1 vL1 e1 vN1 F1 L1 N1 rows1 u) : ∀ j, u.heap.size ≤ j → b < j ∧ some j ≠ vN1.ownBlock := fun j hj =>
  ⟨by have := h.pb.lt; omega, fun e => by have := (World.ownsRow.lt h.ow j e.symm).2; omega⟩
def Nh.relV (bx bz : Nat) (n2 : Int) (e1 e2 : Bool) (vN vF1 vF2 vL1 vL2 : Value) (B : Nat → Prop) (F L : List Int) : List (Value → World → Prop) :=
  [fun v _ => v = .pointer (some ⟨bz, 0, none⟩), fun v _ => v = .int .i64 n2, fun v _ => v = .pointer (some ⟨bx, 3, none⟩), fun v _ => v = .bool e1, fun v _ => v = .bool e1,
   fun v _ => if e1 = true then v = undef else v = .pointer (some ⟨bz, 3, none⟩), fun v _ => if e1 = true then v = undef else v = .bool e2, fun v _ => v = .bool (e1 || e2),
   fun v _ => v = .pointer (some ⟨bx, 4, none⟩), fun v _ => v = vN, fun v _ => v = .pointer (some ⟨bx, 1, none⟩), fun v _ => v = vF1, fun v _ => v = .pointer (some ⟨bz, 1, none⟩), fun v _ => v = vF2, fun v u => Nf.Row u B v F,
   fun v _ => v = .pointer (some ⟨bx, 2, none⟩), fun v _ => v = vL1, fun v _ => v = .pointer (some ⟨bz, 2, none⟩), fun v _ => v = vL2, fun v u => Nf.Row u B v L, fun v u => ∃ vF vL, v = .agg #[.int .i64 n2, vF, vL, .bool (e1 || e2), vN] ∧ Nf.Row u B vF F ∧ Nf.Row u B vL L]
theorem Nh.relV_up (bx bz : Nat) (n2 : Int) (e1 e2 : Bool) (vN vF1 vF2 vL1 vL2 : Value) (B : Nat → Prop) (F L : List Int) : Rg.Ups (Nh.relV bx bz n2 e1 e2 vN vF1 vF2 vL1 vL2 B F L) := by
  refine ⟨?_, ?_, ?_, ?_, ?_, ?_, ?_, ?_, ?_, ?_, ?_, ?_, ?_, ?_, ?_, ?_, ?_, ?_, ?_, ?_, ?_, trivial⟩
  all_goals intro v w w' h hb
  all_goals (first | exact h | exact Nf.Row.up h hb | (obtain ⟨vF, vL, e, h1, h2⟩ := h; exact ⟨vF, vL, e, h1.up hb, h2.up hb⟩))
end Go.Proofs.Ytnbbepgjpfhjdaa
