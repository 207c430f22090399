/- What the program's Sets answers, walked: rows of sets that grow by append. -/
import Derived.Test.YtigdelfoipcilaaRyH
import Derived.Test.YtigdelfoipcilaaBsO
import Derived.Laws.AppendOwnNone
namespace Go.Proofs.Ytigdelfoipcilaa
set_option linter.unusedVariables false
set_option linter.unusedSimpArgs false
open Go.RowKit
def Sr.cells (fs : List (Nat → Bool)) : List Value := fs.flatMap fun f => [.int .u64 (Bs.word f 0), .int .u64 (Bs.word f 1), .int .u64 (Bs.word f 2), .int .u64 (Bs.word f 3)]
theorem Sr.cells_append (a b : List (Nat → Bool)) : Sr.cells (a ++ b) = Sr.cells a ++ Sr.cells b := by simp [Sr.cells]
theorem Sr.cells_len : ∀ fs : List (Nat → Bool), (Sr.cells fs).length = fs.length * 4
  | [] => rfl
  | f :: r => by
    have := Sr.cells_len r
    simp only [Sr.cells, List.flatMap_cons, List.length_append, List.length_cons, List.length_nil] at this ⊢
    omega
theorem Sr.cells_at : ∀ (fs : List (Nat → Bool)) (k : Nat) (h : k < fs.length), (Sr.cells fs)[k * 4]? = some (.int .u64 (Bs.word fs[k] 0)) ∧ (Sr.cells fs)[k * 4 + 1]? = some (.int .u64 (Bs.word fs[k] 1)) ∧ (Sr.cells fs)[k * 4 + 2]? = some (.int .u64 (Bs.word fs[k] 2)) ∧ (Sr.cells fs)[k * 4 + 3]? = some (.int .u64 (Bs.word fs[k] 3))
  | f :: r, 0, h => ⟨rfl, rfl, rfl, rfl⟩
  | f :: r, k + 1, h => by
    have ih := Sr.cells_at r k (by simpa using h)
    have e0 : Sr.cells (f :: r) = [.int .u64 (Bs.word f 0), .int .u64 (Bs.word f 1), .int .u64 (Bs.word f 2), .int .u64 (Bs.word f 3)] ++ Sr.cells r := rfl
    rw [e0]
    have a0 : (k + 1) * 4 = 4 + k * 4 := by omega
    have a1 : (k + 1) * 4 + 1 = 4 + (k * 4 + 1) := by omega
    have a2 : (k + 1) * 4 + 2 = 4 + (k * 4 + 2) := by omega
    have a3 : (k + 1) * 4 + 3 = 4 + (k * 4 + 3) := by omega
    rw [a1, a2, a3, a0, List.getElem?_append_right (by simp), List.getElem?_append_right (by simp), List.getElem?_append_right (by simp), List.getElem?_append_right (by simp)]
    simpa using ih
/-- a row of sets of one's own -/
def Sr.Own (base : Nat) (v : Value) (fs : List (Nat → Bool)) (w : World) : Prop := w.ownsRow base 25 4 v fs.length (Sr.cells fs) ∧ (fs = [] → v = .slice none 0 0)
theorem Sr.own_nil (base : Nat) (w : World) : Sr.Own base (.slice none 0 0) [] w := ⟨World.ownsRow_nil _ _ _ _, fun _ => rfl⟩
theorem Sr.Own.up {base : Nat} {v : Value} {fs : List (Nat → Bool)} {w w' : World} (h : Sr.Own base v fs w) (hb : Below w.heap.size w w') : Sr.Own base v fs w' := ⟨Bs.row_up h.1 hb, h.2⟩
theorem Sr.Own.slice {base : Nat} {v : Value} {fs : List (Nat → Bool)} {w : World} (h : Sr.Own base v fs w) : ∃ a cap, v = .slice a fs.length cap ∧ Bs.Row w a fs := by
  by_cases he : fs = []
  · subst he
    rw [h.2 rfl]
    exact ⟨none, 0, rfl, fun i hi => by simp at hi⟩
  · have hl : 0 < fs.length := List.length_pos_iff.2 he
    rcases h.1.2 with ⟨_, h0⟩ | ⟨g, cap, cur, rfl, _⟩
    · omega
    · refine ⟨_, cap, rfl, fun i hi => ⟨_, rfl, ?_⟩⟩
      have hc := h.1.cells (g := g) rfl
      obtain ⟨k0, k1, k2, k3⟩ := Sr.cells_at fs i hi
      have q0 := hc _ _ k0; have q1 := hc _ _ k1; have q2 := hc _ _ k2; have q3 := hc _ _ k3
      have e0 : ∀ j, (⟨g, 0, none⟩ : Addr).add j = ⟨g, j, none⟩ := fun j => by unfold Addr.add; split <;> simp_all
      rw [e0] at q0 q1 q2 q3 ⊢
      exact ⟨q0, q1, q2, q3⟩
theorem Sr.infoS : (Try.prog.info? 25).map (fun i => (i.zero, i.size, i.bytes)) = some (some (.agg #[.int .u64 0, .int .u64 0, .int .u64 0, .int .u64 0]), 4, 32) := by kernel_rfl
/-- append of one set to a row of one's own, at the walk -/
theorem Sr.append {ops : Array Oper} {rest : List Oper} {o : Oper} {a : Act} {Q : Exit → Act → World → Prop} {W : World} (hgd : o.guard = none) (s x : Operand)
    (ho : o.op = .call { callee := .builtin .append, args := #[s, x], argTypes := #[39, 39] })
    (base : Nat) (v : Value) (fs : List (Nat → Bool)) (hs : a.eval s = v) (O : Sr.Own base v fs W) (ad : Addr) (c : Nat) (gs : List (Nat → Bool)) (hx : a.eval x = .slice (some ad) gs.length c)
    (hnews : ∀ j u, (Sr.cells gs)[j]? = some u → W.cell? (ad.add j) = some u) (hg0 : gs ≠ []) (hl : fs.length + gs.length ≤ 1000000) (hbase : base ≤ W.heap.size)
    (h : ∀ v' w', Sr.Own base v' (fs ++ gs) w' → W.grownBy w' v.ownBlock → wpList Try.prog ops Q rest (a.put o.dst v') w') : wpList Try.prog ops Q (o :: rest) a W := by
  obtain ⟨iE, hiE⟩ : ∃ i, Try.prog.info? 25 = some i := by
    have := Sr.infoS
    cases h : Try.prog.info? 25 with
    | none => rw [h] at this; simp at this
    | some i => exact ⟨i, rfl⟩
  have hz := Sr.infoS
  rw [hiE] at hz
  simp at hz
  obtain ⟨hz0, hz1, hz2⟩ := hz
  refine wpList_append_own W hgd s x 39 ho base 25 iE _ 4 32 Try.underlying39 hiE hz0 hz1 hz2 rfl (by decide) v fs.length (Sr.cells fs) hs O.1 ad gs.length c (Sr.cells gs) hx (Sr.cells_len gs) hnews (by
    intro u hu
    simp only [Sr.cells, List.mem_flatMap] at hu
    obtain ⟨f, _, hu⟩ := hu
    simp at hu
    rcases hu with rfl | rfl | rfl | rfl <;> rfl) (by unfold maxLen; omega) (by omega) hbase ?_
  intro v' w' o1 o2 o3
  refine h _ _ ⟨by rw [List.length_append, Sr.cells_append]; exact o1, fun e => ?_⟩ o2
  have : gs = [] := by simp at e; exact e.2
  exact absurd this hg0
mutual
/-- the sets of all Ones -/
def Rx.sets : Rx → List (Nat → Bool)
  | .node k f l => if k = 1 then [f] else Rx.setsL l
def Rx.setsL : List Rx → List (Nat → Bool)
  | [] => []
  | x :: r => Rx.sets x ++ Rx.setsL r
end
theorem Rx.setsL_take : ∀ (l : List Rx) (q : Nat) (h : q < l.length), Rx.setsL (l.take (q + 1)) = Rx.setsL (l.take q) ++ Rx.sets l[q]
  | [], q, h => by simp at h
  | x :: r, 0, h => by simp [Rx.setsL]
  | x :: r, q + 1, h => by
    simp only [List.take_succ_cons, Rx.setsL, List.getElem_cons_succ]
    rw [Rx.setsL_take r q (by simpa using h), List.append_assoc]
mutual
theorem Rx.sets_le : ∀ x : Rx, x.sets.length ≤ x.size
  | .node k f l => by
    have := Rx.setsL_le l
    rw [Rx.sets]
    split
    · simp [Rx.size]
    · simp only [Rx.size]; omega
theorem Rx.setsL_le : ∀ l : List Rx, (Rx.setsL l).length ≤ Rx.sizeL l
  | [] => by simp [Rx.setsL]
  | x :: r => by
    have := Rx.sets_le x; have := Rx.setsL_le r
    simp only [Rx.setsL, Rx.sizeL, List.length_append]; omega
end
def Sr.Post (w0 : World) (fs : List (Nat → Bool)) (e : Ending) (w' : World) : Prop := ∃ rv, e = .returned rv ∧ Sr.Own w0.heap.size rv fs w' ∧ Below w0.heap.size w0 w'
theorem Sr.sz (w : World) (o : Obj) : w.heap.size + 1 = (w.alloc o).heap.size := by simp
theorem Sr.news_one (w : World) (f : Nat → Bool) (n : Nat) (hn : n = w.heap.size) : ∀ j u, (Sr.cells [f])[j]? = some u → (w.alloc (.cells #[.int .u64 (Bs.word f 0), .int .u64 (Bs.word f 1), .int .u64 (Bs.word f 2), .int .u64 (Bs.word f 3)] 25)).cell? ((⟨n, 0, none⟩ : Addr).add j) = some u :=
  hn ▸ World.news_of_block (cs := #[.int .u64 (Bs.word f 0), .int .u64 (Bs.word f 1), .int .u64 (Bs.word f 2), .int .u64 (Bs.word f 3)]) (t := 25) (fr := (0, 0)) (heap_alloc_new w _)
set_option maxRecDepth 100000 in
set_option maxHeartbeats 2000000 in
theorem sets_any (w0 : World) : ∀ (m : Nat) (x : Rx), x.size ≤ m → m ≤ 1000 → ∀ (v : Value), Rx.Is w0 x v → ∀ (rv : Value) (fs : List (Nat → Bool)) (w : World), Below w0.heap.size w0 w → Sr.Own w0.heap.size rv fs w → fs.length + x.size ≤ 100000 → Calls Try.prog 45 #[rv, v] w (Sr.Post w0 (fs ++ Rx.sets x)) := by
  intro m
  induction m with
  | zero => intro x h; have := x.size_pos; omega
  | succ m ih =>
    rintro ⟨k, f, l⟩ hm hm4 v hx rv fs w A O hfs
    obtain ⟨hk, a, cap, rfl, hl⟩ := hx
    simp only [Rx.size] at hm hfs
    have hle := Rx.length_le l
    have IH := Lib.hid ih; clear ih
    have HL := Lib.hid hl; clear hl
    obtain ⟨n, hn⟩ : ∃ n, l.length = n := ⟨_, rfl⟩
    have HN := Lib.hid hn
    unfold Rx.hdr
    rw [hn] at hle ⊢
    clear hn
    have HS := Lib.hid (show Rx.sets (.node k f l) = if k = 1 then [f] else Rx.setsL l by rw [Rx.sets])
    have B1 := Bs.below1 w (.cells #[.int .u8 k, .int .u64 (Bs.word f 0), .int .u64 (Bs.word f 1), .int .u64 (Bs.word f 2), .int .u64 (Bs.word f 3), .slice a n cap] 28)
    have N := Rx.nod_new w k f a n cap
    replace O := O.up B1
    replace A := Below.trans A (B1.mono A.size)
    clear B1
    have c0 := N.cell.c0; have c1 := N.cell.c1; have c2 := N.cell.c2; have c3 := N.cell.c3; have c4 := N.cell.c4; have c5 := N.cell.c5
    simp only [Nat.zero_add] at c0 c1 c2 c3 c4 c5
    clear N
    go_enter Try.func45, Try.ntmps45
    by_cases h1 : k = 1
    · have e1 : ((k : Int) == 1) = true := by simp; omega
      have HS2 := Lib.hid (show Rx.sets (.node k f l) = [f] by rw [HS.out, if_pos h1])
      clear h1 HS
      have B2 := Bs.below1 (w.alloc (.cells #[.int .u8 k, .int .u64 (Bs.word f 0), .int .u64 (Bs.word f 1), .int .u64 (Bs.word f 2), .int .u64 (Bs.word f 3), .slice a n cap] 28)) (.cells #[.int .u64 (Bs.word f 0), .int .u64 (Bs.word f 1), .int .u64 (Bs.word f 2), .int .u64 (Bs.word f 3)] 25)
      replace O := O.up B2
      replace A := Below.trans A (B2.mono A.size)
      have hsz := A.size
      have hln : fs.length + [f].length ≤ 1000000 := by simp only [List.length_cons, List.length_nil]; omega
      clear B2
      go_wp2_with (first
        | (at_builtin; refine Sr.append rfl _ _ rfl w0.heap.size _ fs rfl O ⟨w.heap.size + 1, 0, none⟩ 1 [f] rfl (Sr.news_one _ f _ (Sr.sz _ _)) (List.cons_ne_nil _ _) hln hsz ?_; intro v7 w4 O4 g4))
      have A4 := A.grown g4 A.size (fun j hj => (O.1.lt j hj).1)
      have hv7 : ∃ a9 n9 c9, v7 = .slice a9 n9 c9 := by
        obtain ⟨a9, c9, h9, _⟩ := O4.slice
        exact ⟨_, _, _, h9⟩
      obtain ⟨a9, n9, c9, rfl⟩ := hv7
      clear g4 O A
      go_wp2_with fail
      go_ret
      exact ⟨_, rfl, by rw [HS2.out]; exact O4, A4⟩
    · have e1 : ((k : Int) == 1) = false := by simp; omega
      have HS2 := Lib.hid (show Rx.sets (.node k f l) = Rx.setsL l by rw [HS.out, if_neg h1])
      clear h1 HS
      go_wp2_with fail
      generalize w.alloc (.cells #[.int .u8 k, .int .u64 (Bs.word f 0), .int .u64 (Bs.word f 1), .int .u64 (Bs.word f 2), .int .u64 (Bs.word f 3), .slice a n cap] 28) = U at *
      clear c0 c1 c2 c3 c4 c5
      go_loopw [0, 18] (fun r i wr => ∃ q : Nat, q ≤ n ∧ i = .int .i64 q ∧ Sr.Own w0.heap.size r (fs ++ Rx.setsL (l.take q)) wr ∧ Below w0.heap.size w0 wr) (fun _ i _ => n - (intOf i).toNat)
      case atStart => exact ⟨0, by omega, rfl, by simpa [Rx.setsL] using O, A⟩
      case round =>
        clear O A
        obtain ⟨q, hq, rfl, O, A⟩ := hrel
        by_cases hlt : q < n
        · have hlt' : q < l.length := by rw [HN.out]; exact hlt
          obtain ⟨p, rfl, hp⟩ := HL.out.get q hlt'
          rw [Nat.zero_add] at hp
          have hs := (Rx.part_le (List.getElem_mem hlt')).1
          have HT := Lib.hid (Rx.setsL_take l q hlt')
          have hsl := Rx.setsL_le (l.take q)
          have hsl2 : Rx.sizeL (l.take q) + l[q].size ≤ Rx.sizeL l := by
            have h1 : Rx.sizeL (l.take (q + 1)) = Rx.sizeL (l.take q) + l[q].size := by
              rw [List.take_succ_eq_append_getElem hlt']
              generalize l.take q = t
              induction t with
              | nil => simp [Rx.sizeL]
              | cons y t ih => simp only [List.cons_append, Rx.sizeL, ih]; omega
            have h2 : ∀ (t : List Rx) (j : Nat), Rx.sizeL (t.take j) ≤ Rx.sizeL t := by
              intro t
              induction t with
              | nil => intro j; simp [Rx.sizeL]
              | cons y t ih => intro j; cases j with
                | zero => simp [Rx.sizeL]
                | succ j => simp only [List.take_succ_cons, Rx.sizeL]; have := ih j; omega
            have := h2 l (q + 1)
            omega
          have IQ := Lib.hid (IH.out l[q] (by omega) (by omega))
          generalize l[q] = y at *
          obtain ⟨k1, f1, a1, n1, cap1, ⟨x0, x1, x2, x3, x4, x5⟩, hi⟩ := hp.open
          replace x0 := Bs.cell_up A x0; replace x1 := Bs.cell_up A x1; replace x2 := Bs.cell_up A x2; replace x3 := Bs.cell_up A x3; replace x4 := Bs.cell_up A x4; replace x5 := Bs.cell_up A x5
          have HI := Lib.hid hi
          clear hp hi
          unfold Rx.hdr at HI
          have B1 := Bs.below1 wr (.cells #[.int .u8 k1, .int .u64 (Bs.word f1 0), .int .u64 (Bs.word f1 1), .int .u64 (Bs.word f1 2), .int .u64 (Bs.word f1 3), .slice a1 n1 cap1] 28)
          replace O := O.up B1
          replace A := Below.trans A (B1.mono A.size)
          clear B1
          go_wp2_with fail
          refine (IQ.out _ HI.out _ _ _ A O (by rw [List.length_append]; omega)).mono ?_
          rintro e w1 ⟨rv1, rfl, O1, A1⟩
          clear O A IQ HI x0 x1 x2 x3 x4 x5
          rw [List.append_assoc, ← HT.out] at O1
          go_wp2_with fail
          go_roundw
          case rel => exact ⟨q + 1, by omega, by go_num, O1, A1⟩
          case measure => simp [intOf]; omega
        · have hq' : l.take q = l := List.take_of_length_le (by rw [HN.out]; omega)
          rw [hq', ← HS2.out] at O
          clear hq'
          go_wp2_with fail
          go_ret
          exact ⟨_, rfl, O, A⟩
/-- what Sets answers -/
def Px.setsOf (x : Rx) : List (Nat → Bool) := if x.may 1 then Rx.sets x else []
theorem Px.setsOf_no {x : Rx} (h : x.may 1 = false) : Px.setsOf x = [] := by simp [Px.setsOf, h]
theorem Px.setsOf_yes {x : Rx} (h : x.may 1 = true) : Px.setsOf x = Rx.sets x := by simp [Px.setsOf, h]
def Sr.SPost (w : World) (fs : List (Nat → Bool)) (e : Ending) (w' : World) : Prop := ∃ a cap, e = .returned (.slice a fs.length cap) ∧ Bs.Row w' a fs ∧ Below w.heap.size w w'
set_option maxRecDepth 100000 in
set_option maxHeartbeats 1000000 in
theorem Sets_any (x : Rx) (v : Value) (w : World) (hx : Rx.Is w x v) : Calls Try.prog 19 #[v] w (Sr.SPost w (Px.setsOf x)) := by
  have hv : ∃ k f b n c, v = Rx.hdr k f b n c := by
    cases x
    obtain ⟨_, b, c, e, _⟩ := hx
    exact ⟨_, _, b, _, c, e⟩
  obtain ⟨k, f, b, n, c, rfl⟩ := hv
  have A := Bs.below1 w (.cells #[.int .u8 k, .int .u64 (Bs.word f 0), .int .u64 (Bs.word f 1), .int .u64 (Bs.word f 2), .int .u64 (Bs.word f 3), .slice b n c] 28)
  have N := Rx.nod_new w k f b n c
  have X := hx.up A
  clear hx
  have c0 := N.cell.c0; have c1 := N.cell.c1; have c2 := N.cell.c2; have c3 := N.cell.c3; have c4 := N.cell.c4; have c5 := N.cell.c5
  simp only [Nat.zero_add] at c0 c1 c2 c3 c4 c5
  have RT := Lib.hid (Right_any x _ _ X)
  unfold Rx.hdr at X RT ⊢
  go_enter Try.func19, Try.ntmps19
  go_wp2_with fail
  generalize w.alloc (.cells #[.int .u8 k, .int .u64 (Bs.word f 0), .int .u64 (Bs.word f 1), .int .u64 (Bs.word f 2), .int .u64 (Bs.word f 3), .slice b n c] 28) = W at *
  refine RT.out.mono ?_
  rintro e w1 ⟨rfl, hb⟩
  replace N := N.up hb
  replace A := Bs.below_up A hb
  replace X := X.up hb
  clear hb RT c0 c1 c2 c3 c4 c5
  cases hm : x.may 1
  · have HM := Lib.hid (Px.setsOf_no hm)
    clear hm
    go_wp2_with fail
    go_ret
    rw [HM.out]
    exact ⟨none, 0, rfl, fun i hi => by simp at hi, A⟩
  have hsz4 := (Rx.may_iff.1 hm).2.2
  have HM := Lib.hid (Px.setsOf_yes hm)
  have c0 := N.cell.c0; have c1 := N.cell.c1; have c2 := N.cell.c2; have c3 := N.cell.c3; have c4 := N.cell.c4; have c5 := N.cell.c5
  simp only [Nat.zero_add] at c0 c1 c2 c3 c4 c5
  have ST := Lib.hid (sets_any w1 400 x hsz4 (by omega) _ X _ [] w1 (Below.refl _ _) (Sr.own_nil _ _) (by simp; omega))
  clear X hm
  go_wp2_with fail
  refine ST.out.mono ?_
  rintro e w2 ⟨rv, rfl, O, hb⟩
  replace A := Bs.below_up A hb
  obtain ⟨a', cap', rfl, R⟩ := O.slice
  clear hb ST c0 c1 c2 c3 c4 c5 N O
  simp only [List.nil_append] at R ⊢
  go_wp2_with fail
  go_ret
  exact ⟨a', cap', by rw [HM.out]; rfl, by rw [HM.out]; exact R, A⟩
end Go.Proofs.Ytigdelfoipcilaa
