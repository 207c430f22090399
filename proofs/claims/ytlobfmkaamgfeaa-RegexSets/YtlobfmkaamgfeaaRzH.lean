/- What the document's Sets answers, walked. -/
import Derived.Test.YtlobfmkaamgfeaaRzG
import Derived.Deep.Onto
namespace Go.Proofs.Ytlobfmkaamgfeaa
set_option linter.unusedVariables false
set_option linter.unusedSimpArgs false
open Go.RowKit
theorem Sr.Own.mono {base base' : Nat} {v : Value} {fs : List (Nat → Bool)} {w : World} (h : Sr.Own base v fs w) (hb : base' ≤ base) : Sr.Own base' v fs w := ⟨h.1.mono hb, h.2⟩
theorem Rx.wf_sole {k : Nat} {f : Nat → Bool} {l : List Rx} (h : (Rx.node k f l).wf = true) (h1 : k = 1) : l = [] := by
  subst h1
  simp only [Rx.wf, Bool.and_eq_true, Bool.not_eq_true', Bool.and_eq_false_imp, decide_eq_true_eq] at h
  have := h.1.1.2 (by omega)
  cases l with
  | nil => rfl
  | cons y r => simp at this
theorem Rx.wf_kid {k : Nat} {f : Nat → Bool} {l : List Rx} (h : (Rx.node k f l).wf = true) : ∀ q (hq : q < l.length), l[q].wf = true := by
  have h2 : Rx.wfL l = true := by simp only [Rx.wf, Bool.and_eq_true] at h; exact h.2
  clear h
  induction l with
  | nil => intro q hq; simp at hq
  | cons y r ih =>
    simp only [Rx.wfL, Bool.and_eq_true] at h2
    intro q hq
    cases q with
    | zero => exact h2.1
    | succ q => exact ih h2.2 q (by simpa using hq)
theorem Sr.append_none {ops : Array Oper} {rest : List Oper} {o : Oper} {a : Act} {Q : Exit → Act → World → Prop} {W : World} (hgd : o.guard = none) (s x : Operand)
    (ho : o.op = .call { callee := .builtin .append, args := #[s, x], argTypes := #[39, 39] })
    (base : Nat) (v : Value) (fs : List (Nat → Bool)) (hs : a.eval s = v) (O : Sr.Own base v fs W) (hx : a.eval x = .slice none 0 0)
    (h : wpList Try.prog ops Q rest (a.put o.dst v) W) : wpList Try.prog ops Q (o :: rest) a W := by
  obtain ⟨iE, hiE⟩ : ∃ i, Try.prog.info? 25 = some i := by
    have := Sr.infoS
    cases h : Try.prog.info? 25 with
    | none => rw [h] at this; simp at this
    | some i => exact ⟨i, rfl⟩
  exact wpList_append_own_none hgd s x 39 ho base 25 iE 4 Try.underlying39 hiE v _ _ hs O.1 hx h
theorem Sr.Own.full {base : Nat} {v : Value} {fs : List (Nat → Bool)} {w : World} (h : Sr.Own base v fs w) (hf : fs ≠ []) : ∃ g cap, v = .slice (some ⟨g, 0, none⟩) fs.length cap ∧ ∀ j u, (Sr.cells fs)[j]? = some u → w.cell? ((⟨g, 0, none⟩ : Addr).add j) = some u := by
  have hl : 0 < fs.length := List.length_pos_iff.2 hf
  rcases h.1.2 with ⟨_, h0⟩ | ⟨g, cap, cur, rfl, _⟩
  · omega
  · exact ⟨g, cap, rfl, h.1.cells (g := g) rfl⟩
set_option maxRecDepth 100000 in
set_option maxHeartbeats 2000000 in
theorem refSets_any : ∀ (m : Nat) (x : Rx), x.size ≤ m → m ≤ 1000 → x.wf = true → ∀ (v : Value) (w : World), Rx.Is w x v → Calls Try.prog 17 #[v] w (Sr.Post w (Rx.sets x)) := by
  intro m
  induction m with
  | zero => intro x h; have := x.size_pos; omega
  | succ m ih =>
    rintro ⟨k, f, l⟩ hm hm4 hwf v w hx
    obtain ⟨hk, a, cap, rfl, hl⟩ := hx
    simp only [Rx.size] at hm
    have hle := Rx.length_le l
    have IH := Lib.hid ih; clear ih
    have HL := Lib.hid hl; clear hl
    have HW := Lib.hid hwf; clear hwf
    obtain ⟨n, hn⟩ : ∃ n, l.length = n := ⟨_, rfl⟩
    have HN := Lib.hid hn
    unfold Rx.hdr
    rw [hn] at hle ⊢
    clear hn
    have HS := Lib.hid (show Rx.sets (.node k f l) = if k = 1 then [f] else Rx.setsL l by rw [Rx.sets])
    have A0 := Bs.below1 w (.cells #[.int .u8 k, .int .u64 (Bs.word f 0), .int .u64 (Bs.word f 1), .int .u64 (Bs.word f 2), .int .u64 (Bs.word f 3), .slice a n cap] 28)
    have N := Rx.nod_new w k f a n cap
    have c0 := N.cell.c0; have c1 := N.cell.c1; have c2 := N.cell.c2; have c3 := N.cell.c3; have c4 := N.cell.c4; have c5 := N.cell.c5
    simp only [Nat.zero_add] at c0 c1 c2 c3 c4 c5
    go_enter Try.func17, Try.ntmps17
    by_cases h1 : k = 1
    · have e1 : ((k : Int) == 1) = true := by simp; omega
      have hn0 : n = 0 := by rw [← HN.out, Rx.wf_sole HW.out h1]; rfl
      subst hn0
      have HS2 := Lib.hid (show Rx.sets (.node k f l) = [f] by rw [HS.out, if_pos h1])
      clear h1 HS
      have B2 := Bs.below1 (w.alloc (.cells #[.int .u8 k, .int .u64 (Bs.word f 0), .int .u64 (Bs.word f 1), .int .u64 (Bs.word f 2), .int .u64 (Bs.word f 3), .slice a 0 cap] 28)) (.cells #[.int .u64 (Bs.word f 0), .int .u64 (Bs.word f 1), .int .u64 (Bs.word f 2), .int .u64 (Bs.word f 3)] 25)
      have O := (Sr.own_nil (w.heap.size + 1) (w.alloc (.cells #[.int .u8 k, .int .u64 (Bs.word f 0), .int .u64 (Bs.word f 1), .int .u64 (Bs.word f 2), .int .u64 (Bs.word f 3), .slice a 0 cap] 28))).up B2
      have hsz := Nat.le_trans (Nat.le_of_eq (Sr.sz w _)) B2.size
      have hln : ([] : List (Nat → Bool)).length + [f].length ≤ 1000000 := by simp only [List.length_cons, List.length_nil]; omega
      go_wp2_with (first
        | (at_builtin; refine Sr.append rfl _ _ rfl (w.heap.size + 1) _ [] rfl O ⟨w.heap.size + 1, 0, none⟩ 1 [f] rfl (Sr.news_one _ f _ (Sr.sz _ _)) (List.cons_ne_nil _ _) hln hsz ?_; intro v7 w4 O4 g4))
      have B4 := B2.grown g4 B2.size (fun j hj => by cases hj)
      have A4 := Bs.below_up A0 B4
      have N4 := (N.up B4).cell.c5
      simp only [Nat.zero_add] at N4
      have hv7 : ∃ a9 n9 c9, v7 = .slice a9 n9 c9 := by
        obtain ⟨a9, c9, h9, _⟩ := O4.slice
        exact ⟨_, _, _, h9⟩
      obtain ⟨a9, n9, c9, rfl⟩ := hv7
      clear g4 O B4 B2 N A0 c0 c1 c2 c3 c4 c5
      go_wp2_with fail
      go_loopw [3, 4] (fun r i wr => r = .slice a9 n9 c9 ∧ i = .int .i64 0 ∧ wr = w4) (fun _ _ _ => 0)
      case atStart => exact ⟨rfl, rfl, rfl⟩
      case round =>
        obtain ⟨rfl, rfl, rfl⟩ := hrel
        go_wp2_with fail
        go_ret
        exact ⟨_, rfl, by rw [HS2.out]; exact O4.mono (by omega), A4⟩
    · have e1 : ((k : Int) == 1) = false := by simp; omega
      have HS2 := Lib.hid (show Rx.sets (.node k f l) = Rx.setsL l by rw [HS.out, if_neg h1])
      clear h1 HS
      go_wp2_with fail
      generalize w.alloc (.cells #[.int .u8 k, .int .u64 (Bs.word f 0), .int .u64 (Bs.word f 1), .int .u64 (Bs.word f 2), .int .u64 (Bs.word f 3), .slice a n cap] 28) = U at *
      clear c0 c1 c2 c3 c4 N
      go_loopw [3, 4] (fun r i wr => ∃ q : Nat, q ≤ n ∧ i = .int .i64 q ∧ Sr.Own U.heap.size r (Rx.setsL (l.take q)) wr ∧ Below U.heap.size U wr) (fun _ i _ => n - (intOf i).toNat)
      case atStart => exact ⟨0, by omega, rfl, by simpa [Rx.setsL] using Sr.own_nil _ _, Below.refl _ _⟩
      case round =>
        obtain ⟨q, hq, rfl, O, A⟩ := hrel
        replace c5 := Bs.cell_up A c5
        have AW := Bs.below_up A0 A
        by_cases hlt : q < n
        · have hlt' : q < l.length := by rw [HN.out]; exact hlt
          obtain ⟨p, rfl, hp⟩ := HL.out.get q hlt'
          rw [Nat.zero_add] at hp
          have hs := (Rx.part_le (List.getElem_mem hlt')).1
          have HT := Lib.hid (Rx.setsL_take l q hlt')
          have hsl := Rx.setsL_le (l.take q)
          have hsl3 := Rx.sets_le l[q]
          have hsl2 : Rx.sizeL (l.take q) ≤ Rx.sizeL l := by
            have h2 : ∀ (t : List Rx) (j : Nat), Rx.sizeL (t.take j) ≤ Rx.sizeL t := by
              intro t
              induction t with
              | nil => intro j; simp [Rx.sizeL]
              | cons y t ih => intro j; cases j with
                | zero => simp [Rx.sizeL]
                | succ j => simp only [List.take_succ_cons, Rx.sizeL]; have := ih j; omega
            exact h2 l q
          have IQ := Lib.hid (IH.out l[q] (by omega) (by omega) (Rx.wf_kid HW.out q hlt'))
          have hln : (Rx.setsL (l.take q)).length + (Rx.sets l[q]).length ≤ 1000000 := by omega
          clear hsl hsl2 hsl3 hs
          generalize l[q] = y at *
          obtain ⟨k1, f1, a1, n1, cap1, ⟨x0, x1, x2, x3, x4, x5⟩, hi⟩ := hp.open
          replace x0 := Bs.cell_up AW x0; replace x1 := Bs.cell_up AW x1; replace x2 := Bs.cell_up AW x2; replace x3 := Bs.cell_up AW x3; replace x4 := Bs.cell_up AW x4; replace x5 := Bs.cell_up AW x5
          have HI := Lib.hid (hi.up AW)
          clear hp hi AW
          unfold Rx.hdr at HI
          go_wp2_with fail
          refine (IQ.out _ _ HI.out).mono ?_
          rintro e w1 ⟨rv1, rfl, O1, A1⟩
          have hO := O.up A1
          have hA := Bs.below_up A A1
          have hsz := hA.size
          clear O IQ HI x0 x1 x2 x3 x4 x5 c5
          by_cases hy : Rx.sets y = []
          · have HY := Lib.hid hy
            have e9 := O1.2 hy
            subst e9
            clear hy O1 A A1
            obtain ⟨a9, c9, h9, _⟩ := hO.slice
            have HB : ∃ n9, _ = Value.slice a9 n9 c9 := ⟨_, h9⟩
            clear h9
            obtain ⟨n9, rfl⟩ := HB
            go_wp2_with (first | (at_builtin; refine Sr.append_none rfl _ _ rfl U.heap.size _ _ rfl hO rfl ?_))
            go_roundw
            case rel => exact ⟨q + 1, by omega, by go_num, by rw [HT.out, HY.out, List.append_nil]; exact hO, hA⟩
            case measure => simp [intOf]; omega
          · obtain ⟨g, cap2, rfl, hnews⟩ := O1.full hy
            have HY := Lib.hid hy
            have HNW := Lib.hid hnews
            clear hy hnews O1 A A1
            go_wp2_with (first | (at_builtin; refine Sr.append rfl _ _ rfl U.heap.size _ _ rfl hO ⟨g, 0, none⟩ cap2 _ rfl HNW.out HY.out hln hsz ?_; intro v7 w4 O4 g4))
            have A4 := hA.grown g4 hA.size (fun j hj => (hO.1.lt j hj).1)
            have hv7 : ∃ a9 n9 c9, v7 = .slice a9 n9 c9 := by
              obtain ⟨a9, c9, h9, _⟩ := O4.slice
              exact ⟨_, _, _, h9⟩
            obtain ⟨a9, n9, c9, rfl⟩ := hv7
            clear g4 hO hA HNW HY
            rw [← HT.out] at O4
            go_wp2_with fail
            go_roundw
            case rel => exact ⟨q + 1, by omega, by go_num, O4, A4⟩
            case measure => simp [intOf]; omega
        · have hq' : l.take q = l := List.take_of_length_le (by rw [HN.out]; omega)
          rw [hq', ← HS2.out] at O
          clear hq'
          go_wp2_with fail
          go_ret
          exact ⟨_, rfl, O.mono A0.size, AW⟩
end Go.Proofs.Ytlobfmkaamgfeaa
