/- Rows of slices of numbers, of one's own. What the program's mark does: walked. Places marked one behind the other: plain facts: what is marked is what one comes to. -/
import Derived.Test.YthapedadnbkgnaaG5
import Derived.Deep.Upon
import Derived.Deep.AppendSrc
import Derived.Test.YthapedadnbkgnaaG10
import Derived.Deep.OwnRows
namespace Go.Proofs.Ythapedadnbkgnaa
set_option linter.unusedVariables false
set_option linter.unusedSimpArgs false
open Go.RowKit
def Ng.Sv (w : World) (a : Option Addr) (l : List Value) : Prop := ∀ i (h : i < l.length), ∃ x, a = some x ∧ w.cell? (x.add i) = some l[i]
theorem Ng.Sv.up {w w' : World} {a : Option Addr} {l : List Value} (h : Ng.Sv w a l) (hb : Below w.heap.size w w') : Ng.Sv w' a l := fun i hi => by
  obtain ⟨x, e, h⟩ := h i hi
  exact ⟨x, e, Bs.cell_up hb h⟩
theorem Ng.infoRow : (Try.prog.info? 38).map (fun i => (i.zero, i.size, i.bytes)) = some (some (.slice none 0 0), 1, 24) := by kernel_rfl
def Ng.Own (base : Nat) (v : Value) (ns : List Value) (w : World) : Prop := w.ownsRow base 38 1 v ns.length ns
theorem Ng.own_nil (base : Nat) (w : World) : Ng.Own base (.slice none 0 0) [] w := World.ownsRow_nil _ _ _ _
theorem Ng.Own.up {base : Nat} {v : Value} {ns : List Value} {w w' : World} (h : Ng.Own base v ns w) (hb : Below w.heap.size w w') : Ng.Own base v ns w' := Bs.row_up h hb
theorem Ng.Own.form {base : Nat} {v : Value} {ns : List Value} {w : World} (h : Ng.Own base v ns w) : ∃ a n c, v = .slice a n c := by
  rcases h.2 with ⟨h0, _⟩ | ⟨g, cap, cur, e, _⟩
  · exact ⟨_, _, _, h0⟩
  · exact ⟨_, _, _, e⟩
theorem Ng.Own.cap {base : Nat} {v : Value} {ns : List Value} {w : World} (h : Ng.Own base v ns w) {a : Option Addr} {n c : Nat} (e : v = .slice a n c) : n ≤ c := by
  rcases h.2 with ⟨h0, _⟩ | ⟨g, cap, cur, e', _, _, hle, _⟩
  · rw [h0] at e; injection e with e1 e2 e3; omega
  · rw [e'] at e; injection e with e1 e2 e3; omega
theorem Ng.Own.cells {base : Nat} {v : Value} {ns : List Value} {w : World} (h : Ng.Own base v ns w) : ∃ a c, v = .slice a ns.length c ∧ Ng.Sv w a ns := by
  rcases h.2 with ⟨rfl, h0⟩ | ⟨g, cap, cur, rfl, _⟩
  · have e : ns = [] := List.length_eq_zero_iff.1 h0
    subst e
    exact ⟨none, 0, rfl, fun i hi => by simp at hi⟩
  · exact ⟨some ⟨g, 0, none⟩, cap, rfl, fun i hi => ⟨_, rfl, World.ownsRow.cells (g := g) h rfl i ns[i] (by simp [hi])⟩⟩
set_option maxRecDepth 100000 in
theorem Ng.append {ops : Array Oper} {rest : List Oper} {o : Oper} {a : Act} {Q : Exit → Act → World → Prop} {W : World} (hgd : o.guard = none) (s x : Operand)
    (ho : o.op = .call { callee := .builtin .append, args := #[s, x], argTypes := #[37, 37] })
    (base : Nat) (v : Value) (ns : List Value) (hs : a.eval s = v) (O : Ng.Own base v ns W) (ao : Option Addr) (c nl : Nat) (l : List Value) (hnl : l.length = nl) (hx : a.eval x = .slice ao nl c) (hS : Ng.Sv W ao l) (ho1 : ∀ u ∈ l, u.oneCell' = true) (hl : ns.length + l.length ≤ 1000000) (hbase : base ≤ W.heap.size)
    (h : ∀ v' w', Ng.Own base v' (ns ++ l) w' → W.grownBy w' v.ownBlock → wpList Try.prog ops Q rest (a.put o.dst v') w') : wpList Try.prog ops Q (o :: rest) a W := by
  subst hnl
  obtain ⟨iI, hiI, hz0, hz1, hz2⟩ := info_parts Ng.infoRow
  by_cases h0 : l = []
  · subst h0
    refine wpList_plain hgd fun K hK => ?_
    obtain ⟨av, ns', cs, hv⟩ := Ng.Own.form O
    have hle : ns' ≤ cs := by
      exact Ng.Own.cap O hv
    have hsrc : Src Try.prog iI.size 37 (.slice ao 0 c) 0 [] W := by
      cases ao with
      | none => exact Src.ofNil W Try.underlying37 c
      | some ad => exact Src.ofSlice W Try.underlying37 ad 0 c [] (by simp) (fun j u hj => by simp at hj) (fun u hu => by simp at hu)
    have hrun := run_append_nothing (P := Try.prog) W 37 37 o.type 38 iI Try.underlying37 hiI av ns' cs hle (.slice ao 0 c) hsrc
    have hx' : a.eval x = .slice ao 0 c := hx
    unfold Oper.wp
    rw [hv] at hs
    simp [execOp, ho, resolve, invoke, builtin, hs, hx', hrun, Result.andThen]
    refine hK _ _ ?_
    rw [← hv]
    exact h v W (by rw [List.append_nil]; exact O) (World.grownBy.refl _ _)
  · have hpos : 0 < l.length := List.length_pos_iff.2 h0
    obtain ⟨ad, rfl, _⟩ := hS 0 hpos
    have nw : ∀ j u, (l)[j]? = some u → W.cell? (ad.add j) = some u := by
      intro j u hu
      by_cases hj : j < l.length
      · rw [List.getElem?_eq_getElem hj] at hu
        obtain ⟨ad', e', hc⟩ := hS j hj
        injection e' with e'
        subst e'
        injection hu with hu
        rw [← hu]
        exact hc
      · rw [List.getElem?_eq_none (by omega)] at hu
        simp at hu
    refine wpList_append_own _ hgd s x 37 ho base 38 iI _ 1 24 Try.underlying37 hiI hz0 hz1 hz2 rfl (by decide) v ns.length (ns) hs O ad l.length c (l) hx (by simp) nw ho1 (by unfold maxLen; omega) (by omega) hbase ?_
    intro v7 w4 o7 g7 _
    exact h v7 w4 (by unfold Ng.Own; simpa [List.length_append, List.map_append] using o7) g7
open Go.RowKit
structure Ng.FV (w : World) (r g : Nat) (a : Option Addr) (c : Nat) (fs : List (List Nat)) : Prop where
  c0 : w.cell? ⟨r, 0, none⟩ = some (.slice a fs.length c)
  rg : r ≠ g
  row : ∀ i (h : i < fs.length), ∃ ad v, a = some ad ∧ w.cell? (ad.add i) = some v ∧ (ad.add i).block ≠ g ∧ Nf.Row w (· ≠ g) v (fs[i].map (fun n : Nat => (n : Int)))
theorem Ng.FV.grown {w w' : World} {r g : Nat} {a : Option Addr} {c : Nat} {fs : List (List Nat)} (h : Ng.FV w r g a c fs) (hg : w.grownBy w' (some g)) : Ng.FV w' r g a c fs := by
  refine ⟨hg.cell h.c0 (fun e => h.rg (by injection e)), h.rg, fun i hi => ?_⟩
  obtain ⟨ad, v, e1, e2, e3, e4⟩ := h.row i hi
  exact ⟨ad, v, e1, hg.cell e2 (fun e => e3 (by injection e)), e3, e4.grown hg (fun k hk e => hk (by injection e))⟩
def Ng.left (n : Nat) (S : Nat → Bool) : Nat := (List.range n).countP fun i => !S i
structure Ng.Marked (E : Nat → Nat → Prop) (n at' : Nat) (S T : Nat → Bool) : Prop where
  old : ∀ v, S v = true → T v = true
  here : T at' = true
  next : ∀ v u, T v = true → S v = false → E v u → T u = true
  way : ∀ v, T v = true → S v = true ∨ Nf.Clo E at' v
  low : ∀ v, T v = true → S v = true ∨ v < n
theorem Ng.left_le {n : Nat} {S T : Nat → Bool} (h : ∀ v, S v = true → T v = true) : Ng.left n T ≤ Ng.left n S := by
  refine List.countP_mono_left fun i _ hi => ?_
  cases hs : S i with
  | false => rfl
  | true => rw [h i hs] at hi; exact hi
theorem Ng.left_lt {n at' : Nat} {S : Nat → Bool} (h : at' < n) (hs : S at' = false) : Ng.left n (fun i => if i = at' then true else S i) < Ng.left n S := by
  unfold Ng.left
  have : ∀ (l : List Nat), at' ∈ l → (l.countP fun i => !(if i = at' then true else S i)) < l.countP fun i => !S i := by
    intro l
    induction l with
    | nil => intro h; simp at h
    | cons y r ih =>
      intro hm
      have hle : (r.countP fun i => !(if i = at' then true else S i)) ≤ r.countP fun i => !S i := List.countP_mono_left fun i _ hi => by
        by_cases e : i = at'
        · simp [e] at hi
        · simpa [e] using hi
      rw [List.countP_cons, List.countP_cons]
      by_cases e : y = at'
      · subst e
        rw [if_neg (by simp), if_pos (by rw [hs]; rfl)]
        exact Nat.lt_succ_of_le hle
      · have := ih (by simpa [Ne.symm e] using hm)
        simp only [e, if_false]
        omega
  exact this _ (by simpa using h)
def Ng.MPost (w : World) (E : Nat → Nat → Prop) (n g at' : Nat) (S : Nat → Bool) (e : Ending) (w' : World) : Prop := ∃ T, e = .returned (.tuple #[]) ∧ Ng.Marked E n at' S T ∧ w'.rowIs g 4 n (fun i => .bool (T i)) ∧ w.grownBy w' (some g)
structure Ng.Half (E : Nat → Nat → Prop) (n at' : Nat) (l : List Nat) (k : Nat) (S T : Nat → Bool) : Prop where
  old : ∀ v, S v = true → T v = true
  here : T at' = true
  kids : ∀ j (h : j < l.length), j < k → T l[j] = true
  next : ∀ v u, T v = true → S v = false → v ≠ at' → E v u → T u = true
  way : ∀ v, T v = true → S v = true ∨ Nf.Clo E at' v
  low : ∀ v, T v = true → S v = true ∨ v < n
theorem Ng.half_zero {E : Nat → Nat → Prop} {n at' : Nat} {l : List Nat} {S : Nat → Bool} (hn : at' < n) : Ng.Half E n at' l 0 S (fun i => if i = at' then true else S i) := by
  refine ⟨fun v h => ?_, by simp, fun j h h' => by omega, fun v u h1 h2 h3 _ => ?_, fun v h => ?_, fun v h => ?_⟩
  · by_cases e : v = at'
    · simp [e]
    · simpa [e] using h
  · simp [h3, h2] at h1
  · by_cases e : v = at'
    · subst e; exact .inr (.refl _)
    · simp [e] at h; exact .inl h
  · by_cases e : v = at'
    · subst e; exact .inr hn
    · simp [e] at h; exact .inl h
theorem Ng.half_next {E : Nat → Nat → Prop} {n at' : Nat} {l : List Nat} {k : Nat} {S T U : Nat → Bool} (h : Ng.Half E n at' l k S T) (hk : k < l.length) (he : E at' l[k]) (m : Ng.Marked E n l[k] T U) : Ng.Half E n at' l (k + 1) S U := by
  refine ⟨fun v hv => m.old v (h.old v hv), m.old _ h.here, fun j hj hjk => ?_, fun v u h1 h2 h3 h4 => ?_, fun v hv => ?_, fun v hv => ?_⟩
  · by_cases e : j = k
    · subst e; exact m.here
    · exact m.old _ (h.kids j hj (by omega))
  · cases ht : T v with
    | true => exact m.old _ (h.next v u ht h2 h3 h4)
    | false => exact m.next v u h1 ht h4
  · rcases m.way v hv with h1 | h1
    · exact h.way v h1
    · exact .inr (.step he h1)
  · rcases m.low v hv with h1 | h1
    · exact h.low v h1
    · exact .inr h1
theorem Ng.half_done {E : Nat → Nat → Prop} {n at' : Nat} {l : List Nat} {k : Nat} {S T : Nat → Bool} (h : Ng.Half E n at' l k S T) (hk : l.length ≤ k) (he : ∀ u, E at' u → u ∈ l) : Ng.Marked E n at' S T := by
  refine ⟨h.old, h.here, fun v u h1 h2 h3 => ?_, h.way, h.low⟩
  by_cases e : v = at'
  · subst e
    obtain ⟨j, hj, rfl⟩ := List.getElem_of_mem (he u h3)
    exact h.kids j hj (by omega)
  · exact h.next v u h1 h2 e h3
set_option maxRecDepth 100000 in
set_option maxHeartbeats 4000000 in
theorem mark_any (fs : List (List Nat)) (hlt : ∀ l ∈ fs, ∀ u ∈ l, u < fs.length) (hsm : fs.length ≤ 1000000) (hsl : ∀ l ∈ fs, l.length ≤ 1000000) (E : Nat → Nat → Prop) (hE : ∀ u v, E u v ↔ ∃ l, fs[u]? = some l ∧ v ∈ l) : ∀ (m : Nat) (S : Nat → Bool) (r g : Nat) (a : Option Addr) (c c' at' : Nat) (w : World), Ng.left fs.length S ≤ m → at' < fs.length → Ng.FV w r g a c fs → w.rowIs g 4 fs.length (fun i => .bool (S i)) → Calls Try.prog 88 #[.pointer (some ⟨r, 0, none⟩), .slice (some ⟨g, 0, none⟩) fs.length c', .int .i64 at'] w (Ng.MPost w E fs.length g at' S) := by
  intro m
  induction m using Nat.strongRecOn with
  | _ m ih =>
    intro S r g a c c' at' w hm hat FV RS
    have IH := Lib.hid ih; clear ih
    obtain ⟨ad, v, rfl, hv, hvg, R⟩ := FV.row at' hat
    obtain ⟨av, nv, cv, rfl⟩ := R.form
    obtain ⟨hnv, hcells⟩ := R.at
    have HRW := Lib.hid R
    clear hcells R
    have hmem : fs[at'] ∈ fs := List.getElem_mem hat
    have HLT := Lib.hid (hlt _ hmem)
    have hsl' := hsl _ hmem
    have HE := Lib.hid (show ∀ u, E at' u ↔ u ∈ fs[at'] from fun u => by
      rw [hE]
      constructor
      · rintro ⟨l, h1, h2⟩
        rw [List.getElem?_eq_getElem hat] at h1
        injection h1 with h1
        rw [h1]; exact h2
      · intro h; exact ⟨_, List.getElem?_eq_getElem hat, h⟩)
    obtain ⟨ks, hks⟩ : ∃ ks, fs[at'] = ks := ⟨_, rfl⟩
    rw [hks] at HRW HLT HE hnv hsl'
    clear hks hmem
    rw [List.length_map] at hnv
    obtain ⟨N, hN⟩ : ∃ N, fs.length = N := ⟨_, rfl⟩
    have HFV := Lib.hid FV
    have c0 := FV.c0
    rw [hN] at c0 hat RS hm IH HLT ⊢
    have HNN := Lib.hid hN
    clear FV hN hlt hsl hE
    have s0 := RS.cell hat
    have z0 := RS.frozen at'
    have i1 : (0 : Int) ≤ (at' : Int) := by omega
    have i2 : (at' : Int) < (N : Int) := by omega
    go_enter Try.func88, Try.ntmps88
    cases hS : S at'
    · rw [hS] at s0
      have RS1 := RS.set at' (.bool true)
      have RS2 : (w.setCell ⟨g, at', none⟩ (.bool true)).rowIs g 4 N (fun i => .bool ((fun i => if i = at' then true else S i) i)) := RS1.congr (fun i _ => by by_cases e : i = at' <;> simp [e])
      have hleft := Ng.left_lt (n := N) hat hS
      have g1 : w.grownBy (w.setCell ⟨g, at', none⟩ (.bool true)) (some g) := Rx.grown_set (World.grownBy.refl _ _) _ _
      have FV1 := HFV.out.grown g1
      have d0 := FV1.c0
      rw [HNN.out] at d0
      have d1 := g1.cell hv (fun e => hvg (by injection e))
      have H0 := Lib.hid (Ng.half_zero (E := E) (l := ks) (S := S) hat)
      have HFV1 := Lib.hid FV1
      have HG1 := Lib.hid g1
      have HR2 := Lib.hid RS2
      have HLF := Lib.hid hleft
      clear FV1 g1 RS2 RS1 RS hleft hS c0 hv HFV1
      go_wp2_with fail
      go_loopw [23] (fun i wr => ∃ (k : Nat) (T : Nat → Bool), k ≤ nv ∧ i = .int .i64 k ∧ Hid (Ng.Half E N at' ks k S T) ∧ Hid (wr.rowIs g 4 N (fun i => .bool (T i))) ∧ Hid (w.grownBy wr (some g))) (fun i _ => nv - (intOf i).toNat)
      case atStart => exact ⟨0, _, by omega, rfl, H0, HR2, HG1⟩
      case round =>
        clear H0 HR2 HG1 d0 d1 s0
        obtain ⟨k, T, hk, rfl, HH, HR, HG⟩ := hrel
        by_cases hkl : k < nv
        · have hkl' : k < ks.length := by omega
          obtain ⟨_, hcs⟩ := (HRW.out.grown HG.out (fun j hj e => hj (by injection e))).at
          obtain ⟨x, rfl, hx⟩ := hcs k (by rw [List.length_map]; exact hkl')
          rw [List.getElem_map] at hx
          clear hcs
          have hlt9 := HLT.out ks[k] (List.getElem_mem hkl')
          have HEK := Lib.hid ((HE.out ks[k]).2 (List.getElem_mem hkl'))
          have HHN := Lib.hid (fun U (m : Ng.Marked E N ks[k] T U) => Ng.half_next HH.out hkl' HEK.out m)
          have hl9 : Ng.left N T < m := by
            have h1 := Ng.left_le (n := N) (S := fun i => if i = at' then true else S i) (T := T) (fun v hv => by
              by_cases e : v = at'
              · rw [e]; exact HH.out.here
              · simp [e] at hv; exact HH.out.old v hv)
            have h2 := HLF.out
            omega
          have C := Lib.hid (IH.out (Ng.left N T) hl9 T r g (some ad) c c' ks[k] wr (Nat.le_refl _) hlt9 (HFV.out.grown HG.out) HR.out)
          generalize ks[k] = y at *
          have j1 : (0 : Int) ≤ (k : Int) := by omega
          have j2 : (k : Int) < (nv : Int) := by omega
          have e1 : decide ((k : Int) < (nv : Int)) = true := decide_eq_true (by omega)
          have e2 : decide (k < nv) = true := decide_eq_true hkl
          go_wp2_with fail
          refine C.out.mono ?_
          rintro e w2 ⟨U, rfl, M, R2, g2⟩
          have HH2 := Lib.hid (HHN.out U M)
          have HR2 := Lib.hid R2
          have HG2 := Lib.hid (HG.out.trans g2)
          clear C M R2 g2 hx
          go_wp2_with fail
          go_roundw
          case rel => exact ⟨k + 1, U, by omega, by go_num, HH2, HR2, HG2⟩
          case measure => simp [intOf]; omega
        · have e1 : decide ((k : Int) < (nv : Int)) = false := decide_eq_false (by omega)
          have e2 : decide (k < nv) = false := decide_eq_false hkl
          go_wp2_with fail
          go_end0
          exact ⟨T, rfl, Ng.half_done HH.out (by omega) (fun u hu => (HE.out u).1 hu), HR.out, HG.out⟩
    · rw [hS] at s0
      have HSS := Lib.hid hS
      have HRS := Lib.hid RS
      clear hS RS
      go_wp2_with fail
      go_end0
      exact ⟨S, rfl, ⟨fun v h => h, HSS.out, fun v u h1 h2 _ => by rw [h1] at h2; simp at h2, fun v h => .inl h, fun v h => .inl h⟩, HRS.out, World.grownBy.refl _ _⟩
structure Ng.Seen (E : Nat → Nat → Prop) (n : Nat) (ps : List Nat) (k : Nat) (T : Nat → Bool) : Prop where
  closed : ∀ v u, T v = true → E v u → T u = true
  all : ∀ j (h : j < ps.length), j < k → T ps[j] = true
  way : ∀ v, T v = true → ∃ p ∈ ps, Nf.Clo E p v
  low : ∀ v, T v = true → v < n
theorem Ng.seen_zero (E : Nat → Nat → Prop) (n : Nat) (ps : List Nat) : Ng.Seen E n ps 0 (fun _ => false) :=
  ⟨fun v u h => by simp at h, fun j _ h => by omega, fun v h => by simp at h, fun v h => by simp at h⟩
theorem Ng.seen_next {E : Nat → Nat → Prop} {n : Nat} {ps : List Nat} {k : Nat} {T U : Nat → Bool} (h : Ng.Seen E n ps k T) (hk : k < ps.length) (m : Ng.Marked E n ps[k] T U) : Ng.Seen E n ps (k + 1) U := by
  refine ⟨fun v u h1 h2 => ?_, fun j hj hjk => ?_, fun v hv => ?_, fun v hv => ?_⟩
  · cases ht : T v with
    | true => exact m.old _ (h.closed v u ht h2)
    | false => exact m.next v u h1 ht h2
  · by_cases e : j = k
    · subst e; exact m.here
    · exact m.old _ (h.all j hj (by omega))
  · rcases m.way v hv with h1 | h1
    · exact h.way v h1
    · exact ⟨_, List.getElem_mem hk, h1⟩
  · rcases m.low v hv with h1 | h1
    · exact h.low v h1
    · exact h1
theorem Ng.seen_done {E : Nat → Nat → Prop} {n : Nat} {ps : List Nat} {k : Nat} {T : Nat → Bool} (h : Ng.Seen E n ps k T) (hk : ps.length ≤ k) (v : Nat) : T v = true ↔ ∃ p ∈ ps, Nf.Clo E p v := by
  constructor
  · exact h.way v
  · rintro ⟨p, hp, hc⟩
    obtain ⟨j, hj, rfl⟩ := List.getElem_of_mem hp
    have h0 := h.all j hj (by omega)
    have key : ∀ {a b : Nat}, Nf.Clo E a b → T a = true → T b = true := by
      intro a b hab
      induction hab with
      | refl => exact fun h => h
      | step r _ ih => exact fun ha => ih (h.closed _ _ ha r)
    exact key hc h0
end Go.Proofs.Ythapedadnbkgnaa
