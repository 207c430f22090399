/- Rows of slices of numbers, of one's own. What the program's mark does: walked. Places marked one behind the other: plain facts: what is marked is what one comes to. slices.Grow and slices.Concat of rows of numbers, walked. slices.ContainsFunc over numbers and over rows of numbers; what within tells, walked. Arrays of 256 bytes and maps of sets in memory; what Classes answers, walked. -/
import Derived.Test.YthapedadnbkgnaaG5
import Derived.Deep.Upon
import Derived.Deep.AppendSrc
import Derived.Test.YthapedadnbkgnaaG10
import Derived.Deep.OwnRows
import Derived.Lib.AppendZerosOnto
import Derived.Laws.MakeOwn
import Derived.Test.YthapedadnbkgnaaG6
import Derived.Test.YthapedadnbkgnaaG3
import Derived.Maps.OwnSet
import Derived.DeepKeys4
import Derived.WideKeyPair
import Derived.Deep.WholeRow
import Derived.Laws.ResultCell
namespace Go.Proofs.Ythapedadnbkgnaa
set_option linter.unusedVariables false
set_option linter.unusedSimpArgs false
open Go.RowKit
def Ng.Sv (w : World) (a : Option Addr) (l : List Value) : Prop := ∀ i (h : i < l.length), ∃ x, a = some x ∧ w.cell? (x.add i) = some l[i]
theorem Ng.Sv.up {w w' : World} {a : Option Addr} {l : List Value} (h : Ng.Sv w a l) (hb : Below w.heap.size w w') : Ng.Sv w' a l := fun i hi => by
  obtain ⟨x, e, h⟩ := h i hi
  exact ⟨x, e, Bs.cell_up hb h⟩
theorem Ng.infoRow : (Try.prog.info? 38).map (fun i => (i.zero, i.size, i.bytes)) = some (some (.slice none 0 0), 1, 24) := by kernel_rfl
def Ng.Own (base : Nat) (v : Value) (ns : List Value) (w : World) : Prop := w.ownsRow base 38 1 v ns.length ns
theorem Ng.own_nil (base : Nat) (w : World) : Ng.Own base (.slice none 0 0) [] w := World.ownsRow_nil _ _ _ _
theorem Ng.Own.up {base : Nat} {v : Value} {ns : List Value} {w w' : World} (h : Ng.Own base v ns w) (hb : Below w.heap.size w w') : Ng.Own base v ns w' := Bs.row_up h hb
theorem Ng.Own.form {base : Nat} {v : Value} {ns : List Value} {w : World} (h : Ng.Own base v ns w) : ∃ a n c, v = .slice a n c := by
  rcases h.2 with ⟨h0, _⟩ | ⟨g, cap, cur, e, _⟩
  · exact ⟨_, _, _, h0⟩
  · exact ⟨_, _, _, e⟩
theorem Ng.Own.cap {base : Nat} {v : Value} {ns : List Value} {w : World} (h : Ng.Own base v ns w) {a : Option Addr} {n c : Nat} (e : v = .slice a n c) : n ≤ c := by
  rcases h.2 with ⟨h0, _⟩ | ⟨g, cap, cur, e', _, _, hle, _⟩
  · rw [h0] at e; injection e with e1 e2 e3; omega
  · rw [e'] at e; injection e with e1 e2 e3; omega
theorem Ng.Own.cells {base : Nat} {v : Value} {ns : List Value} {w : World} (h : Ng.Own base v ns w) : ∃ a c, v = .slice a ns.length c ∧ Ng.Sv w a ns := by
  rcases h.2 with ⟨rfl, h0⟩ | ⟨g, cap, cur, rfl, _⟩
  · have e : ns = [] := List.length_eq_zero_iff.1 h0
    subst e
    exact ⟨none, 0, rfl, fun i hi => by simp at hi⟩
  · exact ⟨some ⟨g, 0, none⟩, cap, rfl, fun i hi => ⟨_, rfl, World.ownsRow.cells (g := g) h rfl i ns[i] (by simp [hi])⟩⟩
set_option maxRecDepth 100000 in
theorem Ng.append {ops : Array Oper} {rest : List Oper} {o : Oper} {a : Act} {Q : Exit → Act → World → Prop} {W : World} (hgd : o.guard = none) (s x : Operand)
    (ho : o.op = .call { callee := .builtin .append, args := #[s, x], argTypes := #[37, 37] })
    (base : Nat) (v : Value) (ns : List Value) (hs : a.eval s = v) (O : Ng.Own base v ns W) (ao : Option Addr) (c nl : Nat) (l : List Value) (hnl : l.length = nl) (hx : a.eval x = .slice ao nl c) (hS : Ng.Sv W ao l) (ho1 : ∀ u ∈ l, u.oneCell' = true) (hl : ns.length + l.length ≤ 1000000) (hbase : base ≤ W.heap.size)
    (h : ∀ v' w', Ng.Own base v' (ns ++ l) w' → W.grownBy w' v.ownBlock → wpList Try.prog ops Q rest (a.put o.dst v') w') : wpList Try.prog ops Q (o :: rest) a W := by
  subst hnl
  obtain ⟨iI, hiI, hz0, hz1, hz2⟩ := info_parts Ng.infoRow
  by_cases h0 : l = []
  · subst h0
    refine wpList_plain hgd fun K hK => ?_
    obtain ⟨av, ns', cs, hv⟩ := Ng.Own.form O
    have hle : ns' ≤ cs := by
      exact Ng.Own.cap O hv
    have hsrc : Src Try.prog iI.size 37 (.slice ao 0 c) 0 [] W := by
      cases ao with
      | none => exact Src.ofNil W Try.underlying37 c
      | some ad => exact Src.ofSlice W Try.underlying37 ad 0 c [] (by simp) (fun j u hj => by simp at hj) (fun u hu => by simp at hu)
    have hrun := run_append_nothing (P := Try.prog) W 37 37 o.type 38 iI Try.underlying37 hiI av ns' cs hle (.slice ao 0 c) hsrc
    have hx' : a.eval x = .slice ao 0 c := hx
    unfold Oper.wp
    rw [hv] at hs
    simp [execOp, ho, resolve, invoke, builtin, hs, hx', hrun, Result.andThen]
    refine hK _ _ ?_
    rw [← hv]
    exact h v W (by rw [List.append_nil]; exact O) (World.grownBy.refl _ _)
  · have hpos : 0 < l.length := List.length_pos_iff.2 h0
    obtain ⟨ad, rfl, _⟩ := hS 0 hpos
    have nw : ∀ j u, (l)[j]? = some u → W.cell? (ad.add j) = some u := by
      intro j u hu
      by_cases hj : j < l.length
      · rw [List.getElem?_eq_getElem hj] at hu
        obtain ⟨ad', e', hc⟩ := hS j hj
        injection e' with e'
        subst e'
        injection hu with hu
        rw [← hu]
        exact hc
      · rw [List.getElem?_eq_none (by omega)] at hu
        simp at hu
    refine wpList_append_own _ hgd s x 37 ho base 38 iI _ 1 24 Try.underlying37 hiI hz0 hz1 hz2 rfl (by decide) v ns.length (ns) hs O ad l.length c (l) hx (by simp) nw ho1 (by unfold maxLen; omega) (by omega) hbase ?_
    intro v7 w4 o7 g7 _
    exact h v7 w4 (by unfold Ng.Own; simpa [List.length_append, List.map_append] using o7) g7
open Go.RowKit
structure Ng.FV (w : World) (r g : Nat) (a : Option Addr) (c : Nat) (fs : List (List Nat)) : Prop where
  c0 : w.cell? ⟨r, 0, none⟩ = some (.slice a fs.length c)
  rg : r ≠ g
  row : ∀ i (h : i < fs.length), ∃ ad v, a = some ad ∧ w.cell? (ad.add i) = some v ∧ (ad.add i).block ≠ g ∧ Nf.Row w (· ≠ g) v (fs[i].map (fun n : Nat => (n : Int)))
theorem Ng.FV.grown {w w' : World} {r g : Nat} {a : Option Addr} {c : Nat} {fs : List (List Nat)} (h : Ng.FV w r g a c fs) (hg : w.grownBy w' (some g)) : Ng.FV w' r g a c fs := by
  refine ⟨hg.cell h.c0 (fun e => h.rg (by injection e)), h.rg, fun i hi => ?_⟩
  obtain ⟨ad, v, e1, e2, e3, e4⟩ := h.row i hi
  exact ⟨ad, v, e1, hg.cell e2 (fun e => e3 (by injection e)), e3, e4.grown hg (fun k hk e => hk (by injection e))⟩
def Ng.left (n : Nat) (S : Nat → Bool) : Nat := (List.range n).countP fun i => !S i
structure Ng.Marked (E : Nat → Nat → Prop) (n at' : Nat) (S T : Nat → Bool) : Prop where
  old : ∀ v, S v = true → T v = true
  here : T at' = true
  next : ∀ v u, T v = true → S v = false → E v u → T u = true
  way : ∀ v, T v = true → S v = true ∨ Nf.Clo E at' v
  low : ∀ v, T v = true → S v = true ∨ v < n
theorem Ng.left_le {n : Nat} {S T : Nat → Bool} (h : ∀ v, S v = true → T v = true) : Ng.left n T ≤ Ng.left n S := by
  refine List.countP_mono_left fun i _ hi => ?_
  cases hs : S i with
  | false => rfl
  | true => rw [h i hs] at hi; exact hi
theorem Ng.left_lt {n at' : Nat} {S : Nat → Bool} (h : at' < n) (hs : S at' = false) : Ng.left n (fun i => if i = at' then true else S i) < Ng.left n S := by
  unfold Ng.left
  have : ∀ (l : List Nat), at' ∈ l → (l.countP fun i => !(if i = at' then true else S i)) < l.countP fun i => !S i := by
    intro l
    induction l with
    | nil => intro h; simp at h
    | cons y r ih =>
      intro hm
      have hle : (r.countP fun i => !(if i = at' then true else S i)) ≤ r.countP fun i => !S i := List.countP_mono_left fun i _ hi => by
        by_cases e : i = at'
        · simp [e] at hi
        · simpa [e] using hi
      rw [List.countP_cons, List.countP_cons]
      by_cases e : y = at'
      · subst e
        rw [if_neg (by simp), if_pos (by rw [hs]; rfl)]
        exact Nat.lt_succ_of_le hle
      · have := ih (by simpa [Ne.symm e] using hm)
        simp only [e, if_false]
        omega
  exact this _ (by simpa using h)
def Ng.MPost (w : World) (E : Nat → Nat → Prop) (n g at' : Nat) (S : Nat → Bool) (e : Ending) (w' : World) : Prop := ∃ T, e = .returned (.tuple #[]) ∧ Ng.Marked E n at' S T ∧ w'.rowIs g 4 n (fun i => .bool (T i)) ∧ w.grownBy w' (some g)
structure Ng.Half (E : Nat → Nat → Prop) (n at' : Nat) (l : List Nat) (k : Nat) (S T : Nat → Bool) : Prop where
  old : ∀ v, S v = true → T v = true
  here : T at' = true
  kids : ∀ j (h : j < l.length), j < k → T l[j] = true
  next : ∀ v u, T v = true → S v = false → v ≠ at' → E v u → T u = true
  way : ∀ v, T v = true → S v = true ∨ Nf.Clo E at' v
  low : ∀ v, T v = true → S v = true ∨ v < n
theorem Ng.half_zero {E : Nat → Nat → Prop} {n at' : Nat} {l : List Nat} {S : Nat → Bool} (hn : at' < n) : Ng.Half E n at' l 0 S (fun i => if i = at' then true else S i) := by
  refine ⟨fun v h => ?_, by simp, fun j h h' => by omega, fun v u h1 h2 h3 _ => ?_, fun v h => ?_, fun v h => ?_⟩
  · by_cases e : v = at'
    · simp [e]
    · simpa [e] using h
  · simp [h3, h2] at h1
  · by_cases e : v = at'
    · subst e; exact .inr (.refl _)
    · simp [e] at h; exact .inl h
  · by_cases e : v = at'
    · subst e; exact .inr hn
    · simp [e] at h; exact .inl h
theorem Ng.half_next {E : Nat → Nat → Prop} {n at' : Nat} {l : List Nat} {k : Nat} {S T U : Nat → Bool} (h : Ng.Half E n at' l k S T) (hk : k < l.length) (he : E at' l[k]) (m : Ng.Marked E n l[k] T U) : Ng.Half E n at' l (k + 1) S U := by
  refine ⟨fun v hv => m.old v (h.old v hv), m.old _ h.here, fun j hj hjk => ?_, fun v u h1 h2 h3 h4 => ?_, fun v hv => ?_, fun v hv => ?_⟩
  · by_cases e : j = k
    · subst e; exact m.here
    · exact m.old _ (h.kids j hj (by omega))
  · cases ht : T v with
    | true => exact m.old _ (h.next v u ht h2 h3 h4)
    | false => exact m.next v u h1 ht h4
  · rcases m.way v hv with h1 | h1
    · exact h.way v h1
    · exact .inr (.step he h1)
  · rcases m.low v hv with h1 | h1
    · exact h.low v h1
    · exact .inr h1
theorem Ng.half_done {E : Nat → Nat → Prop} {n at' : Nat} {l : List Nat} {k : Nat} {S T : Nat → Bool} (h : Ng.Half E n at' l k S T) (hk : l.length ≤ k) (he : ∀ u, E at' u → u ∈ l) : Ng.Marked E n at' S T := by
  refine ⟨h.old, h.here, fun v u h1 h2 h3 => ?_, h.way, h.low⟩
  by_cases e : v = at'
  · subst e
    obtain ⟨j, hj, rfl⟩ := List.getElem_of_mem (he u h3)
    exact h.kids j hj (by omega)
  · exact h.next v u h1 h2 e h3
set_option maxRecDepth 100000 in
set_option maxHeartbeats 4000000 in
theorem mark_any (fs : List (List Nat)) (hlt : ∀ l ∈ fs, ∀ u ∈ l, u < fs.length) (hsm : fs.length ≤ 1000000) (hsl : ∀ l ∈ fs, l.length ≤ 1000000) (E : Nat → Nat → Prop) (hE : ∀ u v, E u v ↔ ∃ l, fs[u]? = some l ∧ v ∈ l) : ∀ (m : Nat) (S : Nat → Bool) (r g : Nat) (a : Option Addr) (c c' at' : Nat) (w : World), Ng.left fs.length S ≤ m → at' < fs.length → Ng.FV w r g a c fs → w.rowIs g 4 fs.length (fun i => .bool (S i)) → Calls Try.prog 88 #[.pointer (some ⟨r, 0, none⟩), .slice (some ⟨g, 0, none⟩) fs.length c', .int .i64 at'] w (Ng.MPost w E fs.length g at' S) := by
  intro m
  induction m using Nat.strongRecOn with
  | _ m ih =>
    intro S r g a c c' at' w hm hat FV RS
    have IH := Lib.hid ih; clear ih
    obtain ⟨ad, v, rfl, hv, hvg, R⟩ := FV.row at' hat
    obtain ⟨av, nv, cv, rfl⟩ := R.form
    obtain ⟨hnv, hcells⟩ := R.at
    have HRW := Lib.hid R
    clear hcells R
    have hmem : fs[at'] ∈ fs := List.getElem_mem hat
    have HLT := Lib.hid (hlt _ hmem)
    have hsl' := hsl _ hmem
    have HE := Lib.hid (show ∀ u, E at' u ↔ u ∈ fs[at'] from fun u => by
      rw [hE]
      constructor
      · rintro ⟨l, h1, h2⟩
        rw [List.getElem?_eq_getElem hat] at h1
        injection h1 with h1
        rw [h1]; exact h2
      · intro h; exact ⟨_, List.getElem?_eq_getElem hat, h⟩)
    obtain ⟨ks, hks⟩ : ∃ ks, fs[at'] = ks := ⟨_, rfl⟩
    rw [hks] at HRW HLT HE hnv hsl'
    clear hks hmem
    rw [List.length_map] at hnv
    obtain ⟨N, hN⟩ : ∃ N, fs.length = N := ⟨_, rfl⟩
    have HFV := Lib.hid FV
    have c0 := FV.c0
    rw [hN] at c0 hat RS hm IH HLT ⊢
    have HNN := Lib.hid hN
    clear FV hN hlt hsl hE
    have s0 := RS.cell hat
    have z0 := RS.frozen at'
    have i1 : (0 : Int) ≤ (at' : Int) := by omega
    have i2 : (at' : Int) < (N : Int) := by omega
    go_enter Try.func88, Try.ntmps88
    cases hS : S at'
    · rw [hS] at s0
      have RS1 := RS.set at' (.bool true)
      have RS2 : (w.setCell ⟨g, at', none⟩ (.bool true)).rowIs g 4 N (fun i => .bool ((fun i => if i = at' then true else S i) i)) := RS1.congr (fun i _ => by by_cases e : i = at' <;> simp [e])
      have hleft := Ng.left_lt (n := N) hat hS
      have g1 : w.grownBy (w.setCell ⟨g, at', none⟩ (.bool true)) (some g) := Rx.grown_set (World.grownBy.refl _ _) _ _
      have FV1 := HFV.out.grown g1
      have d0 := FV1.c0
      rw [HNN.out] at d0
      have d1 := g1.cell hv (fun e => hvg (by injection e))
      have H0 := Lib.hid (Ng.half_zero (E := E) (l := ks) (S := S) hat)
      have HFV1 := Lib.hid FV1
      have HG1 := Lib.hid g1
      have HR2 := Lib.hid RS2
      have HLF := Lib.hid hleft
      clear FV1 g1 RS2 RS1 RS hleft hS c0 hv HFV1
      go_wp2_with fail
      go_loopw [23] (fun i wr => ∃ (k : Nat) (T : Nat → Bool), k ≤ nv ∧ i = .int .i64 k ∧ Hid (Ng.Half E N at' ks k S T) ∧ Hid (wr.rowIs g 4 N (fun i => .bool (T i))) ∧ Hid (w.grownBy wr (some g))) (fun i _ => nv - (intOf i).toNat)
      case atStart => exact ⟨0, _, by omega, rfl, H0, HR2, HG1⟩
      case round =>
        clear H0 HR2 HG1 d0 d1 s0
        obtain ⟨k, T, hk, rfl, HH, HR, HG⟩ := hrel
        by_cases hkl : k < nv
        · have hkl' : k < ks.length := by omega
          obtain ⟨_, hcs⟩ := (HRW.out.grown HG.out (fun j hj e => hj (by injection e))).at
          obtain ⟨x, rfl, hx⟩ := hcs k (by rw [List.length_map]; exact hkl')
          rw [List.getElem_map] at hx
          clear hcs
          have hlt9 := HLT.out ks[k] (List.getElem_mem hkl')
          have HEK := Lib.hid ((HE.out ks[k]).2 (List.getElem_mem hkl'))
          have HHN := Lib.hid (fun U (m : Ng.Marked E N ks[k] T U) => Ng.half_next HH.out hkl' HEK.out m)
          have hl9 : Ng.left N T < m := by
            have h1 := Ng.left_le (n := N) (S := fun i => if i = at' then true else S i) (T := T) (fun v hv => by
              by_cases e : v = at'
              · rw [e]; exact HH.out.here
              · simp [e] at hv; exact HH.out.old v hv)
            have h2 := HLF.out
            omega
          have C := Lib.hid (IH.out (Ng.left N T) hl9 T r g (some ad) c c' ks[k] wr (Nat.le_refl _) hlt9 (HFV.out.grown HG.out) HR.out)
          generalize ks[k] = y at *
          have j1 : (0 : Int) ≤ (k : Int) := by omega
          have j2 : (k : Int) < (nv : Int) := by omega
          have e1 : decide ((k : Int) < (nv : Int)) = true := decide_eq_true (by omega)
          have e2 : decide (k < nv) = true := decide_eq_true hkl
          go_wp2_with fail
          refine C.out.mono ?_
          rintro e w2 ⟨U, rfl, M, R2, g2⟩
          have HH2 := Lib.hid (HHN.out U M)
          have HR2 := Lib.hid R2
          have HG2 := Lib.hid (HG.out.trans g2)
          clear C M R2 g2 hx
          go_wp2_with fail
          go_roundw
          case rel => exact ⟨k + 1, U, by omega, by go_num, HH2, HR2, HG2⟩
          case measure => simp [intOf]; omega
        · have e1 : decide ((k : Int) < (nv : Int)) = false := decide_eq_false (by omega)
          have e2 : decide (k < nv) = false := decide_eq_false hkl
          go_wp2_with fail
          go_end0
          exact ⟨T, rfl, Ng.half_done HH.out (by omega) (fun u hu => (HE.out u).1 hu), HR.out, HG.out⟩
    · rw [hS] at s0
      have HSS := Lib.hid hS
      have HRS := Lib.hid RS
      clear hS RS
      go_wp2_with fail
      go_end0
      exact ⟨S, rfl, ⟨fun v h => h, HSS.out, fun v u h1 h2 _ => by rw [h1] at h2; simp at h2, fun v h => .inl h, fun v h => .inl h⟩, HRS.out, World.grownBy.refl _ _⟩
structure Ng.Seen (E : Nat → Nat → Prop) (n : Nat) (ps : List Nat) (k : Nat) (T : Nat → Bool) : Prop where
  closed : ∀ v u, T v = true → E v u → T u = true
  all : ∀ j (h : j < ps.length), j < k → T ps[j] = true
  way : ∀ v, T v = true → ∃ p ∈ ps, Nf.Clo E p v
  low : ∀ v, T v = true → v < n
theorem Ng.seen_zero (E : Nat → Nat → Prop) (n : Nat) (ps : List Nat) : Ng.Seen E n ps 0 (fun _ => false) :=
  ⟨fun v u h => by simp at h, fun j _ h => by omega, fun v h => by simp at h, fun v h => by simp at h⟩
theorem Ng.seen_next {E : Nat → Nat → Prop} {n : Nat} {ps : List Nat} {k : Nat} {T U : Nat → Bool} (h : Ng.Seen E n ps k T) (hk : k < ps.length) (m : Ng.Marked E n ps[k] T U) : Ng.Seen E n ps (k + 1) U := by
  refine ⟨fun v u h1 h2 => ?_, fun j hj hjk => ?_, fun v hv => ?_, fun v hv => ?_⟩
  · cases ht : T v with
    | true => exact m.old _ (h.closed v u ht h2)
    | false => exact m.next v u h1 ht h2
  · by_cases e : j = k
    · subst e; exact m.here
    · exact m.old _ (h.all j hj (by omega))
  · rcases m.way v hv with h1 | h1
    · exact h.way v h1
    · exact ⟨_, List.getElem_mem hk, h1⟩
  · rcases m.low v hv with h1 | h1
    · exact h.low v h1
    · exact h1
theorem Ng.seen_done {E : Nat → Nat → Prop} {n : Nat} {ps : List Nat} {k : Nat} {T : Nat → Bool} (h : Ng.Seen E n ps k T) (hk : ps.length ≤ k) (v : Nat) : T v = true ↔ ∃ p ∈ ps, Nf.Clo E p v := by
  constructor
  · exact h.way v
  · rintro ⟨p, hp, hc⟩
    obtain ⟨j, hj, rfl⟩ := List.getElem_of_mem hp
    have h0 := h.all j hj (by omega)
    have key : ∀ {a b : Nat}, Nf.Clo E a b → T a = true → T b = true := by
      intro a b hab
      induction hab with
      | refl => exact fun h => h
      | step r _ ih => exact fun ha => ih (h.closed _ _ ha r)
    exact key hc h0
end Go.Proofs.Ythapedadnbkgnaa
namespace Go.Proofs.Ythapedadnbkgnaa
set_option linter.unusedVariables false
set_option linter.unusedSimpArgs false
open Go.RowKit
set_option maxRecDepth 100000 in
set_option maxHeartbeats 1000000 in
theorem growI_any (n : Nat) (w : World) (hn : n ≤ 10000000) : Calls Try.prog 96 #[.slice none 0 0, .int .i64 n] w fun e w' => ∃ v, e = .returned v ∧ Nf.Own w.heap.size v [] w' ∧ Below w.heap.size w w' := by
  obtain ⟨iI, hiI, hz0, hz1, hz2⟩ := info_parts Nf.infoInt
  have h1 : ¬ ((n : Int) < 0) := by omega
  have d1 : decide ((n : Int) < 0) = false := decide_eq_false h1
  have i0 : IntKind.i64.wrap (n : Int) = (n : Int) := IntWalk.i64_in _ (by omega)
  by_cases h0 : n = 0
  · subst h0
    go_enter Try.func96, Try.ntmps96
    go_wp2_with fail
    go_ret
    exact ⟨_, rfl, Nf.own_nil _ _, Below.refl _ _⟩
  · have hpos : 0 < n := by omega
    have h2 : (0 : Int) < (n : Int) := by omega
    have d2 : decide ((n : Int) > 0) = true := decide_eq_true (by omega)
    have hrz : ∀ ty, (Builtin.append_ #[38, 3] ty #[.slice none 0 0, .int .i64 n]).run Try.prog w = _ := fun ty => Lib.run_append_nil_zeros w 38 3 ty 3 iI _ .i64 .i64 Try.underlying38 Try.underlying3 hiI hz0 n hpos (by rw [hz1]; decide) (by omega) (by rw [hz2]; omega)
    have hG : n ≤ grownCap w n 0 3 := grownCap_ge w _ _ _
    have hm : grownCap w n 0 3 ≤ maxLen := grownCap_le_maxLen w n 0 3 (by unfold maxLen; omega)
    generalize grownCap w n 0 3 = G at *
    have hsz : (Builtin.zeroCells (Value.int .i64 0).cells n ++ Builtin.zeroCells (Value.int .i64 0).cells (G - n)).size = G * 1 := by
      simp [Builtin.zeroCells, Value.cells]
      omega
    generalize Builtin.zeroCells (Value.int .i64 0).cells n ++ Builtin.zeroCells (Value.int .i64 0).cells (G - n) = Z at *
    have HO := Lib.hid (World.ownsRow_made (base := w.heap.size) (e := 3) (size := 1) w.drew Z G (Nat.le_of_eq (by simp)) hm hsz)
    have A0 : Hid (Below w.heap.size w (w.drew.alloc (.cells Z 3))) := Lib.hid (Bs.below_up (Below.drew (Below.refl _ _)) (Bs.below1 _ _))
    clear hsz hm hz0 hz1 hz2 hiI
    go_enter Try.func96, Try.ntmps96
    go_wp2_with (at_builtin; refine Lib.wpList_append_run _ rfl _ _ _ _ rfl _ _ rfl rfl _ _ (hrz _) ?_)
    go_ret
    exact ⟨_, rfl, HO.out, A0.out⟩
def Df.Rws (w : World) (rows : List Value) (N : List (List Int)) : Prop := rows.length = N.length ∧ ∀ i (h : i < rows.length) (h' : i < N.length), Nf.Row w (fun _ => True) rows[i] N[i]
theorem Df.Rws.up {w w' : World} {rows : List Value} {N : List (List Int)} (h : Df.Rws w rows N) (hb : Below w.heap.size w w') : Df.Rws w' rows N := ⟨h.1, fun i h1 h2 => (h.2 i h1 h2).up hb⟩
def Df.tot (N : List (List Int)) (k : Nat) : Nat := (N.take k).flatten.length
theorem Df.tot_take (N : List (List Int)) (k : Nat) (h : k < N.length) : Df.tot N (k + 1) = Df.tot N k + N[k].length := by
  unfold Df.tot
  rw [List.take_succ_eq_append_getElem h, List.flatten_append, List.flatten_singleton, List.length_append]
theorem Df.flat_take (N : List (List Int)) (k : Nat) (h : k < N.length) : (N.take (k + 1)).flatten = (N.take k).flatten ++ N[k] := by
  rw [List.take_succ_eq_append_getElem h, List.flatten_append, List.flatten_singleton]
theorem Df.tot_le (N : List (List Int)) (k : Nat) : Df.tot N k ≤ N.flatten.length := by
  unfold Df.tot
  conv => rhs; rw [← List.take_append_drop k N]
  rw [List.flatten_append, List.length_append]
  omega
set_option maxRecDepth 100000 in
set_option maxHeartbeats 1000000 in
theorem concatI_any (rows : List Value) (N : List (List Int)) (a : Option Addr) (n c : Nat) (w : World) (hn : rows.length = n) (hS : Ng.Sv w a rows) (hR : Df.Rws w rows N) (hl : N.flatten.length ≤ 1000000) (hc : n ≤ 1000000) :
    Calls Try.prog 87 #[.slice a n c] w fun e w' => ∃ v, e = .returned v ∧ Nf.Own w.heap.size v N.flatten w' ∧ Below w.heap.size w w' := by
  have HN : Hid (rows.length = n) := Lib.hid hn
  have HS := Lib.hid hS
  have HR := Lib.hid hR
  have HL := Lib.hid hl
  clear hn hS hR hl
  go_enter Try.func87, Try.ntmps87
  go_wp2_with fail
  go_loopw [3, 5, 11] (fun s _ i wr => ∃ k : Nat, k ≤ n ∧ i = .int .i64 k ∧ s = .int .i64 (Df.tot N k : Nat) ∧ wr = w) (fun _ _ i _ => n - (intOf i).toNat)
  case atStart => exact ⟨0, by omega, rfl, by simp [Df.tot], by first | rfl | trivial⟩
  case round =>
    obtain ⟨k, hk, rfl, rfl, hwr⟩ := hrel
    subst hwr
    by_cases hlt : k < n
    · have hk1 : k < rows.length := by rw [HN.out]; exact hlt
      have hk2 : k < N.length := by rw [← HR.out.1]; exact hk1
      obtain ⟨ad, rfl, hx⟩ := HS.out k hk1
      obtain ⟨a5, c5, e5, _⟩ := HR.out.2 k hk1 hk2
      rw [e5] at hx
      have HT := Lib.hid (Df.tot_take N k hk2)
      have hle : Df.tot N k + N[k].length ≤ 1000000 := by rw [← HT.out]; exact Nat.le_trans (Df.tot_le N _) HL.out
      generalize N[k].length = m at *
      clear e5
      have i1 : (0 : Int) ≤ (k : Int) := by omega
      have i2 : (k : Int) < (n : Int) := by omega
      have i3 : IntKind.i64.wrap (((Df.tot N k : Nat) : Int) + (m : Int)) = ((Df.tot N (k + 1) : Nat) : Int) := by rw [HT.out, IntWalk.i64_in _ (by omega)]; omega
      have i4 : ¬ (((Df.tot N (k + 1) : Nat) : Int) < 0) := by omega
      have i5 : decide (((Df.tot N (k + 1) : Nat) : Int) < 0) = false := decide_eq_false i4
      obtain ⟨t2, ht2⟩ : ∃ t2, t2 = Df.tot N (k + 1) := ⟨_, rfl⟩
      rw [← ht2] at i3 i4 i5
      have HT2 := Lib.hid ht2
      clear ht2
      go_wp2_with fail
      go_roundw
      case rel => exact ⟨k + 1, by omega, by go_num, by rw [← HT2.out], by first | rfl | trivial⟩
      case measure => simp [intOf]; omega
    · obtain rfl : k = n := by omega
      obtain ⟨W0, hW0⟩ : ∃ W, W = wr := ⟨_, rfl⟩
      subst hW0
      have HE := Lib.hid (show Df.tot N k = N.flatten.length by unfold Df.tot; rw [List.take_of_length_le (by rw [← HR.out.1, HN.out]; omega)])
      have hle : Df.tot N k ≤ 1000000 := by rw [HE.out]; exact HL.out
      generalize Df.tot N k = t at *
      go_wp2_with fail
      refine (growI_any t _ (by omega)).mono ?_
      rintro e w1 ⟨v1, rfl, o1, b1⟩
      have HO1 : Hid (Nf.Own W0.heap.size v1 (N.take 0).flatten w1) := Lib.hid (by simpa using o1)
      have A1 := Lib.hid b1
      clear o1 b1
      go_wp2_with fail
      go_loopw [6, 8, 27] (fun s _ i wq => ∃ k' : Nat, k' ≤ k ∧ i = .int .i64 k' ∧ Hid (Nf.Own W0.heap.size s (N.take k').flatten wq) ∧ Hid (Below W0.heap.size W0 wq)) (fun _ _ i _ => k - (intOf i).toNat)
      case atStart => exact ⟨0, by omega, rfl, HO1, A1⟩
      case round =>
        clear HO1 A1
        obtain ⟨k', hk', rfl, HO, HA⟩ := hrel
        by_cases hlt' : k' < k
        · have hk1 : k' < rows.length := by rw [HN.out]; exact hlt'
          have hk2 : k' < N.length := by rw [← HR.out.1]; exact hk1
          obtain ⟨ad, rfl, hx⟩ := (HS.out.up HA.out) k' hk1
          obtain ⟨a5, c5, e5, _, _, hs5, _⟩ := ((HR.out.up HA.out).2 k' hk1 hk2)
          rw [e5] at hx
          clear e5
          have HS5 := Lib.hid hs5
          have HF := Lib.hid (Df.flat_take N k' hk2)
          have hle' : ((N.take k').flatten).length + N[k'].length ≤ 10000000 := by
            rw [← List.length_append, ← HF.out]
            exact Nat.le_trans (Df.tot_le N (k' + 1)) (Nat.le_trans HL.out (by omega))
          have HLE := Lib.hid hle'
          have hbs : W0.heap.size ≤ wr.heap.size := HA.out.size
          clear hle' hs5
          generalize N[k'] = l5 at *
          obtain ⟨m5, hm5⟩ : ∃ m5, l5.length = m5 := ⟨_, rfl⟩
          have HM5 := Lib.hid hm5
          rw [hm5] at hx
          clear hm5
          have i1 : (0 : Int) ≤ (k' : Int) := by omega
          have i2 : (k' : Int) < (k : Int) := by omega
          go_wp2_with (first | (at_builtin; refine Nf.append rfl _ _ rfl W0.heap.size _ _ rfl HO.out a5 c5 m5 l5 HM5.out rfl HS5.out HLE.out hbs ?_; intro v9 w9 O9 gr9))
          have HA9 := Lib.hid (HA.out.grown gr9 hbs (fun i hi => (World.ownsRow.lt HO.out i hi).1))
          have HO9 : Hid (Nf.Own W0.heap.size v9 (N.take (k' + 1)).flatten w9) := Lib.hid (by rw [HF.out]; exact O9)
          clear O9 gr9
          go_roundw
          case rel => exact ⟨k' + 1, by omega, by go_num, HO9, HA9⟩
          case measure => simp [intOf]; omega
        · have ht : N.take k' = N := List.take_of_length_le (by rw [← HR.out.1, HN.out]; omega)
          rw [ht] at HO
          go_wp2_with fail
          go_ret
          exact ⟨_, rfl, HO.out, HA.out⟩
end Go.Proofs.Ythapedadnbkgnaa
namespace Go.Proofs.Ythapedadnbkgnaa
set_option linter.unusedVariables false
set_option linter.unusedSimpArgs false
open Go.RowKit
def Df.ix {α : Type} (g : α → Bool) : List α → Nat → Int
  | [], _ => -1
  | x :: r, i => if g x = true then i else Df.ix g r (i + 1)
theorem Df.ix_any {α : Type} (g : α → Bool) : ∀ (l : List α) (i : Nat), decide (0 ≤ Df.ix g l i) = l.any g
  | [], i => by simp [Df.ix]
  | x :: r, i => by
    rw [Df.ix, List.any_cons]
    split
    · rename_i h; rw [h]; simp
    · rename_i h
      rw [Df.ix_any g r (i + 1)]
      simp [h]
set_option maxRecDepth 100000 in
set_option maxHeartbeats 1000000 in
theorem indexI_any (K : FuncId) (cl : Array Value) (g : Int → Bool) (l : List Int) (v : Value) (w : World) (h : Nf.Row w (fun _ => True) v l) (hn : l.length ≤ 9223372036854775807) (hent : ∀ args w, (callFunc K args).run Try.prog w = .ok (.enter K args) w)
    (hQ : ∀ x ∈ l, ∀ (u : World), Below w.heap.size w u → Calls Try.prog K (#[.int .i64 x] ++ cl) u (Bs.BPost u (g x))) :
    Calls Try.prog 90 #[v, .func (.func K) #[] cl] w fun e w' => e = .returned (.int .i64 (Df.ix g l 0)) ∧ Below w.heap.size w w' := by
  have HQ := Lib.hid hQ; clear hQ
  obtain ⟨a, n, cap, rfl⟩ := h.form
  have HL := Lib.hid h
  have HN := Lib.hid h.at.1
  rw [← h.at.1] at hn
  clear h
  go_enter Try.func90, Try.ntmps90
  go_wp2_with fail
  go_loopw [5, 8] (fun _ i wr => ∃ q : Nat, q ≤ n ∧ i = .int .i64 q ∧ Hid (Df.ix g l 0 = Df.ix g (l.drop q) q) ∧ Below w.heap.size w wr) (fun _ i _ => n - (intOf i).toNat)
  case atStart => exact ⟨0, by omega, rfl, Lib.hid (by rw [List.drop_zero]), Below.refl _ _⟩
  case round =>
    obtain ⟨q, hq, rfl, HI, B⟩ := hrel
    by_cases hlt : q < n
    · have hlt' : q < l.length := by rw [← HN.out]; exact hlt
      obtain ⟨p, rfl, hp⟩ := (HL.out.up B).at.2 q hlt'
      have HD := Lib.hid (show Df.ix g (l.drop q) q = if g l[q] = true then (q : Int) else Df.ix g (l.drop (q + 1)) (q + 1) by rw [List.drop_eq_getElem_cons hlt', Df.ix])
      have HM := Lib.hid (HQ.out l[q] (List.getElem_mem hlt') _ B)
      generalize l[q] = y at *
      have i1 : (0 : Int) ≤ (q : Int) := by omega
      have i2 : (q : Int) < (n : Int) := by omega
      go_wp2_with fail
      refine HM.out.mono ?_
      rintro e w1 ⟨rfl, hb⟩
      replace B := Bs.below_up B hb
      clear hb HM hp
      cases hg : g y
      · have HI2 := Lib.hid (show Df.ix g l 0 = Df.ix g (l.drop (q + 1)) (q + 1) by rw [HI.out, HD.out, hg]; simp)
        clear HI HD hg
        go_wp2_with fail
        go_roundw
        case rel => exact ⟨q + 1, by omega, by go_num, HI2, B⟩
        case measure => simp [intOf]; omega
      · have HI2 := Lib.hid (show Df.ix g l 0 = (q : Int) by rw [HI.out, HD.out, hg]; simp)
        clear HI HD hg
        go_wp2_with fail
        go_ret
        exact ⟨by rw [HI2.out]; rfl, B⟩
    · have HI2 := Lib.hid (show Df.ix g l 0 = -1 by rw [HI.out, List.drop_eq_nil_of_le (by rw [← HN.out]; omega)]; rfl)
      clear HI
      go_wp2_with fail
      go_ret
      exact ⟨by rw [HI2.out]; rfl, B⟩
set_option maxRecDepth 100000 in
set_option maxHeartbeats 400000 in
theorem containsI_any (K : FuncId) (cl : Array Value) (g : Int → Bool) (l : List Int) (v : Value) (w : World) (h : Nf.Row w (fun _ => True) v l) (hn : l.length ≤ 9223372036854775807) (hent : ∀ args w, (callFunc K args).run Try.prog w = .ok (.enter K args) w)
    (hQ : ∀ x ∈ l, ∀ (u : World), Below w.heap.size w u → Calls Try.prog K (#[.int .i64 x] ++ cl) u (Bs.BPost u (g x))) :
    Calls Try.prog 75 #[v, .func (.func K) #[] cl] w (Bs.BPost w (l.any g)) := by
  have I := Lib.hid (indexI_any K cl g l v w h hn hent hQ)
  have HA := Lib.hid (Df.ix_any g l 0)
  clear hn hent hQ
  obtain ⟨a, n, cap, rfl⟩ := h.form
  clear h
  generalize l.any g = b at *
  go_enter Try.func75, Try.ntmps75
  go_wp2_with fail
  refine I.out.mono ?_
  rintro e w1 ⟨rfl, hb⟩
  have HA := HA.out
  generalize Df.ix g l 0 = d at *
  go_wp2_with fail
  go_ret
  exact ⟨by rw [← HA]; rfl, hb⟩
def Df.wi (n : Int) (k : Int) : Bool := decide (-1 ≤ k) && decide (k < n)
set_option maxHeartbeats 400000 in
theorem within1_any (k n : Int) (b : Nat) (w : World) (hb : w.cell? ⟨b, 0, none⟩ = some (.int .i64 n)) :
    Calls Try.prog 76 #[.int .i64 k, .pointer (some ⟨b, 0, none⟩)] w (Bs.BPost w (!Df.wi n k)) := by
  unfold Df.wi
  by_cases h1 : k < -1
  · have d1 : decide (k < -1) = true := decide_eq_true h1
    go_enter Try.func76, Try.ntmps76
    go_wp2
    go_ret
    exact ⟨Bs.ret_bool (by first | (simp; done) | (simp; omega)), Below.refl _ _⟩
  · have d1 : decide (k < -1) = false := decide_eq_false h1
    by_cases h2 : k ≥ n
    · have d2 : decide (k ≥ n) = true := decide_eq_true h2
      go_enter Try.func76, Try.ntmps76
      go_wp2
      go_ret
      exact ⟨Bs.ret_bool (by first | (simp; done) | (simp; omega)), Below.refl _ _⟩
    · have d2 : decide (k ≥ n) = false := decide_eq_false h2
      go_enter Try.func76, Try.ntmps76
      go_wp2
      go_ret
      exact ⟨Bs.ret_bool (by first | (simp; done) | (simp; omega)), Below.refl _ _⟩
theorem Df.not_any (g : Int → Bool) : ∀ l : List Int, (!l.any fun x => !g x) = l.all g
  | [] => rfl
  | x :: r => by
    have := Df.not_any g r
    simp only [List.any_cons, List.all_cons, ← this]
    cases g x <;> simp
set_option maxRecDepth 100000 in
set_option maxHeartbeats 400000 in
theorem within_any (l : List Int) (n : Int) (v : Value) (w : World) (h : Nf.Row w (fun _ => True) v l) (hn : l.length ≤ 9223372036854775807) : Calls Try.prog 56 #[v, .int .i64 n] w (Bs.BPost w (l.all (Df.wi n))) := by
  obtain ⟨a, m, cap, rfl⟩ := h.form
  have B1 := Bs.below1 w (.cells #[.int .i64 n] 3)
  have C := Lib.hid (containsI_any 76 #[.pointer (some ⟨w.heap.size, 0, none⟩)] (fun x => !Df.wi n x) l _ _ (h.up B1) hn (fun _ _ => by kernel_rfl) (fun x _ u hu => within1_any x n w.heap.size u (Bs.cell_up hu (by simp [go_sem]))))
  have HB := Lib.hid B1
  have HA := Lib.hid (Df.not_any (Df.wi n) l)
  clear h hn B1
  go_enter Try.func56, Try.ntmps56
  go_wp2_with fail
  generalize w.alloc (.cells #[.int .i64 n] 3) = W at *
  refine C.out.mono ?_
  rintro e w1 ⟨rfl, hb⟩
  have HB1 := Lib.hid (Bs.below_up HB.out hb)
  clear hb C
  go_wp2_with fail
  go_ret
  exact ⟨by rw [← HA.out]; rfl, HB1.out⟩
set_option maxRecDepth 100000 in
set_option maxHeartbeats 1000000 in
theorem indexN_any (K : FuncId) (cl : Array Value) (g : List Int → Bool) (rows : List Value) (N : List (List Int)) (a : Option Addr) (n cap : Nat) (w : World) (hl : rows.length = n) (hS : Ng.Sv w a rows) (hR : Df.Rws w rows N) (hn : n ≤ 9223372036854775807) (hent : ∀ args w, (callFunc K args).run Try.prog w = .ok (.enter K args) w)
    (hQ : ∀ l ∈ N, ∀ (v : Value) (u : World), Nf.Row u (fun _ => True) v l → Below w.heap.size w u → Calls Try.prog K (#[v] ++ cl) u (Bs.BPost u (g l))) :
    Calls Try.prog 77 #[.slice a n cap, .func (.func K) #[] cl] w fun e w' => e = .returned (.int .i64 (Df.ix g N 0)) ∧ Below w.heap.size w w' := by
  have HQ := Lib.hid hQ; clear hQ
  have HS := Lib.hid hS
  have HR := Lib.hid hR
  have HL := Lib.hid hl
  clear hS hR hl
  go_enter Try.func77, Try.ntmps77
  go_wp2_with fail
  go_loopw [5, 8] (fun _ i wr => ∃ q : Nat, q ≤ n ∧ i = .int .i64 q ∧ Hid (Df.ix g N 0 = Df.ix g (N.drop q) q) ∧ Below w.heap.size w wr) (fun _ i _ => n - (intOf i).toNat)
  case atStart => exact ⟨0, by omega, rfl, Lib.hid (by rw [List.drop_zero]), Below.refl _ _⟩
  case round =>
    obtain ⟨q, hq, rfl, HI, B⟩ := hrel
    by_cases hlt : q < n
    · have hlt1 : q < rows.length := by rw [HL.out]; exact hlt
      have hlt' : q < N.length := by rw [← HR.out.1]; exact hlt1
      obtain ⟨p, rfl, hp⟩ := (HS.out.up B) q hlt1
      have HD := Lib.hid (show Df.ix g (N.drop q) q = if g N[q] = true then (q : Int) else Df.ix g (N.drop (q + 1)) (q + 1) by rw [List.drop_eq_getElem_cons hlt', Df.ix])
      have HM := Lib.hid (HQ.out N[q] (List.getElem_mem hlt') _ _ ((HR.out.up B).2 q hlt1 hlt') B)
      obtain ⟨a5, n5, c5, e5⟩ := (HR.out.2 q hlt1 hlt').form
      rw [e5] at hp HM
      clear e5
      generalize N[q] = y at *
      have i1 : (0 : Int) ≤ (q : Int) := by omega
      have i2 : (q : Int) < (n : Int) := by omega
      go_wp2_with fail
      refine HM.out.mono ?_
      rintro e w1 ⟨rfl, hb⟩
      replace B := Bs.below_up B hb
      clear hb HM hp
      cases hg : g y
      · have HI2 := Lib.hid (show Df.ix g N 0 = Df.ix g (N.drop (q + 1)) (q + 1) by rw [HI.out, HD.out, hg]; simp)
        clear HI HD hg
        go_wp2_with fail
        go_roundw
        case rel => exact ⟨q + 1, by omega, by go_num, HI2, B⟩
        case measure => simp [intOf]; omega
      · have HI2 := Lib.hid (show Df.ix g N 0 = (q : Int) by rw [HI.out, HD.out, hg]; simp)
        clear HI HD hg
        go_wp2_with fail
        go_ret
        exact ⟨by rw [HI2.out]; rfl, B⟩
    · have HI2 := Lib.hid (show Df.ix g N 0 = -1 by rw [HI.out, List.drop_eq_nil_of_le (by rw [← HR.out.1, HL.out]; omega)]; rfl)
      clear HI
      go_wp2_with fail
      go_ret
      exact ⟨by rw [HI2.out]; rfl, B⟩
set_option maxRecDepth 100000 in
set_option maxHeartbeats 400000 in
theorem containsN_any (K : FuncId) (cl : Array Value) (g : List Int → Bool) (rows : List Value) (N : List (List Int)) (a : Option Addr) (n cap : Nat) (w : World) (hl : rows.length = n) (hS : Ng.Sv w a rows) (hR : Df.Rws w rows N) (hn : n ≤ 9223372036854775807) (hent : ∀ args w, (callFunc K args).run Try.prog w = .ok (.enter K args) w)
    (hQ : ∀ l ∈ N, ∀ (v : Value) (u : World), Nf.Row u (fun _ => True) v l → Below w.heap.size w u → Calls Try.prog K (#[v] ++ cl) u (Bs.BPost u (g l))) :
    Calls Try.prog 59 #[.slice a n cap, .func (.func K) #[] cl] w (Bs.BPost w (N.any g)) := by
  have I := Lib.hid (indexN_any K cl g rows N a n cap w hl hS hR hn hent hQ)
  have HA := Lib.hid (Df.ix_any g N 0)
  clear hn hent hQ hS hR hl
  generalize N.any g = b at *
  go_enter Try.func59, Try.ntmps59
  go_wp2_with fail
  refine I.out.mono ?_
  rintro e w1 ⟨rfl, hb⟩
  have HA := HA.out
  generalize Df.ix g N 0 = d at *
  go_wp2_with fail
  go_ret
  exact ⟨by rw [← HA]; rfl, hb⟩
def Df.rowOk (wide : Nat) (n : Int) (l : List Int) : Bool := decide (l.length = wide) && l.all (Df.wi n)
set_option maxHeartbeats 400000 in
theorem right1_any (l : List Int) (v : Value) (wide : Nat) (n : Int) (b1 b2 : Nat) (w : World) (h : Nf.Row w (fun _ => True) v l) (hn : l.length ≤ 9223372036854775807) (h1 : w.cell? ⟨b1, 0, none⟩ = some (.int .i64 wide)) (h2 : w.cell? ⟨b2, 0, none⟩ = some (.int .i64 n)) :
    Calls Try.prog 57 #[v, .pointer (some ⟨b1, 0, none⟩), .pointer (some ⟨b2, 0, none⟩)] w (Bs.BPost w (!Df.rowOk wide n l)) := by
  have C := Lib.hid (within_any l n v w h hn)
  obtain ⟨a, m, cap, rfl⟩ := h.form
  have e := h.at.1
  unfold Df.rowOk
  clear h
  by_cases hw : l.length = wide
  · have d1 : ((m : Int) == (wide : Int)) = true := by simp; omega
    have d2 : ((m : Int) != (wide : Int)) = false := by simp; omega
    have HW := Lib.hid (show decide (l.length = wide) = true by simp [hw])
    clear e hw hn
    rw [HW.out]
    go_enter Try.func57, Try.ntmps57
    go_wp2_with fail
    refine C.out.mono ?_
    rintro e w1 ⟨rfl, hb⟩
    clear C
    go_wp2_with fail
    go_ret
    exact ⟨by cases l.all (Df.wi n) <;> rfl, hb⟩
  · have d1 : ((m : Int) == (wide : Int)) = false := by simp; omega
    have d2 : ((m : Int) != (wide : Int)) = true := by simp; omega
    have HW := Lib.hid (show decide (l.length = wide) = false by simp [hw])
    clear e hw hn C
    rw [HW.out]
    go_enter Try.func57, Try.ntmps57
    go_wp2_with fail
    go_ret
    exact ⟨rfl, Below.refl _ _⟩
end Go.Proofs.Ythapedadnbkgnaa
namespace Go.Proofs.Ythapedadnbkgnaa
set_option linter.unusedVariables false
set_option linter.unusedSimpArgs false
open Go.RowKit
open Go.Maps (Keyed)
def Bs.kk (fs : List (Nat → Bool)) (c : Nat) : Lit := Bs.key fun d => Bs.alike fs c d
theorem Bs.kk_iff (fs : List (Nat → Bool)) (c d : Nat) (hc : c < 256) (hd : d < 256) : Bs.kk fs c = Bs.kk fs d ↔ Bs.alike fs c d = true := by
  constructor
  · intro h
    have := Bs.val_inj (Bs.key_inj h) d hd
    rw [this]; exact Bs.alike_refl _ _
  · intro h
    refine Bs.key_congr (Bs.val_congr fun e _ => ?_)
    cases h1 : Bs.alike fs c e
    · cases h2 : Bs.alike fs d e
      · rfl
      · rw [Bs.alike_trans h h2] at h1; cases h1
    · exact (Bs.alike_trans (Bs.alike_symm h) h1).symm
structure Bs.MInv (fs : List (Nat → Bool)) (c : Nat) (D : DataW Unit) : Prop where
  has : ∀ d, d < c → Maps.has D (Bs.kk fs d) = true ∧ ∀ z, D.atKey (Bs.kk fs d) z = .lit (.int .u8 (Bs.kls fs d))
  only : ∀ e, e < 256 → Maps.has D (Bs.kk fs e) = true → ∃ d, d < c ∧ Bs.alike fs e d = true
  size : Maps.size D = Bs.ncl fs c
theorem Bs.minv_zero (fs : List (Nat → Bool)) : Bs.MInv fs 0 (.map []) := ⟨fun d hd => by omega, fun e _ h => by simp [Maps.has_eq] at h, rfl⟩
theorem Bs.MInv.old {fs : List (Nat → Bool)} {c : Nat} {D : DataW Unit} (h : Bs.MInv fs c D) (hc : c < 256) (hh : Maps.has D (Bs.kk fs c) = true) : Bs.MInv fs (c + 1) D ∧ ∀ z, D.atKey (Bs.kk fs c) z = .lit (.int .u8 (Bs.kls fs c)) := by
  obtain ⟨d, hd, ha⟩ := h.only c hc hh
  obtain ⟨k1, k2⟩ := Bs.kls_old hd ha
  have ek := (Bs.kk_iff fs c d hc (by omega)).2 ha
  obtain ⟨_, at1⟩ := h.has d hd
  have at2 : ∀ z, D.atKey (Bs.kk fs c) z = .lit (.int .u8 (Bs.kls fs c)) := fun z => by rw [ek, at1 z, k1]
  refine ⟨⟨fun e he => ?_, fun e he hx => ?_, by rw [h.size, k2]⟩, at2⟩
  · by_cases hec : e = c
    · subst hec; exact ⟨hh, at2⟩
    · exact h.has e (by omega)
  · obtain ⟨d', h1, h2⟩ := h.only e he hx
    exact ⟨d', by omega, h2⟩
theorem Bs.MInv.new {fs : List (Nat → Bool)} {c : Nat} {D : DataW Unit} (h : Bs.MInv fs c D) (ht : Maps.Tidy D) (hc : c < 256) (hh : Maps.has D (Bs.kk fs c) = false) :
    Bs.MInv fs (c + 1) (D.put (Bs.kk fs c) (.lit (.int .u8 (Bs.ncl fs c : Nat)))) ∧ Bs.kls fs c = Bs.ncl fs c := by
  have hne : ∀ d, d < c → Bs.alike fs c d = false := fun d hd => by
    cases ha : Bs.alike fs c d
    · rfl
    · have ek := (Bs.kk_iff fs c d hc (by omega)).2 ha
      rw [ek, (h.has d hd).1] at hh; cases hh
  obtain ⟨k1, k2⟩ := Bs.kls_new hne
  have hk : WideAt.IsKeyLit (Bs.kk fs c) := Bs.key_is _
  refine ⟨⟨fun e he => ?_, fun e he hx => ?_, ?_⟩, k1⟩
  · by_cases hec : e = c
    · subst hec
      exact ⟨Maps.has_put_same ht.isMap hk _, fun z => by rw [Maps.atKey_put_same ht.isMap hk, k1]⟩
    · have hn : Bs.kk fs e ≠ Bs.kk fs c := fun e1 => by
        have := Bs.alike_symm ((Bs.kk_iff fs e c (by omega) hc).1 e1)
        rw [hne e (by omega)] at this; cases this
      obtain ⟨a1, a2⟩ := h.has e (by omega)
      exact ⟨by rw [Maps.has_put_other hn]; exact a1, fun z => by rw [Maps.atKey_put_other hn]; exact a2 z⟩
  · by_cases hn : Bs.kk fs e = Bs.kk fs c
    · exact ⟨c, by omega, (Bs.kk_iff fs e c he hc).1 hn⟩
    · rw [Maps.has_put_other hn] at hx
      obtain ⟨d, h1, h2⟩ := h.only e he hx
      exact ⟨d, by omega, h2⟩
  · rw [Maps.size_put ht, hh, h.size, k2]; simp
def Bs.arr (g : Nat → Nat) : Array Value := Array.ofFn (n := 256) fun i => .int .u8 (g i)
theorem Bs.arr_size (g : Nat → Nat) : (Bs.arr g).size = 256 := by simp [Bs.arr]
theorem Bs.arr_at (g : Nat → Nat) (c : Nat) (hc : c < 256) : (Bs.arr g)[c]? = some (.int .u8 (g c)) := by
  unfold Bs.arr
  rw [Array.getElem?_ofFn]; simp [hc]
theorem Bs.arr_congr {g h : Nat → Nat} (e : ∀ c, c < 256 → g c = h c) : Bs.arr g = Bs.arr h := by
  unfold Bs.arr; congr 1; funext i; rw [e i i.2]
def Bs.Arr (w : World) (b : Nat) (g : Nat → Nat) : Prop := w.heap[b]? = some (.cells (Bs.arr g) 36 (0, 0))
theorem Bs.Arr.lt {w : World} {b : Nat} {g : Nat → Nat} (h : Bs.Arr w b g) : b < w.heap.size := (Array.getElem?_eq_some_iff.1 h).1
theorem Bs.Arr.up {w w1 : World} {b : Nat} {g : Nat → Nat} (h : Bs.Arr w b g) (hb : Below w.heap.size w w1) : Bs.Arr w1 b g := by
  unfold Bs.Arr; rw [hb.block b h.lt]; exact h
theorem Bs.Arr.cell {w : World} {b : Nat} {g : Nat → Nat} (h : Bs.Arr w b g) (c : Nat) (hc : c < 256) : w.cell? ⟨b, c, none⟩ = some (.int .u8 (g c)) := by
  rw [cell_of_row _ _ _ _ _ _ h]; exact Bs.arr_at g c hc
theorem Bs.Arr.frz {w : World} {b : Nat} {g : Nat → Nat} (h : Bs.Arr w b g) (c : Nat) : w.frozen? ⟨b, c, none⟩ = false := by
  unfold Bs.Arr at h
  simp [World.frozen?, h]
theorem Bs.Arr.put {w : World} {b : Nat} {g : Nat → Nat} (h : Bs.Arr w b g) (c x : Nat) (hc : c < 256) : Bs.Arr (w.setCell ⟨b, c, none⟩ (.int .u8 x)) b (fun d => if d = c then x else g d) := by
  have key : (Bs.arr g).setIfInBounds c (.int .u8 x) = Bs.arr (fun d => if d = c then x else g d) := by
    apply Array.ext_getElem?
    intro i
    by_cases hi : i < 256
    · rw [Bs.arr_at _ i hi]
      by_cases hic : i = c
      · subst hic
        rw [Array.getElem?_setIfInBounds_self_of_lt (by rw [Bs.arr_size]; exact hi)]
        simp
      · rw [Array.getElem?_setIfInBounds_ne (Ne.symm hic), Bs.arr_at g i hi]
        simp [hic]
    · rw [Array.getElem?_eq_none (by rw [Array.size_setIfInBounds, Bs.arr_size]; omega), Array.getElem?_eq_none (by rw [Bs.arr_size]; omega)]
  unfold Bs.Arr
  rw [setCell_eq_setRow _ _ _ _ _ _ _ h, setRow_heap _ _ _ _ _ _ h, key]
theorem Bs.Arr.far {w : World} {b d i : Nat} {g : Nat → Nat} (h : Bs.Arr w b g) (hn : d ≠ b) (v : Value) : Bs.Arr (w.setCell ⟨d, i, none⟩ v) b g := by
  unfold Bs.Arr; rw [Below.heap_setCell _ _ _ _ (Ne.symm hn)]; exact h
def Bs.zeros : Array Value := Bs.arr fun _ => 0
theorem Bs.zero256 : (∀ w, (zeroValue 36).run Try.prog w = .ok (.agg Bs.zeros) w) ∧ (Try.prog.info? 36).map (·.size) = some 256 := zero_of_info (by kernel_rfl)
end Go.Proofs.Ythapedadnbkgnaa
