/- What the document's class answers, walked. -/
import Derived.Test.YtigdelfoipcilaaRxK
namespace Go.Proofs.Ytigdelfoipcilaa
set_option linter.unusedVariables false
set_option linter.unusedSimpArgs false
open Go.RowKit
/-- a set's block stays while another one alone is written -/
theorem Rx.box_grown {w w1 : World} {b r : Nat} {f : Nat → Bool} (h : Bs.Box w b f) (hg : w.grownBy w1 (some r)) (hn : b ≠ r) : Bs.Box w1 b f :=
  ⟨fun i hi => hg.cell (h.cell i hi) (fun e => hn (by injection e)), fun i hi => by rw [hg.frozen_far _ h.lt (fun e => hn (by injection e))]; exact h.frz i hi⟩
theorem Rx.St.setBad {w : World} {r : Nat} {a : Option Addr} {L : List Int} {cap : Nat} {t : Option (List Int)} {big : Bool} (h : Rx.St w r a L cap t big) : Rx.St (w.setCell ⟨r, 2, none⟩ (.bool true)) r a L cap none big := by
  obtain ⟨i, b, R⟩ := h.bad
  exact ⟨i, R.setBad true⟩
/-- what a reading of an expression leaves behind: the value of one, and the reader; where nothing was too big, the one that stands there -/
def Rx.GPost (w : World) (r : Nat) (a : Option Addr) (L : List Int) (cap : Nat) (o : Option (Rx × List Int)) (big : Bool) (e : Ending) (w' : World) : Prop :=
  ∃ v y z, e = .returned v ∧ Rx.IsB w' (w.heap.size ≤ ·) y v ∧ w.grownBy w' (some r) ∧ Rx.St w' r a L cap (o.map (·.2)) z ∧ ∀ x t, o = some (x, t) → z = (big || !x.may 1) ∧ (z = false → y = x)
/-- the worlds of class -/
structure Rx.CW (w : World) (r : Nat) (a : Option Addr) (L : List Int) (cap : Nat) (big : Bool) (b : Nat) (t : Option (List Int)) (f : Nat → Bool) (v : World) : Prop where
  st : Rx.St v r a L cap t big
  box : Bs.Box v b f
  nod : Rx.Nod v w.heap.size 0 (fun _ => false) none 0 0
  gr : w.grownBy v (some r)
  rq : r < w.heap.size
  ho : ∀ x, a = some x → L ≠ [] → x.block < w.heap.size
  qb : w.heap.size < b
theorem Rx.CW.on {w : World} {r : Nat} {a : Option Addr} {L : List Int} {cap : Nat} {big : Bool} {b : Nat} {t t' : Option (List Int)} {f : Nat → Bool} {v v' : World} (h : Rx.CW w r a L cap big b t f v) (hs : Rx.St v' r a L cap t' big) (g : v.grownBy v' (some r)) : Rx.CW w r a L cap big b t' f v' :=
  have h1 := h.rq
  have h2 := h.qb
  ⟨hs, Rx.box_grown h.box g (by omega), h.nod.grown g (by omega), h.gr.trans g, h.rq, h.ho, h.qb⟩
theorem Rx.CW.up {w : World} {r : Nat} {a : Option Addr} {L : List Int} {cap : Nat} {big : Bool} {b : Nat} {t : Option (List Int)} {f : Nat → Bool} {v v' : World} (h : Rx.CW w r a L cap big b t f v) (hb : Below v.heap.size v v') : Rx.CW w r a L cap big b t f v' := h.on (h.st.up hb) (Rx.grown_of r hb)
theorem Rx.CW.put {w : World} {r : Nat} {a : Option Addr} {L : List Int} {cap : Nat} {big : Bool} {b : Nat} {t : Option (List Int)} {f : Nat → Bool} {v : World} (h : Rx.CW w r a L cap big b t f v) (g : Nat → Bool) : Rx.CW w r a L cap big b t g ((((v.setCell ⟨b, 0, none⟩ (.int .u64 (Bs.word g 0))).setCell ⟨b, 1, none⟩ (.int .u64 (Bs.word g 1))).setCell ⟨b, 2, none⟩ (.int .u64 (Bs.word g 2))).setCell ⟨b, 3, none⟩ (.int .u64 (Bs.word g 3))) := by
  have h1 := h.rq
  have h2 := h.qb
  have hn : ∀ x, a = some x → L ≠ [] → x.block ≠ b := fun x e e' => by have := h.ho x e e'; omega
  have hd : b ≠ r := by omega
  exact ⟨(((h.st.far hd hn _ _).far hd hn _ _).far hd hn _ _).far hd hn _ _, h.box.write g, h.nod.grown (Rx.grown_set (Rx.grown_set (Rx.grown_set (Rx.grown_set (Rx.grown_of b (Below.refl _ _)) _ _) _ _) _ _) _ _) (by omega), Rx.grown_far (Rx.grown_far (Rx.grown_far (Rx.grown_far h.gr (by omega) _ _) (by omega) _ _) (by omega) _ _) (by omega) _ _, h.rq, h.ho, h.qb⟩
theorem Rx.CW.wr {w : World} {r : Nat} {a : Option Addr} {L : List Int} {cap : Nat} {big : Bool} {b : Nat} {t : Option (List Int)} {f : Nat → Bool} {v : World} (h : Rx.CW w r a L cap big b t f v) (k : Nat) (g : Nat → Bool) (x : Option Addr) (n c : Nat) : Rx.St (Rx.wr v w.heap.size k g x n c) r a L cap t big ∧ w.grownBy (Rx.wr v w.heap.size k g x n c) (some r) := by
  have h1 := h.rq
  have hn : ∀ x, a = some x → L ≠ [] → x.block ≠ w.heap.size := fun x e e' => by have := h.ho x e e'; omega
  have hd : w.heap.size ≠ r := by omega
  exact ⟨(((((h.st.far hd hn _ _).far hd hn _ _).far hd hn _ _).far hd hn _ _).far hd hn _ _).far hd hn _ _, Rx.wr_far h.gr (Nat.le_refl _) k g x n c⟩
theorem Rx.class_good {w : World} {r : Nat} {a : Option Addr} {L : List Int} {cap : Nat} {big : Bool} {b : Nat} {l u : List Int} {f : Nat → Bool} {v : World} {x : Rx} {k : Nat} {g : Nat → Bool} {y : Option Addr} {n c : Nat} (hc : Rx.cls l = some (x, u)) (h : Rx.CW w r a L cap big b (some u) f v) (hx : Rx.IsB v (w.heap.size + 1 ≤ ·) x (Rx.hdr k g y n c)) : Rx.GPost w r a L cap (Rx.cls l) big (.returned (Rx.hdr k g y n c)) (Rx.wr v w.heap.size k g y n c) := by
  obtain ⟨h1, h2⟩ := h.wr k g y n c
  refine ⟨_, x, big, rfl, (hx.wr (b := w.heap.size) (by omega) k g y n c).mono (fun j hj => by omega), h2, by rw [hc]; exact h1, fun x' t e => ?_⟩
  rw [hc] at e
  simp only [Option.some.injEq, Prod.mk.injEq] at e
  obtain ⟨rfl, rfl⟩ := e
  exact ⟨by rw [Rx.may_cls hc]; simp, fun _ => rfl⟩
theorem Rx.wr_zero (w : World) (b : Nat) : Rx.wr w b 0 (fun _ => false) none 0 0 = (((((w.setCell ⟨b, 0, none⟩ (.int .u8 0)).setCell ⟨b, 1, none⟩ (.int .u64 0)).setCell ⟨b, 2, none⟩ (.int .u64 0)).setCell ⟨b, 3, none⟩ (.int .u64 0)).setCell ⟨b, 4, none⟩ (.int .u64 0)).setCell ⟨b, 5, none⟩ (.slice none 0 0) := by
  simp only [Rx.wr, Bs.word_none]; rfl
theorem Rx.class_bad {w : World} {r : Nat} {a : Option Addr} {L : List Int} {cap : Nat} {big : Bool} {b : Nat} {l : List Int} {t : Option (List Int)} {f : Nat → Bool} {v : World} (hc : Rx.cls l = none) (h : Rx.CW w r a L cap big b t f v) : Rx.GPost w r a L cap (Rx.cls l) big (.returned (Rx.hdr 0 (fun _ => false) none 0 0)) ((((((((v.setCell ⟨r, 2, none⟩ (.bool true)).setCell ⟨w.heap.size, 0, none⟩ (.int .u8 0)).setCell ⟨w.heap.size, 1, none⟩ (.int .u64 0)).setCell ⟨w.heap.size, 2, none⟩ (.int .u64 0)).setCell ⟨w.heap.size, 3, none⟩ (.int .u64 0)).setCell ⟨w.heap.size, 4, none⟩ (.int .u64 0)).setCell ⟨w.heap.size, 5, none⟩ (.slice none 0 0))) := by
  have h3 : Rx.CW w r a L cap big b none f (v.setCell ⟨r, 2, none⟩ (.bool true)) := h.on h.st.setBad (Rx.grown_set (World.grownBy.refl _ _) _ _)
  rw [← Rx.wr_zero]
  obtain ⟨h1, h2⟩ := h3.wr 0 (fun _ => false) none 0 0
  exact ⟨_, Rx.nil, big, rfl, Rx.isB_nil _ _, h2, by rw [hc]; exact h1, fun x t e => by rw [hc] at e; simp at e⟩
theorem Rx.rng_ten : Rx.rng 10 10 = fun c => c == 10 := by
  funext c
  rw [Bool.eq_iff_iff]
  simp [Rx.rng]
  omega
/-- what the loop of class has still to read -/
def Rx.after (n : Nat) (f : Nat → Bool) (l : List Int) : Option ((Nat → Bool) × List Int) := if n ≠ 0 ∧ l.head? = some 93 then some (f, l.drop 1) else Rx.items f l
theorem Rx.esc_in {l : List Int} {c : Int} {r : List Int} (h : Rx.esc l = some (c, r)) : 0 ≤ c ∧ c ≤ 127 := by
  cases l with
  | nil => simp [Rx.esc] at h
  | cons d l =>
    simp only [Rx.esc] at h
    split at h
    · simp at h; omega
    · split at h
      · simp at h; omega
      · split at h
        · simp at h; omega
        · split at h
          · rename_i h1
            simp only [Option.some.injEq, Prod.mk.injEq] at h
            simp only [Rx.special, Bool.or_eq_true, beq_iff_eq, List.contains_eq_mem, List.mem_cons, List.not_mem_nil, or_false, decide_eq_true_eq] at h1
            omega
          · simp at h
theorem Rx.bound_in {l : List Int} {c : Int} {r : List Int} (hl : ∀ d ∈ l, 0 ≤ d) (h : Rx.bound l = some (c, r)) : 0 ≤ c ∧ c ≤ 127 := by
  cases l with
  | nil => simp [Rx.bound] at h
  | cons d l =>
    simp only [Rx.bound] at h
    split at h
    · exact Rx.esc_in h
    · split at h
      · simp at h
      · rename_i h1
        simp only [Option.some.injEq, Prod.mk.injEq] at h
        simp only [Bool.or_eq_true, decide_eq_true_eq] at h1
        have := hl d (List.mem_cons_self ..)
        omega
theorem Rx.hd_iff {l : List Int} {c : Int} (hc : 0 ≤ c) : Rx.hd (some l) = c ↔ l.head? = some c := by
  cases l with
  | nil => simp [Rx.hd]; omega
  | cons d l => simp [Rx.hd]
theorem Rx.tl_some {l : List Int} {c : Int} (h : l.head? = some c) : Rx.tl (some l) = some (l.drop 1) := by
  cases l with
  | nil => simp at h
  | cons d l => rfl
theorem Rx.St.nn {w : World} {r : Nat} {a : Option Addr} {L : List Int} {cap : Nat} {l : List Int} {big : Bool} (h : Rx.St w r a L cap (some l) big) : ∀ d ∈ l, 0 ≤ d := by
  obtain ⟨k, _, rfl, R⟩ := h
  exact fun d hd => R.nn d (List.mem_of_mem_drop hd)
theorem Rx.St.ln {w : World} {r : Nat} {a : Option Addr} {L : List Int} {cap : Nat} {l : List Int} {big : Bool} (h : Rx.St w r a L cap (some l) big) : l.length ≤ 1000 := by
  obtain ⟨k, _, rfl, R⟩ := h
  have := R.ln
  simp; omega
theorem Rx.St.b {w : World} {r : Nat} {a : Option Addr} {L : List Int} {cap : Nat} {t : Option (List Int)} {big : Bool} (h : Rx.St w r a L cap t big) : w.cell? ⟨r, 2, none⟩ = some (.bool t.isNone) ∧ w.frozen? ⟨r, 2, none⟩ = false := by
  cases t with
  | none => obtain ⟨i, h⟩ := h; exact ⟨h.c2, h.z2⟩
  | some t => obtain ⟨k, _, _, h⟩ := h; exact ⟨h.c2, h.z2⟩
theorem Rx.after_none {n : Nat} {f : Nat → Bool} {l : List Int} (h : ¬ (n ≠ 0 ∧ l.head? = some 93)) (hi : Rx.item l = none) : Rx.after n f l = none := by
  rw [Rx.after, if_neg h, Rx.items_eq, hi]
theorem Rx.after_some {n : Nat} {f : Nat → Bool} {l u : List Int} {lo hi : Int} (h : ¬ (n ≠ 0 ∧ l.head? = some 93)) (hit : Rx.item l = some ((lo, hi), u)) : Rx.after n f l = Rx.after (n + 1) (fun c => f c || Rx.rng lo hi c) u := by
  rw [Rx.after, if_neg h, Rx.items_eq, hit]
  simp only [Rx.after]
  by_cases h9 : u.head? = some 93
  · rw [if_pos h9, if_pos ⟨by omega, h9⟩]
  · rw [if_neg h9, if_neg (fun h => h9 h.2)]
theorem Rx.grow_upto (f : Nat → Bool) {lo c : Nat} (h : lo ≤ c) : (fun d => (f d || Rx.upto lo c d) || d == c) = fun d => f d || Rx.upto lo (c + 1) d := by
  rw [← Rx.upto_succ h]
  funext d
  rw [Bool.or_assoc]
set_option maxRecDepth 100000 in
set_option maxHeartbeats 8000000 in
theorem refClass_any (r : Nat) (a : Option Addr) (L : List Int) (cap : Nat) (l : List Int) (big : Bool) (w : World) (h : Rx.St w r a L cap (some l) big) : Calls Try.prog 93 #[.pointer (some ⟨r, 0, none⟩)] w (Rx.GPost w r a L cap (Rx.cls l) big) := by
  have hr : r < w.heap.size := by obtain ⟨i, b, R⟩ := h.bad; exact R.lt
  have hho := Lib.hid h.home
  have N := Rx.nod_zero w
  have B0 := Bs.below1 w (.cells #[.int .u8 0, .int .u64 0, .int .u64 0, .int .u64 0, .int .u64 0, .slice none 0 0] 28)
  have eN : (w.alloc (.cells #[.int .u8 0, .int .u64 0, .int .u64 0, .int .u64 0, .int .u64 0, .slice none 0 0] 28)).heap.size = w.heap.size + 1 := by simp [go_sem]
  replace h := h.up B0
  go_enter Try.func93, Try.ntmps93
  go_wp2_with fail
  generalize w.alloc (.cells #[.int .u8 0, .int .u64 0, .int .u64 0, .int .u64 0, .int .u64 0, .slice none 0 0] 28) = U at *
  have HSEE := Lib.hid (refSee_any r a L cap (some l) big U h)
  refine HSEE.out.mono ?_
  rintro e V ⟨rfl, n0, hV⟩
  have hb := Rx.see_below hV
  clear hV HSEE
  replace h := h.up hb
  replace N := N.up hb
  replace B0 := Bs.below_up B0 hb
  have hsz : w.heap.size < V.heap.size := by have := hb.size; omega
  have G := Rx.grown_of r B0
  clear hb eN B0
  obtain ⟨nt, hnt⟩ : ∃ nt, nt = (Rx.hd (some l) == 94) := ⟨_, rfl⟩
  obtain ⟨l0, hl0⟩ : ∃ l0, l0 = if nt = true then l.drop 1 else l := ⟨_, rfl⟩
  have HC : Hid (Rx.cls l = (Rx.items (fun _ => false) l0).map fun p => (if nt = true then Rx.but (fun c => p.1 c || Rx.rng 10 10 c) else Rx.one p.1, p.2)) := Lib.hid (by
    rw [Rx.cls, hl0]
    by_cases e : l.head? = some 94
    · have : nt = true := by rw [hnt, (Rx.hd_iff (by decide)).2 e]; rfl
      simp [if_pos e, this]
    · have : nt = false := by rw [hnt, beq_eq_false_iff_ne]; exact fun e' => e ((Rx.hd_iff (by decide)).1 e')
      simp [if_neg e, this])
  have HT : Hid (nt = true → Rx.tl (some l) = some l0) := Lib.hid (by
    intro e
    rw [hl0, if_pos e]
    rw [e] at hnt
    exact Rx.tl_some ((Rx.hd_iff (by decide)).1 (beq_iff_eq.1 hnt.symm)))
  have HE : Hid (nt = false → l = l0) := Lib.hid (by intro e; rw [hl0, e]; rfl)
  have HTK := Lib.hid (refTake_any r a L cap (some l) big V h)
  replace hnt := hnt.symm
  clear hl0
  generalize Rx.hd (some l) = c0 at *
  have HQ : Hid (Rx.St V r a L cap (some l) big) := Lib.hid h
  cases nt
  · have el := HE.out rfl
    subst el
    have B1 := Bs.below1 V (.cells #[.int .u64 0, .int .u64 0, .int .u64 0, .int .u64 0] 25)
    have C : Rx.CW w r a L cap big V.heap.size (some l) (fun _ => false) (V.alloc (.cells #[.int .u64 0, .int .u64 0, .int .u64 0, .int .u64 0] 25)) := ⟨h.up B1, Bs.box_zero V _, N.up B1, G.trans (Rx.grown_of r B1), hr, hho.out, hsz⟩
    clear HTK HE HT HQ B1 N G h
    go_wp2_with fail
    generalize V.alloc (.cells #[.int .u64 0, .int .u64 0, .int .u64 0, .int .u64 0] 25) = V2 at *
    generalize V.heap.size = b at *
    clear hsz hnt
    go_loopw [5] (fun i wr => ∃ (n : Nat) (f : Nat → Bool) (l' : List Int), i = .int .i64 n ∧ n + l'.length ≤ 1000 ∧ Hid (Rx.after n f l' = Rx.items (fun _ => false) l) ∧ Rx.CW w r a L cap big b (some l') f wr) (fun i _ => 1001 - (intOf i).toNat)
    case atStart => exact ⟨0, _, l, rfl, by have := C.st.ln; omega, Lib.hid (by simp [Rx.after]), C⟩
    case round =>
      clear C
      obtain ⟨n, f, l', rfl, hln, HA, C⟩ := hrel
      have sb := C.st.b.1
      simp only [Option.isNone] at sb
      by_cases hex : n ≠ 0 ∧ l'.head? = some 93
      · obtain ⟨h0, h9⟩ := hex
        have n0 : ((n : Int) == 0) = false := by simp; omega
        have HSE := Lib.hid (refSee_any r a L cap (some l') big wr C.st)
        rw [(Rx.hd_iff (by decide)).2 h9] at HSE
        go_wp2_with fail
        refine HSE.out.mono ?_
        rintro e w1 ⟨rfl, q, hq⟩
        replace C := C.up (Rx.see_below hq)
        clear hq HSE sb
        have HTK := Lib.hid (refTake_any r a L cap (some l') big w1 C.st)
        go_wp2_with fail
        refine HTK.out.mono ?_
        rintro e w2 ⟨rfl, S2, G2⟩
        rw [Rx.tl_some h9] at S2
        replace C := C.on S2 G2
        have HCL := Lib.hid (show Rx.cls l = some (Rx.one f, l'.drop 1) by rw [HC.out, ← HA.out, Rx.after, if_pos ⟨h0, h9⟩]; rfl)
        clear HTK S2 G2 HA h0 h9 n0
        have b0 := C.box.cell 0 (by decide); have b1 := C.box.cell 1 (by decide); have b2 := C.box.cell 2 (by decide); have b3 := C.box.cell 3 (by decide)
        have P := Lib.hid (refOne_any f w2)
        unfold Bs.val at P
        go_wp2_with fail
        refine P.out.mono ?_
        rintro e w6 ⟨v, rfl, hx0, hb⟩
        have hx : Rx.IsB w6 (w.heap.size + 1 ≤ ·) (Rx.one f) v := Rx.isB_sole hx0
        replace C := C.up hb
        clear hx0 hb P b0 b1 b2 b3

        obtain ⟨k9, f9, a9, n9, c9, rfl⟩ := hx.form
        have HX := Lib.hid hx
        clear hx
        have d0 := C.nod.cell.c0; have d1 := C.nod.cell.c1; have d2 := C.nod.cell.c2; have d3 := C.nod.cell.c3; have d4 := C.nod.cell.c4; have d5 := C.nod.cell.c5
        have y := C.nod.frz
        simp only [Nat.zero_add] at d0 d1 d2 d3 d4 d5
        have y0 := y 0 (by decide); have y1 := y 1 (by decide); have y2 := y 2 (by decide); have y3 := y 3 (by decide); have y4 := y 4 (by decide); have y5 := y 5 (by decide)
        have hqr : w.heap.size ≠ r := by have := C.rq; omega
        have HC9 := Lib.hid C
        clear C y
        unfold Rx.hdr
        go_wp2_with fail
        refine bodyPost_ret (v := Rx.hdr k9 f9 a9 n9 c9) (by simp [results, Try.results93, go_sem, Rx.hdr, d0, d1, d2, d3, d4, d5]) rfl ?_
        exact Rx.class_good HCL.out HC9.out HX.out
      · by_cases h0 : n = 0
        · subst h0
          have n0 : (((0 : Nat) : Int) == 0) = true := rfl
          go_wp2_with fail
          clear sb
          have HBD := Lib.hid (refBound_any r a L cap (some l') big _ C.st)
          refine HBD.out.mono ?_
          intro e w2 HO
          clear HBD
          have hbi := fun c u (h : Rx.bound l' = some (c, u)) => Rx.bound_in C.st.nn h
          have HBI := Lib.hid hbi
          clear hbi
          cases hb1 : Rx.bound l' with
          | none =>
            have HI := Lib.hid (show Rx.item l' = none by rw [Rx.item, hb1])
            have HO' := HO
            rw [show (some l').bind Rx.bound = none from hb1] at HO'
            obtain ⟨c2, rfl, S2, G2⟩ := HO'
            replace C := C.on S2 G2
            clear HO S2 G2 hb1 HBI
            have HSE := Lib.hid (refSee_any r a L cap none big _ C.st)
            have ehd : Rx.hd none = -1 := rfl
            rw [ehd] at HSE
            clear ehd
            go_wp2_with fail
            refine HSE.out.mono ?_
            rintro e w3 ⟨rfl, q3, hq3⟩
            replace C := C.up (Rx.see_below hq3)
            clear hq3 HSE
            have HN9 := Lib.hid (show Rx.cls l = none by rw [HC.out, ← HA.out, Rx.after_none hex HI.out]; rfl)
            have sb1 := C.st.b.1
            have sb2 := C.st.b.2
            simp only [Option.isNone] at sb1

            have d0 := C.nod.cell.c0; have d1 := C.nod.cell.c1; have d2 := C.nod.cell.c2; have d3 := C.nod.cell.c3; have d4 := C.nod.cell.c4; have d5 := C.nod.cell.c5
            have y := C.nod.frz
            simp only [Nat.zero_add] at d0 d1 d2 d3 d4 d5
            have y0 := y 0 (by decide); have y1 := y 1 (by decide); have y2 := y 2 (by decide); have y3 := y 3 (by decide); have y4 := y 4 (by decide); have y5 := y 5 (by decide)
            have hqr : w.heap.size ≠ r := by have := C.rq; omega
            have HC9 := Lib.hid C
            clear C y
            go_wp2_with fail
            refine bodyPost_ret (v := Rx.hdr 0 (fun _ => false) none 0 0) (by simp [results, Try.results93, go_sem, Rx.hdr_none, d0, d1, d2, d3, d4, d5, hqr]) rfl ?_
            exact Rx.class_bad HN9.out HC9.out
          | some p9 =>
            obtain ⟨lo, r1⟩ := p9
            have HO' := HO
            rw [show (some l').bind Rx.bound = (some (lo, r1)) from hb1] at HO'
            obtain ⟨rfl, S2, G2⟩ := HO'
            replace C := C.on S2 G2
            have hlo := HBI.out lo r1 hb1
            have HB1 := Lib.hid hb1
            clear HO S2 G2 hb1 HBI
            by_cases hd9 : r1.head? = some 45
            · have ehd := (Rx.hd_iff (l := r1) (c := 45) (by decide)).2 hd9
              have HSE := Lib.hid (refSee_any r a L cap (some r1) big _ C.st)
              rw [ehd] at HSE
              clear ehd
              go_wp2_with fail
              refine HSE.out.mono ?_
              rintro e w3 ⟨rfl, q3, hq3⟩
              replace C := C.up (Rx.see_below hq3)
              clear hq3 HSE
              have HTK := Lib.hid (refTake_any r a L cap (some r1) big _ C.st)
              go_wp2_with fail
              refine HTK.out.mono ?_
              rintro e w4 ⟨rfl, S2, G2⟩
              rw [Rx.tl_some hd9] at S2
              replace C := C.on S2 G2
              clear HTK S2 G2
              have HBD := Lib.hid (refBound_any r a L cap (some (r1.drop 1)) big _ C.st)
              go_wp2_with fail
              refine HBD.out.mono ?_
              intro e w5 HO
              clear HBD
              have HBI := Lib.hid (fun c u (h : Rx.bound (r1.drop 1) = some (c, u)) => Rx.bound_in C.st.nn h)
              cases hb2 : Rx.bound (r1.drop 1) with
              | none =>
                have HI := Lib.hid (show Rx.item l' = none by rw [Rx.item, HB1.out]; simp only; rw [if_pos hd9, hb2])
                have HO' := HO
                rw [show (some (r1.drop 1)).bind Rx.bound = none from hb2] at HO'
                obtain ⟨c2, rfl, S2, G2⟩ := HO'
                replace C := C.on S2 G2
                clear HO S2 G2 hb2 HBI
                have HN9 := Lib.hid (show Rx.cls l = none by rw [HC.out, ← HA.out, Rx.after_none hex HI.out]; rfl)
                have sb1 := C.st.b.1
                have sb2 := C.st.b.2
                simp only [Option.isNone] at sb1

                have d0 := C.nod.cell.c0; have d1 := C.nod.cell.c1; have d2 := C.nod.cell.c2; have d3 := C.nod.cell.c3; have d4 := C.nod.cell.c4; have d5 := C.nod.cell.c5
                have y := C.nod.frz
                simp only [Nat.zero_add] at d0 d1 d2 d3 d4 d5
                have y0 := y 0 (by decide); have y1 := y 1 (by decide); have y2 := y 2 (by decide); have y3 := y 3 (by decide); have y4 := y 4 (by decide); have y5 := y 5 (by decide)
                have hqr : w.heap.size ≠ r := by have := C.rq; omega
                have HC9 := Lib.hid C
                clear C y
                go_wp2_with fail
                refine bodyPost_ret (v := Rx.hdr 0 (fun _ => false) none 0 0) (by simp [results, Try.results93, go_sem, Rx.hdr_none, d0, d1, d2, d3, d4, d5, hqr]) rfl ?_
                exact Rx.class_bad HN9.out HC9.out
              | some p8 =>
                obtain ⟨hi, u⟩ := p8
                have HO' := HO
                rw [show (some (r1.drop 1)).bind Rx.bound = (some (hi, u)) from hb2] at HO'
                obtain ⟨rfl, S2, G2⟩ := HO'
                replace C := C.on S2 G2
                have hhi := HBI.out hi u hb2
                by_cases hgt : hi < lo
                · have HI := Lib.hid (show Rx.item l' = none by rw [Rx.item, HB1.out]; simp only; rw [if_pos hd9, hb2]; simp only; rw [if_pos hgt])
                  clear HO S2 G2 hb2 HBI
                  have HN9 := Lib.hid (show Rx.cls l = none by rw [HC.out, ← HA.out, Rx.after_none hex HI.out]; rfl)
                  have sb1 := C.st.b.1
                  have sb2 := C.st.b.2
                  simp only [Option.isNone] at sb1
                  have t1 : decide (hi < lo) = true := decide_eq_true hgt
                  have t3 : decide (lo > hi) = true := decide_eq_true hgt
                  have d0 := C.nod.cell.c0; have d1 := C.nod.cell.c1; have d2 := C.nod.cell.c2; have d3 := C.nod.cell.c3; have d4 := C.nod.cell.c4; have d5 := C.nod.cell.c5
                  have y := C.nod.frz
                  simp only [Nat.zero_add] at d0 d1 d2 d3 d4 d5
                  have y0 := y 0 (by decide); have y1 := y 1 (by decide); have y2 := y 2 (by decide); have y3 := y 3 (by decide); have y4 := y 4 (by decide); have y5 := y 5 (by decide)
                  have hqr : w.heap.size ≠ r := by have := C.rq; omega
                  have HC9 := Lib.hid C
                  clear C y
                  go_wp2_with fail
                  refine bodyPost_ret (v := Rx.hdr 0 (fun _ => false) none 0 0) (by simp [results, Try.results93, go_sem, Rx.hdr_none, d0, d1, d2, d3, d4, d5, hqr]) rfl ?_
                  exact Rx.class_bad HN9.out HC9.out
                · have HI := Lib.hid (show Rx.item l' = some ((lo, hi), u) by rw [Rx.item, HB1.out]; simp only; rw [if_pos hd9, hb2]; simp only; rw [if_neg hgt])
                  clear HO S2 G2 hb2 HBI
                  have hit := Rx.item_len HI.out
                  obtain ⟨lo, rfl⟩ : ∃ k : Nat, lo = (k : Int) := ⟨lo.toNat, by omega⟩
                  obtain ⟨hi, rfl⟩ : ∃ k : Nat, hi = (k : Int) := ⟨hi.toNat, by omega⟩
                  have hlh : lo ≤ hi := by omega
                  have hh7 : hi ≤ 127 := by omega
                  have sb1 := C.st.b.1
                  simp only [Option.isNone] at sb1
                  have t1 : decide ((hi : Int) < (lo : Int)) = false := decide_eq_false (by omega)
                  have t2 : decide (hi < lo) = false := decide_eq_false (by omega)
                  have t3 : decide ((lo : Int) > (hi : Int)) = false := decide_eq_false (by omega)
                  go_wp2_with fail
                  clear sb1
                  go_loopw [8] (fun i wr => ∃ c : Nat, lo ≤ c ∧ c ≤ hi + 1 ∧ i = .int .i64 c ∧ Rx.CW w r a L cap big b (some u) (fun d => f d || Rx.upto lo c d) wr) (fun i _ => hi + 1 - (intOf i).toNat)
                  case atStart => exact ⟨lo, Nat.le_refl _, by omega, rfl, by rw [Rx.upto_zero]; simpa using C⟩
                  case round =>
                    clear C
                    obtain ⟨c, hc1, hc2, rfl, C⟩ := hrel
                    by_cases hlt : c < hi + 1
                    · have e1 : decide ((c : Int) ≤ (hi : Int)) = true := decide_eq_true (by omega)
                      have e2 : decide (c ≤ hi) = true := decide_eq_true (by omega)
                      have w8 : IntKind.u8.wrap (c : Int) = c := by rw [IntKind.wrap_u8']; omega
                      have P := Lib.hid (putB_any (fun d => f d || Rx.upto lo c d) c (by omega) wr)
                      rw [Rx.grow_upto f hc1] at P
                      unfold Bs.val at P
                      have b0 := C.box.cell 0 (by decide); have b1 := C.box.cell 1 (by decide); have b2 := C.box.cell 2 (by decide); have b3 := C.box.cell 3 (by decide)
                      go_wp2_with fail
                      refine P.out.mono ?_
                      rintro e w5 ⟨rfl, hb⟩
                      replace C := C.up hb
                      clear hb P
                      replace b0 := C.box.cell 0 (by decide); replace b1 := C.box.cell 1 (by decide); replace b2 := C.box.cell 2 (by decide); replace b3 := C.box.cell 3 (by decide)
                      have g0 := C.box.frz 0 (by decide); have g1 := C.box.frz 1 (by decide); have g2 := C.box.frz 2 (by decide); have g3 := C.box.frz 3 (by decide)
                      go_wp2_with fail
                      go_roundw
                      case rel => exact ⟨c + 1, by omega, by omega, by go_num, C.put _⟩
                      case measure => simp [intOf] <;> omega
                    · have e1 : decide ((c : Int) ≤ (hi : Int)) = false := decide_eq_false (by omega)
                      have e2 : decide (c ≤ hi) = false := decide_eq_false (by omega)
                      obtain rfl : c = hi + 1 := by omega
                      rw [Rx.upto_rng] at C
                      go_wp2_with fail
                      go_roundw
                      case rel => exact ⟨0 + 1, _, u, by go_num, by omega, Lib.hid (by rw [← HA.out]; exact (Rx.after_some hex HI.out).symm), C⟩
                      case measure => simp [intOf] <;> omega
            · have ehd : (Rx.hd (some r1) == 45) = false := by rw [beq_eq_false_iff_ne]; exact fun e' => hd9 ((Rx.hd_iff (by decide)).1 e')
              have HI := Lib.hid (show Rx.item l' = some ((lo, lo), r1) by rw [Rx.item, HB1.out]; simp only; rw [if_neg hd9])
              have HSE := Lib.hid (refSee_any r a L cap (some r1) big _ C.st)
              generalize Rx.hd (some r1) = c9 at *
              go_wp2_with fail
              refine HSE.out.mono ?_
              rintro e w3 ⟨rfl, q3, hq3⟩
              replace C := C.up (Rx.see_below hq3)
              clear hq3 HSE
              have hit := Rx.item_len HI.out
              obtain ⟨lo, rfl⟩ : ∃ k : Nat, lo = (k : Int) := ⟨lo.toNat, by omega⟩
              have hlh : lo ≤ lo := by omega
              have hh7 : lo ≤ 127 := by omega
              have sb1 := C.st.b.1
              simp only [Option.isNone] at sb1
              have t1 : decide ((lo : Int) < (lo : Int)) = false := decide_eq_false (by omega)
              have t2 : decide (lo < lo) = false := decide_eq_false (by omega)
              have t3 : decide ((lo : Int) > (lo : Int)) = false := decide_eq_false (by omega)
              go_wp2_with fail
              clear sb1
              go_loopw [8] (fun i wr => ∃ c : Nat, lo ≤ c ∧ c ≤ lo + 1 ∧ i = .int .i64 c ∧ Rx.CW w r a L cap big b (some r1) (fun d => f d || Rx.upto lo c d) wr) (fun i _ => lo + 1 - (intOf i).toNat)
              case atStart => exact ⟨lo, Nat.le_refl _, by omega, rfl, by rw [Rx.upto_zero]; simpa using C⟩
              case round =>
                clear C
                obtain ⟨c, hc1, hc2, rfl, C⟩ := hrel
                by_cases hlt : c < lo + 1
                · have e1 : decide ((c : Int) ≤ (lo : Int)) = true := decide_eq_true (by omega)
                  have e2 : decide (c ≤ lo) = true := decide_eq_true (by omega)
                  have w8 : IntKind.u8.wrap (c : Int) = c := by rw [IntKind.wrap_u8']; omega
                  have P := Lib.hid (putB_any (fun d => f d || Rx.upto lo c d) c (by omega) wr)
                  rw [Rx.grow_upto f hc1] at P
                  unfold Bs.val at P
                  have b0 := C.box.cell 0 (by decide); have b1 := C.box.cell 1 (by decide); have b2 := C.box.cell 2 (by decide); have b3 := C.box.cell 3 (by decide)
                  go_wp2_with fail
                  refine P.out.mono ?_
                  rintro e w5 ⟨rfl, hb⟩
                  replace C := C.up hb
                  clear hb P
                  replace b0 := C.box.cell 0 (by decide); replace b1 := C.box.cell 1 (by decide); replace b2 := C.box.cell 2 (by decide); replace b3 := C.box.cell 3 (by decide)
                  have g0 := C.box.frz 0 (by decide); have g1 := C.box.frz 1 (by decide); have g2 := C.box.frz 2 (by decide); have g3 := C.box.frz 3 (by decide)
                  go_wp2_with fail
                  go_roundw
                  case rel => exact ⟨c + 1, by omega, by omega, by go_num, C.put _⟩
                  case measure => simp [intOf] <;> omega
                · have e1 : decide ((c : Int) ≤ (lo : Int)) = false := decide_eq_false (by omega)
                  have e2 : decide (c ≤ lo) = false := decide_eq_false (by omega)
                  obtain rfl : c = lo + 1 := by omega
                  rw [Rx.upto_rng] at C
                  go_wp2_with fail
                  go_roundw
                  case rel => exact ⟨0 + 1, _, r1, by go_num, by omega, Lib.hid (by rw [← HA.out]; exact (Rx.after_some hex HI.out).symm), C⟩
                  case measure => simp [intOf] <;> omega
        · have n0 : ((n : Int) == 0) = false := by simp; omega
          have hh : (Rx.hd (some l') == 93) = false := by rw [beq_eq_false_iff_ne]; exact fun e' => hex ⟨h0, (Rx.hd_iff (by decide)).1 e'⟩
          have hh' : (Rx.hd (some l') != 93) = true := by rw [bne, hh]; rfl
          have HSE := Lib.hid (refSee_any r a L cap (some l') big wr C.st)
          generalize Rx.hd (some l') = c7 at *
          go_wp2_with fail
          refine HSE.out.mono ?_
          rintro e w1 ⟨rfl, q, hq⟩
          replace C := C.up (Rx.see_below hq)
          clear hq HSE sb
          go_wp2_with fail
          have HBD := Lib.hid (refBound_any r a L cap (some l') big _ C.st)
          refine HBD.out.mono ?_
          intro e w2 HO
          clear HBD
          have hbi := fun c u (h : Rx.bound l' = some (c, u)) => Rx.bound_in C.st.nn h
          have HBI := Lib.hid hbi
          clear hbi
          cases hb1 : Rx.bound l' with
          | none =>
            have HI := Lib.hid (show Rx.item l' = none by rw [Rx.item, hb1])
            have HO' := HO
            rw [show (some l').bind Rx.bound = none from hb1] at HO'
            obtain ⟨c2, rfl, S2, G2⟩ := HO'
            replace C := C.on S2 G2
            clear HO S2 G2 hb1 HBI
            have HSE := Lib.hid (refSee_any r a L cap none big _ C.st)
            have ehd : Rx.hd none = -1 := rfl
            rw [ehd] at HSE
            clear ehd
            go_wp2_with fail
            refine HSE.out.mono ?_
            rintro e w3 ⟨rfl, q3, hq3⟩
            replace C := C.up (Rx.see_below hq3)
            clear hq3 HSE
            have HN9 := Lib.hid (show Rx.cls l = none by rw [HC.out, ← HA.out, Rx.after_none hex HI.out]; rfl)
            have sb1 := C.st.b.1
            have sb2 := C.st.b.2
            simp only [Option.isNone] at sb1

            have d0 := C.nod.cell.c0; have d1 := C.nod.cell.c1; have d2 := C.nod.cell.c2; have d3 := C.nod.cell.c3; have d4 := C.nod.cell.c4; have d5 := C.nod.cell.c5
            have y := C.nod.frz
            simp only [Nat.zero_add] at d0 d1 d2 d3 d4 d5
            have y0 := y 0 (by decide); have y1 := y 1 (by decide); have y2 := y 2 (by decide); have y3 := y 3 (by decide); have y4 := y 4 (by decide); have y5 := y 5 (by decide)
            have hqr : w.heap.size ≠ r := by have := C.rq; omega
            have HC9 := Lib.hid C
            clear C y
            go_wp2_with fail
            refine bodyPost_ret (v := Rx.hdr 0 (fun _ => false) none 0 0) (by simp [results, Try.results93, go_sem, Rx.hdr_none, d0, d1, d2, d3, d4, d5, hqr]) rfl ?_
            exact Rx.class_bad HN9.out HC9.out
          | some p9 =>
            obtain ⟨lo, r1⟩ := p9
            have HO' := HO
            rw [show (some l').bind Rx.bound = (some (lo, r1)) from hb1] at HO'
            obtain ⟨rfl, S2, G2⟩ := HO'
            replace C := C.on S2 G2
            have hlo := HBI.out lo r1 hb1
            have HB1 := Lib.hid hb1
            clear HO S2 G2 hb1 HBI
            by_cases hd9 : r1.head? = some 45
            · have ehd := (Rx.hd_iff (l := r1) (c := 45) (by decide)).2 hd9
              have HSE := Lib.hid (refSee_any r a L cap (some r1) big _ C.st)
              rw [ehd] at HSE
              clear ehd
              go_wp2_with fail
              refine HSE.out.mono ?_
              rintro e w3 ⟨rfl, q3, hq3⟩
              replace C := C.up (Rx.see_below hq3)
              clear hq3 HSE
              have HTK := Lib.hid (refTake_any r a L cap (some r1) big _ C.st)
              go_wp2_with fail
              refine HTK.out.mono ?_
              rintro e w4 ⟨rfl, S2, G2⟩
              rw [Rx.tl_some hd9] at S2
              replace C := C.on S2 G2
              clear HTK S2 G2
              have HBD := Lib.hid (refBound_any r a L cap (some (r1.drop 1)) big _ C.st)
              go_wp2_with fail
              refine HBD.out.mono ?_
              intro e w5 HO
              clear HBD
              have HBI := Lib.hid (fun c u (h : Rx.bound (r1.drop 1) = some (c, u)) => Rx.bound_in C.st.nn h)
              cases hb2 : Rx.bound (r1.drop 1) with
              | none =>
                have HI := Lib.hid (show Rx.item l' = none by rw [Rx.item, HB1.out]; simp only; rw [if_pos hd9, hb2])
                have HO' := HO
                rw [show (some (r1.drop 1)).bind Rx.bound = none from hb2] at HO'
                obtain ⟨c2, rfl, S2, G2⟩ := HO'
                replace C := C.on S2 G2
                clear HO S2 G2 hb2 HBI
                have HN9 := Lib.hid (show Rx.cls l = none by rw [HC.out, ← HA.out, Rx.after_none hex HI.out]; rfl)
                have sb1 := C.st.b.1
                have sb2 := C.st.b.2
                simp only [Option.isNone] at sb1

                have d0 := C.nod.cell.c0; have d1 := C.nod.cell.c1; have d2 := C.nod.cell.c2; have d3 := C.nod.cell.c3; have d4 := C.nod.cell.c4; have d5 := C.nod.cell.c5
                have y := C.nod.frz
                simp only [Nat.zero_add] at d0 d1 d2 d3 d4 d5
                have y0 := y 0 (by decide); have y1 := y 1 (by decide); have y2 := y 2 (by decide); have y3 := y 3 (by decide); have y4 := y 4 (by decide); have y5 := y 5 (by decide)
                have hqr : w.heap.size ≠ r := by have := C.rq; omega
                have HC9 := Lib.hid C
                clear C y
                go_wp2_with fail
                refine bodyPost_ret (v := Rx.hdr 0 (fun _ => false) none 0 0) (by simp [results, Try.results93, go_sem, Rx.hdr_none, d0, d1, d2, d3, d4, d5, hqr]) rfl ?_
                exact Rx.class_bad HN9.out HC9.out
              | some p8 =>
                obtain ⟨hi, u⟩ := p8
                have HO' := HO
                rw [show (some (r1.drop 1)).bind Rx.bound = (some (hi, u)) from hb2] at HO'
                obtain ⟨rfl, S2, G2⟩ := HO'
                replace C := C.on S2 G2
                have hhi := HBI.out hi u hb2
                by_cases hgt : hi < lo
                · have HI := Lib.hid (show Rx.item l' = none by rw [Rx.item, HB1.out]; simp only; rw [if_pos hd9, hb2]; simp only; rw [if_pos hgt])
                  clear HO S2 G2 hb2 HBI
                  have HN9 := Lib.hid (show Rx.cls l = none by rw [HC.out, ← HA.out, Rx.after_none hex HI.out]; rfl)
                  have sb1 := C.st.b.1
                  have sb2 := C.st.b.2
                  simp only [Option.isNone] at sb1
                  have t1 : decide (hi < lo) = true := decide_eq_true hgt
                  have t3 : decide (lo > hi) = true := decide_eq_true hgt
                  have d0 := C.nod.cell.c0; have d1 := C.nod.cell.c1; have d2 := C.nod.cell.c2; have d3 := C.nod.cell.c3; have d4 := C.nod.cell.c4; have d5 := C.nod.cell.c5
                  have y := C.nod.frz
                  simp only [Nat.zero_add] at d0 d1 d2 d3 d4 d5
                  have y0 := y 0 (by decide); have y1 := y 1 (by decide); have y2 := y 2 (by decide); have y3 := y 3 (by decide); have y4 := y 4 (by decide); have y5 := y 5 (by decide)
                  have hqr : w.heap.size ≠ r := by have := C.rq; omega
                  have HC9 := Lib.hid C
                  clear C y
                  go_wp2_with fail
                  refine bodyPost_ret (v := Rx.hdr 0 (fun _ => false) none 0 0) (by simp [results, Try.results93, go_sem, Rx.hdr_none, d0, d1, d2, d3, d4, d5, hqr]) rfl ?_
                  exact Rx.class_bad HN9.out HC9.out
                · have HI := Lib.hid (show Rx.item l' = some ((lo, hi), u) by rw [Rx.item, HB1.out]; simp only; rw [if_pos hd9, hb2]; simp only; rw [if_neg hgt])
                  clear HO S2 G2 hb2 HBI
                  have hit := Rx.item_len HI.out
                  obtain ⟨lo, rfl⟩ : ∃ k : Nat, lo = (k : Int) := ⟨lo.toNat, by omega⟩
                  obtain ⟨hi, rfl⟩ : ∃ k : Nat, hi = (k : Int) := ⟨hi.toNat, by omega⟩
                  have hlh : lo ≤ hi := by omega
                  have hh7 : hi ≤ 127 := by omega
                  have sb1 := C.st.b.1
                  simp only [Option.isNone] at sb1
                  have t1 : decide ((hi : Int) < (lo : Int)) = false := decide_eq_false (by omega)
                  have t2 : decide (hi < lo) = false := decide_eq_false (by omega)
                  have t3 : decide ((lo : Int) > (hi : Int)) = false := decide_eq_false (by omega)
                  go_wp2_with fail
                  clear sb1
                  go_loopw [8] (fun i wr => ∃ c : Nat, lo ≤ c ∧ c ≤ hi + 1 ∧ i = .int .i64 c ∧ Rx.CW w r a L cap big b (some u) (fun d => f d || Rx.upto lo c d) wr) (fun i _ => hi + 1 - (intOf i).toNat)
                  case atStart => exact ⟨lo, Nat.le_refl _, by omega, rfl, by rw [Rx.upto_zero]; simpa using C⟩
                  case round =>
                    clear C
                    obtain ⟨c, hc1, hc2, rfl, C⟩ := hrel
                    by_cases hlt : c < hi + 1
                    · have e1 : decide ((c : Int) ≤ (hi : Int)) = true := decide_eq_true (by omega)
                      have e2 : decide (c ≤ hi) = true := decide_eq_true (by omega)
                      have w8 : IntKind.u8.wrap (c : Int) = c := by rw [IntKind.wrap_u8']; omega
                      have P := Lib.hid (putB_any (fun d => f d || Rx.upto lo c d) c (by omega) wr)
                      rw [Rx.grow_upto f hc1] at P
                      unfold Bs.val at P
                      have b0 := C.box.cell 0 (by decide); have b1 := C.box.cell 1 (by decide); have b2 := C.box.cell 2 (by decide); have b3 := C.box.cell 3 (by decide)
                      go_wp2_with fail
                      refine P.out.mono ?_
                      rintro e w5 ⟨rfl, hb⟩
                      replace C := C.up hb
                      clear hb P
                      replace b0 := C.box.cell 0 (by decide); replace b1 := C.box.cell 1 (by decide); replace b2 := C.box.cell 2 (by decide); replace b3 := C.box.cell 3 (by decide)
                      have g0 := C.box.frz 0 (by decide); have g1 := C.box.frz 1 (by decide); have g2 := C.box.frz 2 (by decide); have g3 := C.box.frz 3 (by decide)
                      go_wp2_with fail
                      go_roundw
                      case rel => exact ⟨c + 1, by omega, by omega, by go_num, C.put _⟩
                      case measure => simp [intOf]; omega
                    · have e1 : decide ((c : Int) ≤ (hi : Int)) = false := decide_eq_false (by omega)
                      have e2 : decide (c ≤ hi) = false := decide_eq_false (by omega)
                      obtain rfl : c = hi + 1 := by omega
                      rw [Rx.upto_rng] at C
                      go_wp2_with fail
                      go_roundw
                      case rel => exact ⟨n + 1, _, u, by go_num, by omega, Lib.hid (by rw [← HA.out]; exact (Rx.after_some hex HI.out).symm), C⟩
                      case measure => simp [intOf]; omega
            · have ehd : (Rx.hd (some r1) == 45) = false := by rw [beq_eq_false_iff_ne]; exact fun e' => hd9 ((Rx.hd_iff (by decide)).1 e')
              have HI := Lib.hid (show Rx.item l' = some ((lo, lo), r1) by rw [Rx.item, HB1.out]; simp only; rw [if_neg hd9])
              have HSE := Lib.hid (refSee_any r a L cap (some r1) big _ C.st)
              generalize Rx.hd (some r1) = c9 at *
              go_wp2_with fail
              refine HSE.out.mono ?_
              rintro e w3 ⟨rfl, q3, hq3⟩
              replace C := C.up (Rx.see_below hq3)
              clear hq3 HSE
              have hit := Rx.item_len HI.out
              obtain ⟨lo, rfl⟩ : ∃ k : Nat, lo = (k : Int) := ⟨lo.toNat, by omega⟩
              have hlh : lo ≤ lo := by omega
              have hh7 : lo ≤ 127 := by omega
              have sb1 := C.st.b.1
              simp only [Option.isNone] at sb1
              have t1 : decide ((lo : Int) < (lo : Int)) = false := decide_eq_false (by omega)
              have t2 : decide (lo < lo) = false := decide_eq_false (by omega)
              have t3 : decide ((lo : Int) > (lo : Int)) = false := decide_eq_false (by omega)
              go_wp2_with fail
              clear sb1
              go_loopw [8] (fun i wr => ∃ c : Nat, lo ≤ c ∧ c ≤ lo + 1 ∧ i = .int .i64 c ∧ Rx.CW w r a L cap big b (some r1) (fun d => f d || Rx.upto lo c d) wr) (fun i _ => lo + 1 - (intOf i).toNat)
              case atStart => exact ⟨lo, Nat.le_refl _, by omega, rfl, by rw [Rx.upto_zero]; simpa using C⟩
              case round =>
                clear C
                obtain ⟨c, hc1, hc2, rfl, C⟩ := hrel
                by_cases hlt : c < lo + 1
                · have e1 : decide ((c : Int) ≤ (lo : Int)) = true := decide_eq_true (by omega)
                  have e2 : decide (c ≤ lo) = true := decide_eq_true (by omega)
                  have w8 : IntKind.u8.wrap (c : Int) = c := by rw [IntKind.wrap_u8']; omega
                  have P := Lib.hid (putB_any (fun d => f d || Rx.upto lo c d) c (by omega) wr)
                  rw [Rx.grow_upto f hc1] at P
                  unfold Bs.val at P
                  have b0 := C.box.cell 0 (by decide); have b1 := C.box.cell 1 (by decide); have b2 := C.box.cell 2 (by decide); have b3 := C.box.cell 3 (by decide)
                  go_wp2_with fail
                  refine P.out.mono ?_
                  rintro e w5 ⟨rfl, hb⟩
                  replace C := C.up hb
                  clear hb P
                  replace b0 := C.box.cell 0 (by decide); replace b1 := C.box.cell 1 (by decide); replace b2 := C.box.cell 2 (by decide); replace b3 := C.box.cell 3 (by decide)
                  have g0 := C.box.frz 0 (by decide); have g1 := C.box.frz 1 (by decide); have g2 := C.box.frz 2 (by decide); have g3 := C.box.frz 3 (by decide)
                  go_wp2_with fail
                  go_roundw
                  case rel => exact ⟨c + 1, by omega, by omega, by go_num, C.put _⟩
                  case measure => simp [intOf]; omega
                · have e1 : decide ((c : Int) ≤ (lo : Int)) = false := decide_eq_false (by omega)
                  have e2 : decide (c ≤ lo) = false := decide_eq_false (by omega)
                  obtain rfl : c = lo + 1 := by omega
                  rw [Rx.upto_rng] at C
                  go_wp2_with fail
                  go_roundw
                  case rel => exact ⟨n + 1, _, r1, by go_num, by omega, Lib.hid (by rw [← HA.out]; exact (Rx.after_some hex HI.out).symm), C⟩
                  case measure => simp [intOf]; omega
  · have el := HT.out rfl
    go_wp2_with fail
    refine HTK.out.mono ?_
    rintro e V' ⟨rfl, h', G'⟩
    rw [el] at h'
    have hsz' : w.heap.size < V'.heap.size := by have := G'.size; omega
    have B1 := Bs.below1 V' (.cells #[.int .u64 0, .int .u64 0, .int .u64 0, .int .u64 0] 25)
    have C : Rx.CW w r a L cap big V'.heap.size (some l0) (fun _ => false) (V'.alloc (.cells #[.int .u64 0, .int .u64 0, .int .u64 0, .int .u64 0] 25)) := ⟨h'.up B1, Bs.box_zero V' _, (N.grown G' (by omega)).up B1, (G.trans G').trans (Rx.grown_of r B1), hr, hho.out, hsz'⟩
    clear HTK HE HT HQ B1 N G h h' G' el
    go_wp2_with fail
    generalize V'.alloc (.cells #[.int .u64 0, .int .u64 0, .int .u64 0, .int .u64 0] 25) = V2 at *
    generalize V'.heap.size = b at *
    clear hsz hsz' hnt
    go_loopw [5] (fun i wr => ∃ (n : Nat) (f : Nat → Bool) (l' : List Int), i = .int .i64 n ∧ n + l'.length ≤ 1000 ∧ Hid (Rx.after n f l' = Rx.items (fun _ => false) l0) ∧ Rx.CW w r a L cap big b (some l') f wr) (fun i _ => 1001 - (intOf i).toNat)
    case atStart => exact ⟨0, _, l0, rfl, by have := C.st.ln; omega, Lib.hid (by simp [Rx.after]), C⟩
    case round =>
      clear C
      obtain ⟨n, f, l', rfl, hln, HA, C⟩ := hrel
      have sb := C.st.b.1
      simp only [Option.isNone] at sb
      by_cases hex : n ≠ 0 ∧ l'.head? = some 93
      · obtain ⟨h0, h9⟩ := hex
        have n0 : ((n : Int) == 0) = false := by simp; omega
        have HSE := Lib.hid (refSee_any r a L cap (some l') big wr C.st)
        rw [(Rx.hd_iff (by decide)).2 h9] at HSE
        go_wp2_with fail
        refine HSE.out.mono ?_
        rintro e w1 ⟨rfl, q, hq⟩
        replace C := C.up (Rx.see_below hq)
        clear hq HSE sb
        have HTK := Lib.hid (refTake_any r a L cap (some l') big w1 C.st)
        go_wp2_with fail
        refine HTK.out.mono ?_
        rintro e w2 ⟨rfl, S2, G2⟩
        rw [Rx.tl_some h9] at S2
        replace C := C.on S2 G2
        have HCL := Lib.hid (show Rx.cls l = some (Rx.but (fun d => f d || d == 10), l'.drop 1) by rw [HC.out, ← HA.out, Rx.after, if_pos ⟨h0, h9⟩]; simp [Rx.rng_ten])
        clear HTK S2 G2 HA h0 h9 n0
        have b0 := C.box.cell 0 (by decide); have b1 := C.box.cell 1 (by decide); have b2 := C.box.cell 2 (by decide); have b3 := C.box.cell 3 (by decide)
        have P := Lib.hid (putB_any f 10 (by omega) w2)
        unfold Bs.val at P
        go_wp2_with fail
        refine P.out.mono ?_
        rintro e w5 ⟨rfl, hb⟩
        replace C := C.up hb
        clear hb P b0 b1 b2 b3
        have P := Lib.hid (refBut_any (fun d => f d || d == 10) w5)
        unfold Bs.val at P
        go_wp2_with fail
        refine P.out.mono ?_
        rintro e w6 ⟨v, rfl, hx0, hb⟩
        have hsz5 : w.heap.size + 1 ≤ w5.heap.size := by have := C.qb; have := C.box.lt; omega
        have hx : Rx.IsB w6 (w.heap.size + 1 ≤ ·) (Rx.but (fun d => f d || d == 10)) v := hx0.mono (fun j hj => by omega)
        replace C := C.up hb
        clear hx0 hb P hsz5

        obtain ⟨k9, f9, a9, n9, c9, rfl⟩ := hx.form
        have HX := Lib.hid hx
        clear hx
        have d0 := C.nod.cell.c0; have d1 := C.nod.cell.c1; have d2 := C.nod.cell.c2; have d3 := C.nod.cell.c3; have d4 := C.nod.cell.c4; have d5 := C.nod.cell.c5
        have y := C.nod.frz
        simp only [Nat.zero_add] at d0 d1 d2 d3 d4 d5
        have y0 := y 0 (by decide); have y1 := y 1 (by decide); have y2 := y 2 (by decide); have y3 := y 3 (by decide); have y4 := y 4 (by decide); have y5 := y 5 (by decide)
        have hqr : w.heap.size ≠ r := by have := C.rq; omega
        have HC9 := Lib.hid C
        clear C y
        unfold Rx.hdr
        go_wp2_with fail
        refine bodyPost_ret (v := Rx.hdr k9 f9 a9 n9 c9) (by simp [results, Try.results93, go_sem, Rx.hdr, d0, d1, d2, d3, d4, d5]) rfl ?_
        exact Rx.class_good HCL.out HC9.out HX.out
      · by_cases h0 : n = 0
        · subst h0
          have n0 : (((0 : Nat) : Int) == 0) = true := rfl
          go_wp2_with fail
          clear sb
          have HBD := Lib.hid (refBound_any r a L cap (some l') big _ C.st)
          refine HBD.out.mono ?_
          intro e w2 HO
          clear HBD
          have hbi := fun c u (h : Rx.bound l' = some (c, u)) => Rx.bound_in C.st.nn h
          have HBI := Lib.hid hbi
          clear hbi
          cases hb1 : Rx.bound l' with
          | none =>
            have HI := Lib.hid (show Rx.item l' = none by rw [Rx.item, hb1])
            have HO' := HO
            rw [show (some l').bind Rx.bound = none from hb1] at HO'
            obtain ⟨c2, rfl, S2, G2⟩ := HO'
            replace C := C.on S2 G2
            clear HO S2 G2 hb1 HBI
            have HSE := Lib.hid (refSee_any r a L cap none big _ C.st)
            have ehd : Rx.hd none = -1 := rfl
            rw [ehd] at HSE
            clear ehd
            go_wp2_with fail
            refine HSE.out.mono ?_
            rintro e w3 ⟨rfl, q3, hq3⟩
            replace C := C.up (Rx.see_below hq3)
            clear hq3 HSE
            have HN9 := Lib.hid (show Rx.cls l = none by rw [HC.out, ← HA.out, Rx.after_none hex HI.out]; rfl)
            have sb1 := C.st.b.1
            have sb2 := C.st.b.2
            simp only [Option.isNone] at sb1

            have d0 := C.nod.cell.c0; have d1 := C.nod.cell.c1; have d2 := C.nod.cell.c2; have d3 := C.nod.cell.c3; have d4 := C.nod.cell.c4; have d5 := C.nod.cell.c5
            have y := C.nod.frz
            simp only [Nat.zero_add] at d0 d1 d2 d3 d4 d5
            have y0 := y 0 (by decide); have y1 := y 1 (by decide); have y2 := y 2 (by decide); have y3 := y 3 (by decide); have y4 := y 4 (by decide); have y5 := y 5 (by decide)
            have hqr : w.heap.size ≠ r := by have := C.rq; omega
            have HC9 := Lib.hid C
            clear C y
            go_wp2_with fail
            refine bodyPost_ret (v := Rx.hdr 0 (fun _ => false) none 0 0) (by simp [results, Try.results93, go_sem, Rx.hdr_none, d0, d1, d2, d3, d4, d5, hqr]) rfl ?_
            exact Rx.class_bad HN9.out HC9.out
          | some p9 =>
            obtain ⟨lo, r1⟩ := p9
            have HO' := HO
            rw [show (some l').bind Rx.bound = (some (lo, r1)) from hb1] at HO'
            obtain ⟨rfl, S2, G2⟩ := HO'
            replace C := C.on S2 G2
            have hlo := HBI.out lo r1 hb1
            have HB1 := Lib.hid hb1
            clear HO S2 G2 hb1 HBI
            by_cases hd9 : r1.head? = some 45
            · have ehd := (Rx.hd_iff (l := r1) (c := 45) (by decide)).2 hd9
              have HSE := Lib.hid (refSee_any r a L cap (some r1) big _ C.st)
              rw [ehd] at HSE
              clear ehd
              go_wp2_with fail
              refine HSE.out.mono ?_
              rintro e w3 ⟨rfl, q3, hq3⟩
              replace C := C.up (Rx.see_below hq3)
              clear hq3 HSE
              have HTK := Lib.hid (refTake_any r a L cap (some r1) big _ C.st)
              go_wp2_with fail
              refine HTK.out.mono ?_
              rintro e w4 ⟨rfl, S2, G2⟩
              rw [Rx.tl_some hd9] at S2
              replace C := C.on S2 G2
              clear HTK S2 G2
              have HBD := Lib.hid (refBound_any r a L cap (some (r1.drop 1)) big _ C.st)
              go_wp2_with fail
              refine HBD.out.mono ?_
              intro e w5 HO
              clear HBD
              have HBI := Lib.hid (fun c u (h : Rx.bound (r1.drop 1) = some (c, u)) => Rx.bound_in C.st.nn h)
              cases hb2 : Rx.bound (r1.drop 1) with
              | none =>
                have HI := Lib.hid (show Rx.item l' = none by rw [Rx.item, HB1.out]; simp only; rw [if_pos hd9, hb2])
                have HO' := HO
                rw [show (some (r1.drop 1)).bind Rx.bound = none from hb2] at HO'
                obtain ⟨c2, rfl, S2, G2⟩ := HO'
                replace C := C.on S2 G2
                clear HO S2 G2 hb2 HBI
                have HN9 := Lib.hid (show Rx.cls l = none by rw [HC.out, ← HA.out, Rx.after_none hex HI.out]; rfl)
                have sb1 := C.st.b.1
                have sb2 := C.st.b.2
                simp only [Option.isNone] at sb1

                have d0 := C.nod.cell.c0; have d1 := C.nod.cell.c1; have d2 := C.nod.cell.c2; have d3 := C.nod.cell.c3; have d4 := C.nod.cell.c4; have d5 := C.nod.cell.c5
                have y := C.nod.frz
                simp only [Nat.zero_add] at d0 d1 d2 d3 d4 d5
                have y0 := y 0 (by decide); have y1 := y 1 (by decide); have y2 := y 2 (by decide); have y3 := y 3 (by decide); have y4 := y 4 (by decide); have y5 := y 5 (by decide)
                have hqr : w.heap.size ≠ r := by have := C.rq; omega
                have HC9 := Lib.hid C
                clear C y
                go_wp2_with fail
                refine bodyPost_ret (v := Rx.hdr 0 (fun _ => false) none 0 0) (by simp [results, Try.results93, go_sem, Rx.hdr_none, d0, d1, d2, d3, d4, d5, hqr]) rfl ?_
                exact Rx.class_bad HN9.out HC9.out
              | some p8 =>
                obtain ⟨hi, u⟩ := p8
                have HO' := HO
                rw [show (some (r1.drop 1)).bind Rx.bound = (some (hi, u)) from hb2] at HO'
                obtain ⟨rfl, S2, G2⟩ := HO'
                replace C := C.on S2 G2
                have hhi := HBI.out hi u hb2
                by_cases hgt : hi < lo
                · have HI := Lib.hid (show Rx.item l' = none by rw [Rx.item, HB1.out]; simp only; rw [if_pos hd9, hb2]; simp only; rw [if_pos hgt])
                  clear HO S2 G2 hb2 HBI
                  have HN9 := Lib.hid (show Rx.cls l = none by rw [HC.out, ← HA.out, Rx.after_none hex HI.out]; rfl)
                  have sb1 := C.st.b.1
                  have sb2 := C.st.b.2
                  simp only [Option.isNone] at sb1
                  have t1 : decide (hi < lo) = true := decide_eq_true hgt
                  have t3 : decide (lo > hi) = true := decide_eq_true hgt
                  have d0 := C.nod.cell.c0; have d1 := C.nod.cell.c1; have d2 := C.nod.cell.c2; have d3 := C.nod.cell.c3; have d4 := C.nod.cell.c4; have d5 := C.nod.cell.c5
                  have y := C.nod.frz
                  simp only [Nat.zero_add] at d0 d1 d2 d3 d4 d5
                  have y0 := y 0 (by decide); have y1 := y 1 (by decide); have y2 := y 2 (by decide); have y3 := y 3 (by decide); have y4 := y 4 (by decide); have y5 := y 5 (by decide)
                  have hqr : w.heap.size ≠ r := by have := C.rq; omega
                  have HC9 := Lib.hid C
                  clear C y
                  go_wp2_with fail
                  refine bodyPost_ret (v := Rx.hdr 0 (fun _ => false) none 0 0) (by simp [results, Try.results93, go_sem, Rx.hdr_none, d0, d1, d2, d3, d4, d5, hqr]) rfl ?_
                  exact Rx.class_bad HN9.out HC9.out
                · have HI := Lib.hid (show Rx.item l' = some ((lo, hi), u) by rw [Rx.item, HB1.out]; simp only; rw [if_pos hd9, hb2]; simp only; rw [if_neg hgt])
                  clear HO S2 G2 hb2 HBI
                  have hit := Rx.item_len HI.out
                  obtain ⟨lo, rfl⟩ : ∃ k : Nat, lo = (k : Int) := ⟨lo.toNat, by omega⟩
                  obtain ⟨hi, rfl⟩ : ∃ k : Nat, hi = (k : Int) := ⟨hi.toNat, by omega⟩
                  have hlh : lo ≤ hi := by omega
                  have hh7 : hi ≤ 127 := by omega
                  have sb1 := C.st.b.1
                  simp only [Option.isNone] at sb1
                  have t1 : decide ((hi : Int) < (lo : Int)) = false := decide_eq_false (by omega)
                  have t2 : decide (hi < lo) = false := decide_eq_false (by omega)
                  have t3 : decide ((lo : Int) > (hi : Int)) = false := decide_eq_false (by omega)
                  go_wp2_with fail
                  clear sb1
                  go_loopw [8] (fun i wr => ∃ c : Nat, lo ≤ c ∧ c ≤ hi + 1 ∧ i = .int .i64 c ∧ Rx.CW w r a L cap big b (some u) (fun d => f d || Rx.upto lo c d) wr) (fun i _ => hi + 1 - (intOf i).toNat)
                  case atStart => exact ⟨lo, Nat.le_refl _, by omega, rfl, by rw [Rx.upto_zero]; simpa using C⟩
                  case round =>
                    clear C
                    obtain ⟨c, hc1, hc2, rfl, C⟩ := hrel
                    by_cases hlt : c < hi + 1
                    · have e1 : decide ((c : Int) ≤ (hi : Int)) = true := decide_eq_true (by omega)
                      have e2 : decide (c ≤ hi) = true := decide_eq_true (by omega)
                      have w8 : IntKind.u8.wrap (c : Int) = c := by rw [IntKind.wrap_u8']; omega
                      have P := Lib.hid (putB_any (fun d => f d || Rx.upto lo c d) c (by omega) wr)
                      rw [Rx.grow_upto f hc1] at P
                      unfold Bs.val at P
                      have b0 := C.box.cell 0 (by decide); have b1 := C.box.cell 1 (by decide); have b2 := C.box.cell 2 (by decide); have b3 := C.box.cell 3 (by decide)
                      go_wp2_with fail
                      refine P.out.mono ?_
                      rintro e w5 ⟨rfl, hb⟩
                      replace C := C.up hb
                      clear hb P
                      replace b0 := C.box.cell 0 (by decide); replace b1 := C.box.cell 1 (by decide); replace b2 := C.box.cell 2 (by decide); replace b3 := C.box.cell 3 (by decide)
                      have g0 := C.box.frz 0 (by decide); have g1 := C.box.frz 1 (by decide); have g2 := C.box.frz 2 (by decide); have g3 := C.box.frz 3 (by decide)
                      go_wp2_with fail
                      go_roundw
                      case rel => exact ⟨c + 1, by omega, by omega, by go_num, C.put _⟩
                      case measure => simp [intOf] <;> omega
                    · have e1 : decide ((c : Int) ≤ (hi : Int)) = false := decide_eq_false (by omega)
                      have e2 : decide (c ≤ hi) = false := decide_eq_false (by omega)
                      obtain rfl : c = hi + 1 := by omega
                      rw [Rx.upto_rng] at C
                      go_wp2_with fail
                      go_roundw
                      case rel => exact ⟨0 + 1, _, u, by go_num, by omega, Lib.hid (by rw [← HA.out]; exact (Rx.after_some hex HI.out).symm), C⟩
                      case measure => simp [intOf] <;> omega
            · have ehd : (Rx.hd (some r1) == 45) = false := by rw [beq_eq_false_iff_ne]; exact fun e' => hd9 ((Rx.hd_iff (by decide)).1 e')
              have HI := Lib.hid (show Rx.item l' = some ((lo, lo), r1) by rw [Rx.item, HB1.out]; simp only; rw [if_neg hd9])
              have HSE := Lib.hid (refSee_any r a L cap (some r1) big _ C.st)
              generalize Rx.hd (some r1) = c9 at *
              go_wp2_with fail
              refine HSE.out.mono ?_
              rintro e w3 ⟨rfl, q3, hq3⟩
              replace C := C.up (Rx.see_below hq3)
              clear hq3 HSE
              have hit := Rx.item_len HI.out
              obtain ⟨lo, rfl⟩ : ∃ k : Nat, lo = (k : Int) := ⟨lo.toNat, by omega⟩
              have hlh : lo ≤ lo := by omega
              have hh7 : lo ≤ 127 := by omega
              have sb1 := C.st.b.1
              simp only [Option.isNone] at sb1
              have t1 : decide ((lo : Int) < (lo : Int)) = false := decide_eq_false (by omega)
              have t2 : decide (lo < lo) = false := decide_eq_false (by omega)
              have t3 : decide ((lo : Int) > (lo : Int)) = false := decide_eq_false (by omega)
              go_wp2_with fail
              clear sb1
              go_loopw [8] (fun i wr => ∃ c : Nat, lo ≤ c ∧ c ≤ lo + 1 ∧ i = .int .i64 c ∧ Rx.CW w r a L cap big b (some r1) (fun d => f d || Rx.upto lo c d) wr) (fun i _ => lo + 1 - (intOf i).toNat)
              case atStart => exact ⟨lo, Nat.le_refl _, by omega, rfl, by rw [Rx.upto_zero]; simpa using C⟩
              case round =>
                clear C
                obtain ⟨c, hc1, hc2, rfl, C⟩ := hrel
                by_cases hlt : c < lo + 1
                · have e1 : decide ((c : Int) ≤ (lo : Int)) = true := decide_eq_true (by omega)
                  have e2 : decide (c ≤ lo) = true := decide_eq_true (by omega)
                  have w8 : IntKind.u8.wrap (c : Int) = c := by rw [IntKind.wrap_u8']; omega
                  have P := Lib.hid (putB_any (fun d => f d || Rx.upto lo c d) c (by omega) wr)
                  rw [Rx.grow_upto f hc1] at P
                  unfold Bs.val at P
                  have b0 := C.box.cell 0 (by decide); have b1 := C.box.cell 1 (by decide); have b2 := C.box.cell 2 (by decide); have b3 := C.box.cell 3 (by decide)
                  go_wp2_with fail
                  refine P.out.mono ?_
                  rintro e w5 ⟨rfl, hb⟩
                  replace C := C.up hb
                  clear hb P
                  replace b0 := C.box.cell 0 (by decide); replace b1 := C.box.cell 1 (by decide); replace b2 := C.box.cell 2 (by decide); replace b3 := C.box.cell 3 (by decide)
                  have g0 := C.box.frz 0 (by decide); have g1 := C.box.frz 1 (by decide); have g2 := C.box.frz 2 (by decide); have g3 := C.box.frz 3 (by decide)
                  go_wp2_with fail
                  go_roundw
                  case rel => exact ⟨c + 1, by omega, by omega, by go_num, C.put _⟩
                  case measure => simp [intOf] <;> omega
                · have e1 : decide ((c : Int) ≤ (lo : Int)) = false := decide_eq_false (by omega)
                  have e2 : decide (c ≤ lo) = false := decide_eq_false (by omega)
                  obtain rfl : c = lo + 1 := by omega
                  rw [Rx.upto_rng] at C
                  go_wp2_with fail
                  go_roundw
                  case rel => exact ⟨0 + 1, _, r1, by go_num, by omega, Lib.hid (by rw [← HA.out]; exact (Rx.after_some hex HI.out).symm), C⟩
                  case measure => simp [intOf] <;> omega
        · have n0 : ((n : Int) == 0) = false := by simp; omega
          have hh : (Rx.hd (some l') == 93) = false := by rw [beq_eq_false_iff_ne]; exact fun e' => hex ⟨h0, (Rx.hd_iff (by decide)).1 e'⟩
          have hh' : (Rx.hd (some l') != 93) = true := by rw [bne, hh]; rfl
          have HSE := Lib.hid (refSee_any r a L cap (some l') big wr C.st)
          generalize Rx.hd (some l') = c7 at *
          go_wp2_with fail
          refine HSE.out.mono ?_
          rintro e w1 ⟨rfl, q, hq⟩
          replace C := C.up (Rx.see_below hq)
          clear hq HSE sb
          go_wp2_with fail
          have HBD := Lib.hid (refBound_any r a L cap (some l') big _ C.st)
          refine HBD.out.mono ?_
          intro e w2 HO
          clear HBD
          have hbi := fun c u (h : Rx.bound l' = some (c, u)) => Rx.bound_in C.st.nn h
          have HBI := Lib.hid hbi
          clear hbi
          cases hb1 : Rx.bound l' with
          | none =>
            have HI := Lib.hid (show Rx.item l' = none by rw [Rx.item, hb1])
            have HO' := HO
            rw [show (some l').bind Rx.bound = none from hb1] at HO'
            obtain ⟨c2, rfl, S2, G2⟩ := HO'
            replace C := C.on S2 G2
            clear HO S2 G2 hb1 HBI
            have HSE := Lib.hid (refSee_any r a L cap none big _ C.st)
            have ehd : Rx.hd none = -1 := rfl
            rw [ehd] at HSE
            clear ehd
            go_wp2_with fail
            refine HSE.out.mono ?_
            rintro e w3 ⟨rfl, q3, hq3⟩
            replace C := C.up (Rx.see_below hq3)
            clear hq3 HSE
            have HN9 := Lib.hid (show Rx.cls l = none by rw [HC.out, ← HA.out, Rx.after_none hex HI.out]; rfl)
            have sb1 := C.st.b.1
            have sb2 := C.st.b.2
            simp only [Option.isNone] at sb1

            have d0 := C.nod.cell.c0; have d1 := C.nod.cell.c1; have d2 := C.nod.cell.c2; have d3 := C.nod.cell.c3; have d4 := C.nod.cell.c4; have d5 := C.nod.cell.c5
            have y := C.nod.frz
            simp only [Nat.zero_add] at d0 d1 d2 d3 d4 d5
            have y0 := y 0 (by decide); have y1 := y 1 (by decide); have y2 := y 2 (by decide); have y3 := y 3 (by decide); have y4 := y 4 (by decide); have y5 := y 5 (by decide)
            have hqr : w.heap.size ≠ r := by have := C.rq; omega
            have HC9 := Lib.hid C
            clear C y
            go_wp2_with fail
            refine bodyPost_ret (v := Rx.hdr 0 (fun _ => false) none 0 0) (by simp [results, Try.results93, go_sem, Rx.hdr_none, d0, d1, d2, d3, d4, d5, hqr]) rfl ?_
            exact Rx.class_bad HN9.out HC9.out
          | some p9 =>
            obtain ⟨lo, r1⟩ := p9
            have HO' := HO
            rw [show (some l').bind Rx.bound = (some (lo, r1)) from hb1] at HO'
            obtain ⟨rfl, S2, G2⟩ := HO'
            replace C := C.on S2 G2
            have hlo := HBI.out lo r1 hb1
            have HB1 := Lib.hid hb1
            clear HO S2 G2 hb1 HBI
            by_cases hd9 : r1.head? = some 45
            · have ehd := (Rx.hd_iff (l := r1) (c := 45) (by decide)).2 hd9
              have HSE := Lib.hid (refSee_any r a L cap (some r1) big _ C.st)
              rw [ehd] at HSE
              clear ehd
              go_wp2_with fail
              refine HSE.out.mono ?_
              rintro e w3 ⟨rfl, q3, hq3⟩
              replace C := C.up (Rx.see_below hq3)
              clear hq3 HSE
              have HTK := Lib.hid (refTake_any r a L cap (some r1) big _ C.st)
              go_wp2_with fail
              refine HTK.out.mono ?_
              rintro e w4 ⟨rfl, S2, G2⟩
              rw [Rx.tl_some hd9] at S2
              replace C := C.on S2 G2
              clear HTK S2 G2
              have HBD := Lib.hid (refBound_any r a L cap (some (r1.drop 1)) big _ C.st)
              go_wp2_with fail
              refine HBD.out.mono ?_
              intro e w5 HO
              clear HBD
              have HBI := Lib.hid (fun c u (h : Rx.bound (r1.drop 1) = some (c, u)) => Rx.bound_in C.st.nn h)
              cases hb2 : Rx.bound (r1.drop 1) with
              | none =>
                have HI := Lib.hid (show Rx.item l' = none by rw [Rx.item, HB1.out]; simp only; rw [if_pos hd9, hb2])
                have HO' := HO
                rw [show (some (r1.drop 1)).bind Rx.bound = none from hb2] at HO'
                obtain ⟨c2, rfl, S2, G2⟩ := HO'
                replace C := C.on S2 G2
                clear HO S2 G2 hb2 HBI
                have HN9 := Lib.hid (show Rx.cls l = none by rw [HC.out, ← HA.out, Rx.after_none hex HI.out]; rfl)
                have sb1 := C.st.b.1
                have sb2 := C.st.b.2
                simp only [Option.isNone] at sb1

                have d0 := C.nod.cell.c0; have d1 := C.nod.cell.c1; have d2 := C.nod.cell.c2; have d3 := C.nod.cell.c3; have d4 := C.nod.cell.c4; have d5 := C.nod.cell.c5
                have y := C.nod.frz
                simp only [Nat.zero_add] at d0 d1 d2 d3 d4 d5
                have y0 := y 0 (by decide); have y1 := y 1 (by decide); have y2 := y 2 (by decide); have y3 := y 3 (by decide); have y4 := y 4 (by decide); have y5 := y 5 (by decide)
                have hqr : w.heap.size ≠ r := by have := C.rq; omega
                have HC9 := Lib.hid C
                clear C y
                go_wp2_with fail
                refine bodyPost_ret (v := Rx.hdr 0 (fun _ => false) none 0 0) (by simp [results, Try.results93, go_sem, Rx.hdr_none, d0, d1, d2, d3, d4, d5, hqr]) rfl ?_
                exact Rx.class_bad HN9.out HC9.out
              | some p8 =>
                obtain ⟨hi, u⟩ := p8
                have HO' := HO
                rw [show (some (r1.drop 1)).bind Rx.bound = (some (hi, u)) from hb2] at HO'
                obtain ⟨rfl, S2, G2⟩ := HO'
                replace C := C.on S2 G2
                have hhi := HBI.out hi u hb2
                by_cases hgt : hi < lo
                · have HI := Lib.hid (show Rx.item l' = none by rw [Rx.item, HB1.out]; simp only; rw [if_pos hd9, hb2]; simp only; rw [if_pos hgt])
                  clear HO S2 G2 hb2 HBI
                  have HN9 := Lib.hid (show Rx.cls l = none by rw [HC.out, ← HA.out, Rx.after_none hex HI.out]; rfl)
                  have sb1 := C.st.b.1
                  have sb2 := C.st.b.2
                  simp only [Option.isNone] at sb1
                  have t1 : decide (hi < lo) = true := decide_eq_true hgt
                  have t3 : decide (lo > hi) = true := decide_eq_true hgt
                  have d0 := C.nod.cell.c0; have d1 := C.nod.cell.c1; have d2 := C.nod.cell.c2; have d3 := C.nod.cell.c3; have d4 := C.nod.cell.c4; have d5 := C.nod.cell.c5
                  have y := C.nod.frz
                  simp only [Nat.zero_add] at d0 d1 d2 d3 d4 d5
                  have y0 := y 0 (by decide); have y1 := y 1 (by decide); have y2 := y 2 (by decide); have y3 := y 3 (by decide); have y4 := y 4 (by decide); have y5 := y 5 (by decide)
                  have hqr : w.heap.size ≠ r := by have := C.rq; omega
                  have HC9 := Lib.hid C
                  clear C y
                  go_wp2_with fail
                  refine bodyPost_ret (v := Rx.hdr 0 (fun _ => false) none 0 0) (by simp [results, Try.results93, go_sem, Rx.hdr_none, d0, d1, d2, d3, d4, d5, hqr]) rfl ?_
                  exact Rx.class_bad HN9.out HC9.out
                · have HI := Lib.hid (show Rx.item l' = some ((lo, hi), u) by rw [Rx.item, HB1.out]; simp only; rw [if_pos hd9, hb2]; simp only; rw [if_neg hgt])
                  clear HO S2 G2 hb2 HBI
                  have hit := Rx.item_len HI.out
                  obtain ⟨lo, rfl⟩ : ∃ k : Nat, lo = (k : Int) := ⟨lo.toNat, by omega⟩
                  obtain ⟨hi, rfl⟩ : ∃ k : Nat, hi = (k : Int) := ⟨hi.toNat, by omega⟩
                  have hlh : lo ≤ hi := by omega
                  have hh7 : hi ≤ 127 := by omega
                  have sb1 := C.st.b.1
                  simp only [Option.isNone] at sb1
                  have t1 : decide ((hi : Int) < (lo : Int)) = false := decide_eq_false (by omega)
                  have t2 : decide (hi < lo) = false := decide_eq_false (by omega)
                  have t3 : decide ((lo : Int) > (hi : Int)) = false := decide_eq_false (by omega)
                  go_wp2_with fail
                  clear sb1
                  go_loopw [8] (fun i wr => ∃ c : Nat, lo ≤ c ∧ c ≤ hi + 1 ∧ i = .int .i64 c ∧ Rx.CW w r a L cap big b (some u) (fun d => f d || Rx.upto lo c d) wr) (fun i _ => hi + 1 - (intOf i).toNat)
                  case atStart => exact ⟨lo, Nat.le_refl _, by omega, rfl, by rw [Rx.upto_zero]; simpa using C⟩
                  case round =>
                    clear C
                    obtain ⟨c, hc1, hc2, rfl, C⟩ := hrel
                    by_cases hlt : c < hi + 1
                    · have e1 : decide ((c : Int) ≤ (hi : Int)) = true := decide_eq_true (by omega)
                      have e2 : decide (c ≤ hi) = true := decide_eq_true (by omega)
                      have w8 : IntKind.u8.wrap (c : Int) = c := by rw [IntKind.wrap_u8']; omega
                      have P := Lib.hid (putB_any (fun d => f d || Rx.upto lo c d) c (by omega) wr)
                      rw [Rx.grow_upto f hc1] at P
                      unfold Bs.val at P
                      have b0 := C.box.cell 0 (by decide); have b1 := C.box.cell 1 (by decide); have b2 := C.box.cell 2 (by decide); have b3 := C.box.cell 3 (by decide)
                      go_wp2_with fail
                      refine P.out.mono ?_
                      rintro e w5 ⟨rfl, hb⟩
                      replace C := C.up hb
                      clear hb P
                      replace b0 := C.box.cell 0 (by decide); replace b1 := C.box.cell 1 (by decide); replace b2 := C.box.cell 2 (by decide); replace b3 := C.box.cell 3 (by decide)
                      have g0 := C.box.frz 0 (by decide); have g1 := C.box.frz 1 (by decide); have g2 := C.box.frz 2 (by decide); have g3 := C.box.frz 3 (by decide)
                      go_wp2_with fail
                      go_roundw
                      case rel => exact ⟨c + 1, by omega, by omega, by go_num, C.put _⟩
                      case measure => simp [intOf]; omega
                    · have e1 : decide ((c : Int) ≤ (hi : Int)) = false := decide_eq_false (by omega)
                      have e2 : decide (c ≤ hi) = false := decide_eq_false (by omega)
                      obtain rfl : c = hi + 1 := by omega
                      rw [Rx.upto_rng] at C
                      go_wp2_with fail
                      go_roundw
                      case rel => exact ⟨n + 1, _, u, by go_num, by omega, Lib.hid (by rw [← HA.out]; exact (Rx.after_some hex HI.out).symm), C⟩
                      case measure => simp [intOf]; omega
            · have ehd : (Rx.hd (some r1) == 45) = false := by rw [beq_eq_false_iff_ne]; exact fun e' => hd9 ((Rx.hd_iff (by decide)).1 e')
              have HI := Lib.hid (show Rx.item l' = some ((lo, lo), r1) by rw [Rx.item, HB1.out]; simp only; rw [if_neg hd9])
              have HSE := Lib.hid (refSee_any r a L cap (some r1) big _ C.st)
              generalize Rx.hd (some r1) = c9 at *
              go_wp2_with fail
              refine HSE.out.mono ?_
              rintro e w3 ⟨rfl, q3, hq3⟩
              replace C := C.up (Rx.see_below hq3)
              clear hq3 HSE
              have hit := Rx.item_len HI.out
              obtain ⟨lo, rfl⟩ : ∃ k : Nat, lo = (k : Int) := ⟨lo.toNat, by omega⟩
              have hlh : lo ≤ lo := by omega
              have hh7 : lo ≤ 127 := by omega
              have sb1 := C.st.b.1
              simp only [Option.isNone] at sb1
              have t1 : decide ((lo : Int) < (lo : Int)) = false := decide_eq_false (by omega)
              have t2 : decide (lo < lo) = false := decide_eq_false (by omega)
              have t3 : decide ((lo : Int) > (lo : Int)) = false := decide_eq_false (by omega)
              go_wp2_with fail
              clear sb1
              go_loopw [8] (fun i wr => ∃ c : Nat, lo ≤ c ∧ c ≤ lo + 1 ∧ i = .int .i64 c ∧ Rx.CW w r a L cap big b (some r1) (fun d => f d || Rx.upto lo c d) wr) (fun i _ => lo + 1 - (intOf i).toNat)
              case atStart => exact ⟨lo, Nat.le_refl _, by omega, rfl, by rw [Rx.upto_zero]; simpa using C⟩
              case round =>
                clear C
                obtain ⟨c, hc1, hc2, rfl, C⟩ := hrel
                by_cases hlt : c < lo + 1
                · have e1 : decide ((c : Int) ≤ (lo : Int)) = true := decide_eq_true (by omega)
                  have e2 : decide (c ≤ lo) = true := decide_eq_true (by omega)
                  have w8 : IntKind.u8.wrap (c : Int) = c := by rw [IntKind.wrap_u8']; omega
                  have P := Lib.hid (putB_any (fun d => f d || Rx.upto lo c d) c (by omega) wr)
                  rw [Rx.grow_upto f hc1] at P
                  unfold Bs.val at P
                  have b0 := C.box.cell 0 (by decide); have b1 := C.box.cell 1 (by decide); have b2 := C.box.cell 2 (by decide); have b3 := C.box.cell 3 (by decide)
                  go_wp2_with fail
                  refine P.out.mono ?_
                  rintro e w5 ⟨rfl, hb⟩
                  replace C := C.up hb
                  clear hb P
                  replace b0 := C.box.cell 0 (by decide); replace b1 := C.box.cell 1 (by decide); replace b2 := C.box.cell 2 (by decide); replace b3 := C.box.cell 3 (by decide)
                  have g0 := C.box.frz 0 (by decide); have g1 := C.box.frz 1 (by decide); have g2 := C.box.frz 2 (by decide); have g3 := C.box.frz 3 (by decide)
                  go_wp2_with fail
                  go_roundw
                  case rel => exact ⟨c + 1, by omega, by omega, by go_num, C.put _⟩
                  case measure => simp [intOf]; omega
                · have e1 : decide ((c : Int) ≤ (lo : Int)) = false := decide_eq_false (by omega)
                  have e2 : decide (c ≤ lo) = false := decide_eq_false (by omega)
                  obtain rfl : c = lo + 1 := by omega
                  rw [Rx.upto_rng] at C
                  go_wp2_with fail
                  go_roundw
                  case rel => exact ⟨n + 1, _, r1, by go_num, by omega, Lib.hid (by rw [← HA.out]; exact (Rx.after_some hex HI.out).symm), C⟩
                  case measure => simp [intOf]; omega
end Go.Proofs.Ytigdelfoipcilaa
