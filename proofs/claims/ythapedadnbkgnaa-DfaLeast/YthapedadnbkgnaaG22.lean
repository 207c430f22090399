/- The program's reader of expressions: what rep answers, walked. The program's reader of expressions: what cat answers, walked. The program's reader of expressions: what alt, and with it atom, rep and cat, answer, walked. The program's reader of expressions: what read and Parse answer, walked. -/
import Derived.Test.YthapedadnbkgnaaG21
import Derived.Recover
namespace Go.Proofs.Ythapedadnbkgnaa
set_option linter.unusedVariables false
set_option linter.unusedSimpArgs false
open Go.RowKit
def Px.postS : ByteArray := ⟨#[42, 43, 63]⟩
theorem Px.post_one (c : Int) (u : List Int) : Px.oneOf Px.postS.data.toList (c :: u) = (c == 42 || c == 43 || c == 63) := by
  rw [Bool.eq_iff_iff]
  simp [Px.oneOf, Px.postS]
  omega
theorem Px.post_cons (x : Rx) (c : Int) (u : List Int) (h : Px.oneOf Px.postS.data.toList (c :: u) = true) : Rx.post x (c :: u) = Rx.post (Px.rept x c) u := by
  rw [Px.post_one] at h
  simp only [Bool.or_eq_true, beq_iff_eq] at h
  rw [Rx.post]
  unfold Px.rept
  by_cases h1 : c = 42
  · simp [h1]
  · by_cases h2 : c = 43
    · simp [h2]
    · have h3 : c = 63 := by omega
      simp [h3]
theorem Px.post_end (x : Rx) (u : List Int) (h : Px.oneOf Px.postS.data.toList u = false) : Rx.post x u = (x, u) := by
  cases u with
  | nil => rfl
  | cons c u =>
    rw [Px.post_one] at h
    simp only [Bool.or_eq_false_iff, beq_eq_false_iff_ne] at h
    rw [Rx.post, if_neg h.1.1, if_neg h.1.2, if_neg h.2]
theorem Px.rept_may {x : Rx} {c : Int} (h : (Px.rept x c).may 1 = true) : x.may 1 = true := by
  unfold Px.rept at h
  split at h
  · exact Rx.may_part h (by simp)
  · split at h
    · exact Rx.may_part h (by simp)
    · exact Rx.may_part h (by simp)
theorem Px.rept_size (x : Rx) (c : Int) : (Px.rept x c).size ≤ 2 * x.size + 2 := by
  unfold Px.rept
  split
  · simp [Rx.star, Rx.size, Rx.sizeL]; omega
  · split
    · simp [Rx.plus, Rx.star, Rx.size, Rx.sizeL]; omega
    · simp [Rx.opt, Rx.nil, Rx.size, Rx.sizeL]; omega
def Px.relR (r : Nat) (y : Rx) (h : Value) (c : Int) (B : Nat → Prop) : List (Value → World → Prop) := [
  fun v _ => v = h,
  fun v _ => v = .pointer (some ⟨r, 0, none⟩),
  fun v _ => v = .int .i64 c,
  fun v w => Rx.IsB w B (Px.rept y c) v]
theorem Px.relR_up {r : Nat} {y : Rx} {h : Value} {c : Int} {B : Nat → Prop} (hB : ∀ k, B k → k ≠ r) {i : Nat} {v : Value} {w w' : World} (hR : Rg.rel (Px.relR r y h c B) i v w) (hg : w.grownBy w' (some r)) : Rg.rel (Px.relR r y h c B) i v w' := by
  match i, hR with
  | 0, h => exact h
  | 1, h => exact h
  | 2, h => exact h
  | 3, h => exact Rx.IsB.grown hg (fun k hk e => hB k hk (by injection e)) h
  | _ + 4, _ => trivial
structure Px.WR (w0 : World) (r : Nat) (big : Bool) (X : Nat) (y : Rx) (k : Nat) (f : Nat → Bool) (a : Option Addr) (n cap : Nat) (B : Nat → Prop) (t u : List Int) (L : Nat → Bool) (w : World) : Prop where
  var : Rx.Nod w X k f a n cap
  is : Rx.IsB w B y (Rx.hdr k f a n cap)
  nod : Rx.Nod w w0.heap.size 0 (fun _ => false) none 0 0
  gr : w0.grownBy w (some r)
  st : Px.St w r (if L 2 then u else t) big
theorem Px.WR.up {w0 : World} {r : Nat} {big : Bool} {X : Nat} {y : Rx} {k : Nat} {f : Nat → Bool} {a : Option Addr} {n cap : Nat} {B : Nat → Prop} {t u : List Int} {L : Nat → Bool} {w w' : World} (h : Px.WR w0 r big X y k f a n cap B t u L w) (hb : Below w.heap.size w w') : Px.WR w0 r big X y k f a n cap B t u L w' := ⟨h.var.up hb, h.is.up hb, h.nod.up hb, Px.grown_up h.gr hb, h.st.up hb⟩
theorem Px.WR.on {w0 : World} {r : Nat} {big : Bool} {X : Nat} {y : Rx} {k : Nat} {f : Nat → Bool} {a : Option Addr} {n cap : Nat} {B : Nat → Prop} {t u : List Int} {L : Nat → Bool} {w : World} (i : Nat) (hi2 : i ≠ 2) (h : Px.WR w0 r big X y k f a n cap B t u L w) : Px.WR w0 r big X y k f a n cap B t u (fun k => decide (k = i) || L k) w := ⟨h.var, h.is, h.nod, h.gr, by simpa [Ne.symm hi2] using h.st⟩
set_option maxRecDepth 100000 in
set_option maxHeartbeats 2000000 in
theorem rep_any (r : Nat) (t : List Int) (big : Bool) (w : World) (h : Px.St w r t big) (hl100 : t.length ≤ 100)
    (hatom : ∀ (w : World), Px.St w r t big → Calls Try.prog 92 #[.pointer (some ⟨r, 0, none⟩)] w (Px.AP w r big t.length 0 (Px.atom t))) :
    Calls Try.prog 83 #[.pointer (some ⟨r, 0, none⟩)] w (Px.AP w r big t.length 0 (Rx.rep t)) := by
  have hr := h.lt
  have nr : w.heap.size ≠ r := by omega
  have N := Rx.nod_zero w
  have A := Bs.below1 w (.cells #[.int .u8 0, .int .u64 0, .int .u64 0, .int .u64 0, .int .u64 0, .slice none 0 0] 28)
  have G0 := Rx.grown_of r A
  have HAT := Lib.hid (hatom _ (h.up A))
  have HR := Lib.hid (Px.rep_atom t)
  clear A h hatom
  go_enter Try.func83, Try.ntmps83
  go_wp2_with fail
  generalize w.alloc (.cells #[.int .u8 0, .int .u64 0, .int .u64 0, .int .u64 0, .int .u64 0, .slice none 0 0] 28) = W at *
  have hsz : w.heap.size + 1 ≤ W.heap.size := N.lt
  refine HAT.out.mono ?_
  intro e w1 hP
  clear HAT
  cases ha : Px.atom t with
  | none =>
    rw [ha] at hP HR
    obtain ⟨rfl, g⟩ := hP
    exact ⟨rfl, by rw [HR.out]; exact rfl, G0.trans g⟩
  | some p =>
    obtain ⟨x0, u0⟩ := p
    rw [ha] at hP HR
    have hlen := Px.atom_len ha
    obtain ⟨⟨y0, β0, ⟨v, rfl, hy⟩, hb1, hb2, hs, h⟩, g⟩ := hP
    replace N := N.grown g nr
    replace G0 := G0.trans g
    obtain ⟨k0, f0, a0, n0, cap0, rfl⟩ := hy.form
    have hX : w.heap.size < w1.heap.size := N.lt
    have hXr : w1.heap.size ≠ r := by have := h.lt; omega
    have Y := hy.lt.mono (B' := fun j => w.heap.size + 1 ≤ j ∧ j ≠ w1.heap.size) (fun j hj => ⟨by omega, by omega⟩)
    clear hy g ha
    have A := Bs.below1 w1 (.cells #[.int .u8 k0, .int .u64 (Bs.word f0 0), .int .u64 (Bs.word f0 1), .int .u64 (Bs.word f0 2), .int .u64 (Bs.word f0 3), .slice a0 n0 cap0] 28)
    have V := Rx.nod_new w1 k0 f0 a0 n0 cap0
    replace N := N.up A
    replace G0 := Px.grown_up G0 A
    replace h := h.up A
    replace Y := Y.up A
    clear A
    unfold Rx.hdr
    have HR2 := Lib.hid (show Rx.rep t = some (Rx.post x0 u0) by rw [HR.out]; rfl)
    clear HR
    go_wp2_with fail
    have hsX : w1.heap.size + 1 ≤ (w1.alloc (.cells #[.int .u8 k0, .int .u64 (Bs.word f0 0), .int .u64 (Bs.word f0 1), .int .u64 (Bs.word f0 2), .int .u64 (Bs.word f0 3), .slice a0 n0 cap0] 28)).heap.size := V.lt
    generalize w1.alloc (.cells #[.int .u8 k0, .int .u64 (Bs.word f0 0), .int .u64 (Bs.word f0 1), .int .u64 (Bs.word f0 2), .int .u64 (Bs.word f0 3), .slice a0 n0 cap0] 28) = V1 at *
    generalize w1.heap.size = X at *
    go_loopg [] u0.length (fun gg wr => ∃ (x y : Rx) (β : Bool) (u : List Int) (k : Nat) (f : Nat → Bool) (a : Option Addr) (n cap : Nat), gg = u.length ∧ Rx.rep t = some (Rx.post x u) ∧ (β = false → y = x) ∧ (β = true → x.may 1 = false) ∧ y.size + 500 * u.length ≤ 500 * t.length ∧ Rx.Nod wr X k f a n cap ∧ Rx.IsB wr (fun j => w.heap.size + 1 ≤ j ∧ j ≠ X) y (Rx.hdr k f a n cap) ∧ Rx.Nod wr w.heap.size 0 (fun _ => false) none 0 0 ∧ w.grownBy wr (some r) ∧ Px.St wr r u (big || β))
    case atStart => exact ⟨x0, y0, β0, u0, k0, f0, a0, n0, cap0, rfl, HR2.out, hb1, hb2, by omega, V, Y, N, G0, h⟩
    case round =>
      clear N G0 h V Y HR2 hb1 hb2 hs
      obtain ⟨x, y, β, u, k, f, a, n, cap, hgu, hR, hb1, hb2, hs, V, Y, N, G0, h⟩ := hrel
      have HR2 := Lib.hid hR
      clear hR
      have AT := Lib.hid (at_any r u (big || β) Px.postS (by decide) wr h)
      go_wp2_with fail
      refine AT.out.mono ?_
      rintro e w2 ⟨rfl, rfl⟩
      clear AT
      cases ho : Px.oneOf Px.postS.data.toList u
      · have HR3 := Lib.hid (show Rx.rep t = some (x, u) by rw [HR2.out, Px.post_end x u ho])
        clear HR2 ho
        obtain ⟨⟨c0, c1, c2, c3, c4, c5⟩, _⟩ := V
        obtain ⟨⟨d0, d1, d2, d3, d4, d5⟩, z⟩ := N
        simp only [Nat.zero_add] at c0 c1 c2 c3 c4 c5 d0 d1 d2 d3 d4 d5
        have y0 := z 0 (by decide); have y1 := z 1 (by decide); have y2 := z 2 (by decide); have y3 := z 3 (by decide); have y4 := z 4 (by decide); have y5 := z 5 (by decide)
        have H := Lib.hid h
        have HX := Lib.hid Y
        clear z h Y
        go_wp2_with fail
        refine bodyPost_ret (v := Rx.hdr k f a n cap) (by simp [results, Try.results83, go_sem, Rx.hdr, d0, d1, d2, d3, d4, d5]) rfl ⟨?_, ?_⟩
        · rw [HR3.out]
          exact ⟨y, β, ⟨_, rfl, (HX.out.wr (b := w.heap.size) (by omega) k f a n cap).mono (fun j hj => by omega)⟩, hb1, hb2, by omega, H.out.wr nr k f a n cap⟩
        · exact Rx.wr_far G0 (Nat.le_refl _) k f a n cap
      · cases u with
        | nil => simp [Px.oneOf] at ho
        | cons c u =>
          have HR3 := Lib.hid (show Rx.rep t = some (Rx.post (Px.rept x c) u) by rw [HR2.out, Px.post_cons x c u ho])
          have hys := Px.rept_size y c
          clear HR2 ho
          simp only [List.length_cons] at hs hgu
          go_upto_region 3 with fail
          have WR : Px.WR w r (big || β) X y k f a n cap (fun j => w.heap.size + 1 ≤ j ∧ j ≠ X) (c :: u) u (fun _ => false) w2 := ⟨V, Y, N, G0, h⟩
          have hsz2 : X + 1 ≤ w2.heap.size := V.lt
          clear V Y N G0 h
          refine Rg.regionZ (by kernel_rfl) (by kernel_rfl) (by kernel_rfl) (by decide) (Rg.rel (Px.relR r y (Rx.hdr k f a n cap) c (fun j => w.heap.size + 1 ≤ j ∧ j ≠ X))) (Px.WR w r (big || β) X y k f a n cap (fun j => w.heap.size + 1 ≤ j ∧ j ≠ X) (c :: u) u) (fun _ w w' => w.grownBy w' (some r)) (fun _ _ => False) (fun c b x _ h => h.elim) (fun i j v w w' _ h hb => Px.relR_up (fun k hk => by omega) h hb) (WR.up (Below.refl _ _).drew) ⟨?_, ?_, ?_, ?_, trivial⟩ ?_
          · intro L f' q hL hw hd
            have HW := Lib.hid hw
            clear hw hd
            simp only [Rg.stepZ, Rg.all, Act.put, List.setIfInBounds_toArray, List.set_cons_zero, List.set_cons_succ]
            have c0 := HW.out.var.cell.c0; have c1 := HW.out.var.cell.c1; have c2 := HW.out.var.cell.c2; have c3 := HW.out.var.cell.c3; have c4 := HW.out.var.cell.c4; have c5 := HW.out.var.cell.c5
            simp only [Nat.zero_add] at c0 c1 c2 c3 c4 c5
            go_simp
            exact ⟨rfl, HW.out.on 0 (by decide), World.grownBy.refl _ _⟩
          · intro L f' q hL hw hd
            have HW := Lib.hid hw
            clear hw hd
            simp only [Rg.stepZ, Rg.all, Act.put, List.setIfInBounds_toArray, List.set_cons_zero, List.set_cons_succ]
            go_simp
            exact ⟨rfl, HW.out.on 1 (by decide), World.grownBy.refl _ _⟩
          · intro L f' q hL hw hd
            have r1 : f' 1 = .pointer (some ⟨r, 0, none⟩) := (hd _ (List.mem_cons_self ..)).2
            have HW := Lib.hid hw
            clear hw hd
            simp only [Rg.stepZ, Rg.all, Act.put, List.setIfInBounds_toArray, List.set_cons_zero, List.set_cons_succ]
            go_simp
            have hst := HW.out.st
            rw [hL] at hst
            refine (psign_any r (c :: u) (big || β) q hst).mono ?_
            rintro e q1 ⟨⟨rfl, h⟩, hg⟩
            exact ⟨_, rfl, rfl, ⟨HW.out.var.grown hg hXr, HW.out.is.grown hg (fun j hj e => by injection e with e; omega), HW.out.nod.grown hg nr, HW.out.gr.trans hg, by simpa using h⟩, hg⟩
          · intro L f' q hL hw hd
            have r0 : f' 0 = Rx.hdr k f a n cap := (hd _ (List.mem_cons_self ..)).2
            have r2 : f' 2 = .int .i64 c := (hd _ (List.mem_cons_of_mem _ (List.mem_cons_self ..))).2
            have HW := Lib.hid hw
            have hq : X + 1 ≤ q.heap.size := hw.var.lt
            clear hw hd
            simp only [Rg.stepZ, Rg.all, Act.put, List.setIfInBounds_toArray, List.set_cons_zero, List.set_cons_succ]
            go_simp
            refine (repeated_any y _ c (fun j => w.heap.size + 1 ≤ j ∧ j ≠ X) q (fun j hj => ⟨by omega, by omega⟩) HW.out.is (by omega)).mono ?_
            rintro e q1 ⟨v, rfl, hy, hb⟩
            exact ⟨_, rfl, hy, (HW.out.up hb).on 3 (by decide), Rx.grown_of r hb⟩
          · intro L f' q hall hw hRR o ho
            have r3 : Rx.IsB q (fun j => w.heap.size + 1 ≤ j ∧ j ≠ X) (Px.rept y c) (f' 3) := hRR 3 (by decide)
            have hst := hw.st
            rw [if_pos (hall 2 (by decide))] at hst
            have V := hw.var
            have N := hw.nod
            have G1 := hw.gr
            simp at ho
            subst ho
            simp only [Rg.stepZ, Rg.all, Act.put, List.setIfInBounds_toArray, List.set_cons_zero, List.set_cons_succ]
            have q0 := r3.form
            obtain ⟨k9, f9, a9, n9, c9, e9⟩ := q0
            rw [e9] at r3
            have HY := Lib.hid r3
            have HV := Lib.hid V
            have HN := Lib.hid N
            have HG := Lib.hid G1
            have HS := Lib.hid hst
            have d0 := V.cell.c0; have d1 := V.cell.c1; have d2 := V.cell.c2; have d3 := V.cell.c3; have d4 := V.cell.c4; have d5 := V.cell.c5
            have z := V.frz
            simp only [Nat.zero_add] at d0 d1 d2 d3 d4 d5
            have y0 := z 0 (by decide); have y1 := z 1 (by decide); have y2 := z 2 (by decide); have y3 := z 3 (by decide); have y4 := z 4 (by decide); have y5 := z 5 (by decide)
            clear z V N G1 hst hw hRR hall WR r3
            unfold Rx.hdr at e9
            go_simp
            have V2 := HV.out.wr k9 f9 a9 n9 c9
            have Y2 := HY.out.wr (b := X) (by omega) k9 f9 a9 n9 c9
            have N2 := HN.out.grown (show q.grownBy (Rx.wr q X k9 f9 a9 n9 c9) (some X) from Rx.grown_set (Rx.grown_set (Rx.grown_set (Rx.grown_set (Rx.grown_set (Rx.grown_set (Rx.grown_of X (Below.refl _ _)) _ _) _ _) _ _) _ _) _ _) _ _) (by omega)
            have G2 := Rx.wr_far HG.out (b := X) (by omega) k9 f9 a9 n9 c9
            have S2 := HS.out.wr hXr k9 f9 a9 n9 c9
            clear HV HY HN HG HS d0 d1 d2 d3 d4 d5 y0 y1 y2 y3 y4 y5
            have hfold : ((((((q.setCell ⟨X, 0, none⟩ (.int .u8 k9)).setCell ⟨X, 1, none⟩ (.int .u64 (Bs.word f9 0))).setCell ⟨X, 2, none⟩ (.int .u64 (Bs.word f9 1))).setCell ⟨X, 3, none⟩ (.int .u64 (Bs.word f9 2))).setCell ⟨X, 4, none⟩ (.int .u64 (Bs.word f9 3))).setCell ⟨X, 5, none⟩ (.slice a9 n9 c9)) = Rx.wr q X k9 f9 a9 n9 c9 := rfl
            rw [hfold]
            generalize Rx.wr q X k9 f9 a9 n9 c9 = Q at *
            clear e9 hfold
            generalize f' 0 = v8 at *
            generalize f' 1 = v9 at *
            generalize f' 2 = v10 at *
            clear f'
            have c0 := V2.cell.c0; have c1 := V2.cell.c1; have c2 := V2.cell.c2; have c3 := V2.cell.c3; have c4 := V2.cell.c4; have c5 := V2.cell.c5
            simp only [Nat.zero_add] at c0 c1 c2 c3 c4 c5
            have RT := Lib.hid (Right_any (Px.rept y c) _ Q Y2.is)
            unfold Rx.hdr at RT
            go_wp2_with fail
            refine RT.out.mono ?_
            rintro e Q1 ⟨rfl, hb⟩
            replace V2 := V2.up hb
            replace Y2 := Y2.up hb
            replace N2 := N2.up hb
            replace G2 := Px.grown_up G2 hb
            replace S2 := S2.up hb
            clear hb RT c0 c1 c2 c3 c4 c5
            cases hm : (Px.rept y c).may 1
            · have HB := Lib.hid (show (Px.rept x c).may 1 = false by
                cases β
                · rw [hb1 rfl] at hm; exact hm
                · cases h9 : (Px.rept x c).may 1
                  · rfl
                  · have := Px.rept_may h9; rw [hb2 rfl] at this; simp at this)
              obtain ⟨s, s0, _⟩ := S2.c0
              have s1 := S2.c1
              have sz1 := S2.z1
              have nX : X ≠ r := hXr
              have d0 := V2.cell.c0; have d1 := V2.cell.c1; have d2 := V2.cell.c2; have d3 := V2.cell.c3; have d4 := V2.cell.c4; have d5 := V2.cell.c5
              have z := V2.frz
              simp only [Nat.zero_add] at d0 d1 d2 d3 d4 d5
              have y0 := z 0 (by decide); have y1 := z 1 (by decide); have y2 := z 2 (by decide); have y3 := z 3 (by decide); have y4 := z 4 (by decide); have y5 := z 5 (by decide)
              have HV := Lib.hid V2
              have HN := Lib.hid N2
              have HG := Lib.hid G2
              have HS := Lib.hid S2
              clear z V2 N2 G2 S2 Y2 hm
              have n2 : r ≠ X := Ne.symm hXr
              go_wp2_with fail
              have g1 : Q1.grownBy (Q1.setCell ⟨r, 1, none⟩ (.bool true)) (some r) := Rx.grown_set (Rx.grown_of r (Below.refl _ _)) _ _
              have V3 := (HV.out.grown g1 hXr).wr 0 (fun _ => false) none 0 0
              have N3 := (HN.out.grown g1 nr).grown (show (Q1.setCell ⟨r, 1, none⟩ (.bool true)).grownBy (Rx.wr (Q1.setCell ⟨r, 1, none⟩ (.bool true)) X 0 (fun _ => false) none 0 0) (some X) from Rx.grown_set (Rx.grown_set (Rx.grown_set (Rx.grown_set (Rx.grown_set (Rx.grown_set (Rx.grown_of X (Below.refl _ _)) _ _) _ _) _ _) _ _) _ _) _ _) (by omega)
              have G3 := Rx.wr_far (HG.out.trans g1) (b := X) (by omega) 0 (fun _ => false) none 0 0
              have S3 := (HS.out.big true).wr hXr 0 (fun _ => false) none 0 0
              have hfold : ((((((Q1.setCell ⟨r, 1, none⟩ (.bool true)).setCell ⟨X, 0, none⟩ (.int .u8 0)).setCell ⟨X, 1, none⟩ (.int .u64 0)).setCell ⟨X, 2, none⟩ (.int .u64 0)).setCell ⟨X, 3, none⟩ (.int .u64 0)).setCell ⟨X, 4, none⟩ (.int .u64 0)).setCell ⟨X, 5, none⟩ (.slice none 0 0) = Rx.wr (Q1.setCell ⟨r, 1, none⟩ (.bool true)) X 0 (fun _ => false) none 0 0 := by simp [Rx.wr, Bs.word_none]
              rw [hfold]
              go_roundg (u.length)
              case measure => omega
              refine ⟨Px.rept x c, Rx.nil, true, u, 0, fun _ => false, none, 0, 0, rfl, HR3.out, fun e => by simp at e, fun _ => HB.out, ?_, V3, Rx.isB_nil _ _, N3, G3, by rw [Bool.or_true]; exact S3⟩
              have := y.size_pos
              simp [Rx.nil, Rx.size, Rx.sizeL]; omega
            · have HB1 := Lib.hid (show β = false → Px.rept y c = Px.rept x c from fun e => by rw [hb1 e])
              have HB2 := Lib.hid (show β = true → (Px.rept x c).may 1 = false from fun e => by
                cases h9 : (Px.rept x c).may 1
                · rfl
                · have := Px.rept_may h9; rw [hb2 e] at this; simp at this)
              have hs2 := Px.size_may hm
              have HV := Lib.hid V2
              have HN := Lib.hid N2
              have HG := Lib.hid G2
              have HS := Lib.hid S2
              have HY := Lib.hid Y2
              clear V2 N2 G2 S2 Y2 hm
              go_wp2_with fail
              go_roundg (u.length)
              case measure => omega
              exact ⟨Px.rept x c, Px.rept y c, β, u, k9, f9, a9, n9, c9, rfl, HR3.out, HB1.out, HB2.out, by have := y.size_pos; omega, HV.out, HY.out, HN.out, HG.out, HS.out⟩
open Go.RowKit
def Px.barS : ByteArray := ⟨#[124, 41]⟩
theorem Px.bar_one (c : Int) (u : List Int) : Px.oneOf Px.barS.data.toList (c :: u) = (c == 124 || c == 41) := by
  rw [Bool.eq_iff_iff]
  simp [Px.oneOf, Px.barS]
  omega
theorem Px.cat_end {u : List Int} (h : u = [] ∨ Px.oneOf Px.barS.data.toList u = true) : Rx.cat u = some ([], u) := by
  rw [Rx.cat_eq, if_pos]
  cases u with
  | nil => exact .inl (.inl rfl)
  | cons c u =>
    rcases h with h | h
    · simp at h
    · rw [Px.bar_one] at h
      simp only [Bool.or_eq_true, beq_iff_eq] at h
      rcases h with h | h
      · exact .inl (.inr (by simp [h]))
      · exact .inr (by simp [h])
theorem Px.cat_on {c : Int} {u : List Int} (h : Px.oneOf Px.barS.data.toList (c :: u) = false) : Rx.cat (c :: u) = match Rx.rep (c :: u) with
    | none => none
    | some (x, r) => match Rx.cat r with
      | none => none
      | some (xs, t) => some (x :: xs, t) := by
  rw [Px.bar_one] at h
  simp only [Bool.or_eq_false_iff, beq_eq_false_iff_ne] at h
  rw [Rx.cat_eq, if_neg (by simp [h.1, h.2])]
  rfl
theorem Px.sizeL_snoc (l : List Rx) (x : Rx) : Rx.sizeL (l ++ [x]) = Rx.sizeL l + x.size := by
  induction l with
  | nil => simp [Rx.sizeL]
  | cons y t ih => simp only [List.cons_append, Rx.sizeL, ih]; omega
theorem Px.join_size (k : Nat) (l : List Rx) : (Px.join k l).size ≤ Rx.sizeL l + 1 := by
  cases l with
  | nil => simp [Px.join, Rx.nil, Rx.size, Rx.sizeL]
  | cons x r =>
    cases r with
    | nil => simp [Px.join, Rx.sizeL]
    | cons y r => simp [Px.join, Rx.size]; omega
theorem Px.grown_own {w v v' : World} {row own : Option Nat} (h : w.grownBy v row) (g : v.grownBy v' own) (ho : ∀ k, own = some k → w.heap.size ≤ k) : w.grownBy v' row :=
  ⟨g.os.trans h.os, g.tape.trans h.tape, g.output.trans h.output, Nat.le_trans h.size g.size, fun k hk hn => (g.block k (Nat.lt_of_lt_of_le hk h.size) (fun e => by have := ho k e.symm; omega)).trans (h.block k hk hn)⟩
theorem Px.St.own {w w' : World} {r : Nat} {t : List Int} {big : Bool} {own : Option Nat} (h : Px.St w r t big) (g : w.grownBy w' own) (ho : ∀ k, own = some k → k ≠ r) : Px.St w' r t big := by
  have hl := h.lt
  have hne : some r ≠ own := fun e => ho r e.symm rfl
  obtain ⟨s, h0, hs⟩ := h.c0
  exact ⟨⟨s, g.cell h0 hne, hs⟩, g.cell h.c1 hne, by rw [g.frozen_far _ hl hne]; exact h.z0, by rw [g.frozen_far _ hl hne]; exact h.z1, fun j v hv => h.only j v (by rw [← g.cell_far ⟨r, j, none⟩ hl hne]; exact hv)⟩
set_option maxRecDepth 100000 in
set_option maxHeartbeats 2000000 in
theorem cat_any (r : Nat) (t : List Int) (big : Bool) (w : World) (h : Px.St w r t big) (hl100 : t.length ≤ 100)
    (hrep : ∀ (u : List Int) (b : Bool) (w : World), u.length ≤ t.length → Px.St w r u b → Calls Try.prog 83 #[.pointer (some ⟨r, 0, none⟩)] w (Px.AP w r b u.length 0 (Rx.rep u))) :
    Calls Try.prog 62 #[.pointer (some ⟨r, 0, none⟩)] w (Px.AP w r big t.length 1 ((Rx.cat t).map fun p => (Rx.catOf p.1, p.2))) := by
  have hr := h.lt
  have nr : w.heap.size ≠ r := by omega
  have N := Rx.nod_zero w
  have A := Bs.below1 w (.cells #[.int .u8 0, .int .u64 0, .int .u64 0, .int .u64 0, .int .u64 0, .slice none 0 0] 28)
  have G0 := Rx.grown_of r A
  replace h := h.up A
  have HREP := Lib.hid hrep
  clear A hrep
  go_enter Try.func62, Try.ntmps62
  go_wp2_with fail
  generalize w.alloc (.cells #[.int .u8 0, .int .u64 0, .int .u64 0, .int .u64 0, .int .u64 0, .slice none 0 0] 28) = W at *
  go_loopg [3] t.length (fun gg v wr => ∃ (xs ys : List Rx) (β : Bool) (u : List Int), gg = u.length ∧ u.length ≤ t.length ∧ Rx.cat t = (Rx.cat u).map (fun p => (xs ++ p.1, p.2)) ∧ (β = false → ys = xs) ∧ (β = true → ∃ x ∈ xs, x.may 1 = false) ∧ Rx.sizeL ys + 500 * u.length ≤ 500 * t.length ∧ Rx.Own (w.heap.size + 1) v ys wr ∧ Rx.Nod wr w.heap.size 0 (fun _ => false) none 0 0 ∧ w.grownBy wr (some r) ∧ Px.St wr r u (big || β))
  case atStart =>
    refine ⟨[], [], false, t, rfl, Nat.le_refl _, ?_, fun _ => rfl, fun e => by simp at e, by simp [Rx.sizeL], Rx.own_nil _ _, N, G0, by rw [Bool.or_false]; exact h⟩
    cases Rx.cat t <;> simp
  case round =>
    clear N G0 h
    obtain ⟨xs, ys, β, u, hgu, hul, hc, hb1, hb2, hs, O, N, G0, h⟩ := hrel
    have HC := Lib.hid hc
    clear hc
    have hyl := Rx.length_le ys
    obtain ⟨s, s0, hS⟩ := h.c0
    by_cases hend : u = [] ∨ Px.oneOf Px.barS.data.toList u = true
    · -- the end of a CAT
      have HC2 := Lib.hid (show (Rx.cat t).map (fun p => (Rx.catOf p.1, p.2)) = some (Rx.catOf xs, u) by rw [HC.out, Px.cat_end hend]; simp)
      have HK : ∀ (e : Nat), True := fun _ => trivial
      have key : ∀ (K : Prop), K → K := fun _ h => h
      obtain ⟨a', cap', rfl, R⟩ := O.slice
      have J := Lib.hid (joined_any 2 (by decide) ys a' cap' _ wr R)
      have hjs := Px.join_size 2 ys
      rw [Px.join_cat] at J hjs
      have HB1 := Lib.hid (show β = false → Rx.catOf ys = Rx.catOf xs from fun e => by rw [hb1 e])
      have HB2 := Lib.hid (show β = true → (Rx.catOf xs).may 1 = false from fun e => by
        obtain ⟨x, hx, hm⟩ := hb2 e
        cases h9 : (Rx.catOf xs).may 1
        · rfl
        · have := Rx.may_catOf h9 hx; rw [hm] at this; simp at this)
      clear HC O R HK key
      rcases u with _ | ⟨c, u⟩
      · have e0 := Px.empty hS.nil
        clear hend hS
        go_wp2_with fail
        refine J.out.mono ?_
        rintro e w2 ⟨v2, rfl, hy, hb⟩
        replace N := N.up hb
        replace G0 := Px.grown_up G0 hb
        replace h := h.up hb
        clear hb J s0 e0
        obtain ⟨k, f, a, n, cap, rfl⟩ := hy.form
        have HY := Lib.hid hy
        have H := Lib.hid h
        clear hy h
        obtain ⟨⟨d0, d1, d2, d3, d4, d5⟩, z⟩ := N
        simp only [Nat.zero_add] at d0 d1 d2 d3 d4 d5
        have y0 := z 0 (by decide); have y1 := z 1 (by decide); have y2 := z 2 (by decide); have y3 := z 3 (by decide); have y4 := z 4 (by decide); have y5 := z 5 (by decide)
        clear z
        unfold Rx.hdr
        go_wp2_with fail
        refine bodyPost_ret (v := Rx.hdr k f a n cap) (by simp [results, Try.results62, go_sem, Rx.hdr, d0, d1, d2, d3, d4, d5]) rfl ⟨?_, ?_⟩
        · rw [HC2.out]
          exact ⟨_, β, ⟨_, rfl, (HY.out.wr (b := w.heap.size) (by omega) k f a n cap).mono (fun j hj => by omega)⟩, HB1.out, HB2.out, by omega, H.out.wr nr k f a n cap⟩
        · exact Rx.wr_far G0 (Nat.le_refl _) k f a n cap
      · have e0 := Px.not_empty hS.len
        have hb : Px.oneOf Px.barS.data.toList (c :: u) = true := by
          rcases hend with h | h
          · simp at h
          · exact h
        have AT := at_any r (c :: u) (big || β) Px.barS (by decide) wr h
        rw [hb] at AT
        have AT := Lib.hid AT
        clear hend hS hb
        go_wp2_with fail
        refine AT.out.mono ?_
        rintro e w1 ⟨rfl, rfl⟩
        clear AT
        go_wp2_with fail
        refine J.out.mono ?_
        rintro e w2 ⟨v2, rfl, hy, hb⟩
        replace N := N.up hb
        replace G0 := Px.grown_up G0 hb
        replace h := h.up hb
        clear hb J s0 e0
        obtain ⟨k, f, a, n, cap, rfl⟩ := hy.form
        have HY := Lib.hid hy
        have H := Lib.hid h
        clear hy h
        obtain ⟨⟨d0, d1, d2, d3, d4, d5⟩, z⟩ := N
        simp only [Nat.zero_add] at d0 d1 d2 d3 d4 d5
        have y0 := z 0 (by decide); have y1 := z 1 (by decide); have y2 := z 2 (by decide); have y3 := z 3 (by decide); have y4 := z 4 (by decide); have y5 := z 5 (by decide)
        clear z
        unfold Rx.hdr
        go_wp2_with fail
        refine bodyPost_ret (v := Rx.hdr k f a n cap) (by simp [results, Try.results62, go_sem, Rx.hdr, d0, d1, d2, d3, d4, d5]) rfl ⟨?_, ?_⟩
        · rw [HC2.out]
          exact ⟨_, β, ⟨_, rfl, (HY.out.wr (b := w.heap.size) (by omega) k f a n cap).mono (fun j hj => by omega)⟩, HB1.out, HB2.out, by simp only [List.length_cons] at hs ⊢; omega, H.out.wr nr k f a n cap⟩
        · exact Rx.wr_far G0 (Nat.le_refl _) k f a n cap
    · -- one more REP
      rcases u with _ | ⟨c, u⟩
      · exact absurd (.inl rfl) hend
      have hbf : Px.oneOf Px.barS.data.toList (c :: u) = false := by
        cases hb : Px.oneOf Px.barS.data.toList (c :: u)
        · rfl
        · exact absurd (.inr hb) hend
      have HC2 := Lib.hid (Px.cat_on hbf)
      have e0 := Px.not_empty hS.len
      have AT := at_any r (c :: u) (big || β) Px.barS (by decide) wr h
      rw [hbf] at AT
      have AT := Lib.hid AT
      clear hend hS hbf
      go_wp2_with fail
      refine AT.out.mono ?_
      rintro e w1 ⟨rfl, rfl⟩
      clear AT
      go_wp2_with fail
      have hO := O.lt
      have hsz : w.heap.size + 1 ≤ w1.heap.size := N.lt
      refine (HREP.out (c :: u) (big || β) w1 hul h).mono ?_
      intro e w2 hP
      clear h s0 e0
      cases hrp : Rx.rep (c :: u) with
      | none =>
        rw [hrp] at hP HC2
        obtain ⟨rfl, g⟩ := hP
        exact ⟨rfl, by rw [HC.out, HC2.out]; exact rfl, G0.trans g⟩
      | some p =>
        obtain ⟨x, u2⟩ := p
        have hul2 := Rx.rep_len hrp
        rw [hrp] at hP HC2
        obtain ⟨⟨y, β2, ⟨v, rfl, hy⟩, hc1, hc2, hs2, h⟩, g⟩ := hP
        have HC3 := Lib.hid (show Rx.cat t = (Rx.cat u2).map (fun p => ((xs ++ [x]) ++ p.1, p.2)) by
          rw [HC.out, HC2.out]
          show Option.map _ (match Rx.cat u2 with | none => none | some (xs, t) => some (x :: xs, t)) = _
          cases Rx.cat u2 with
          | none => rfl
          | some q => obtain ⟨zs, u3⟩ := q; simp)
        replace N := N.grown g nr
        replace G0 := G0.trans g
        replace O := O.grown g (fun k hk => by injection hk with hk; omega)
        have hsz2 : w1.heap.size ≤ w2.heap.size := g.size
        clear g hrp HC HC2
        obtain ⟨k2, f2, a2, n2, cap2, rfl⟩ := hy.form
        have A := Bs.below1 w2 (.cells #[.int .u8 k2, .int .u64 (Bs.word f2 0), .int .u64 (Bs.word f2 1), .int .u64 (Bs.word f2 2), .int .u64 (Bs.word f2 3), .slice a2 n2 cap2] 28)
        have HY := Lib.hid ((hy.up A).mono (B' := fun j => w.heap.size + 1 ≤ j ∧ some j ≠ u3.ownBlock) (fun j hj => ⟨by omega, fun e => by have := (hO j e.symm).2; omega⟩))
        replace O := O.up A
        replace N := N.up A
        replace G0 := Px.grown_up G0 A
        replace h := h.up A
        have hsz4 : w.heap.size + 1 ≤ (w2.alloc (.cells #[.int .u8 k2, .int .u64 (Bs.word f2 0), .int .u64 (Bs.word f2 1), .int .u64 (Bs.word f2 2), .int .u64 (Bs.word f2 3), .slice a2 n2 cap2] 28)).heap.size := N.lt
        clear A hy hO
        have hys : ys.length ≤ 100000 := by omega
        unfold Rx.hdr
        go_wp2_with (first
          | (at_builtin; refine Rx.append rfl _ _ rfl (w.heap.size + 1) _ ys rfl O w2.heap.size 1 rfl k2 f2 a2 n2 cap2 (heap_alloc_new w2 _) y HY.out hys hsz4 ?_; intro v7 w4 O4 g4))
        have hOlt := O.lt
        have N4 := N.own g4 (fun j hj => by have := (hOlt j hj).1; omega)
        have G4 := Px.grown_own G0 g4 (fun k hk => by have := (hOlt k hk).1; omega)
        have S4 := h.own g4 (fun k hk => by have := (hOlt k hk).1; omega)
        clear g4 O N G0 h
        go_roundg (u2.length)
        case measure => simp only [List.length_cons] at hul2 hgu; omega
        refine ⟨xs ++ [x], ys ++ [y], β || β2, u2, rfl, by simp only [List.length_cons] at hul2 hul; omega, HC3.out, ?_, ?_, ?_, O4, N4, G4, by rw [← Bool.or_assoc]; exact S4⟩
        · intro e
          simp only [Bool.or_eq_false_iff] at e
          rw [hb1 e.1, hc1 e.2]
        · intro e
          simp only [Bool.or_eq_true] at e
          rcases e with e | e
          · obtain ⟨z, hz, hm⟩ := hb2 e
            exact ⟨z, by simp [hz], hm⟩
          · exact ⟨x, by simp, hc2 e⟩
        · rw [Px.sizeL_snoc]
          simp only [List.length_cons] at hs hs2
          omega
open Go.RowKit
set_option maxRecDepth 100000 in
set_option maxHeartbeats 2000000 in
theorem alt_any (r : Nat) (t : List Int) (big : Bool) (w : World) (h : Px.St w r t big) (hl100 : t.length ≤ 100)
    (hcat : ∀ (u : List Int) (b : Bool) (w : World), u.length ≤ t.length → Px.St w r u b → Calls Try.prog 62 #[.pointer (some ⟨r, 0, none⟩)] w (Px.AP w r b u.length 1 ((Rx.cat u).map fun p => (Rx.catOf p.1, p.2)))) :
    Calls Try.prog 41 #[.pointer (some ⟨r, 0, none⟩)] w (Px.AP w r big t.length 2 ((Rx.alt t).map fun p => (Rx.several 3 p.1, p.2))) := by
  have hr := h.lt
  have nr : w.heap.size ≠ r := by omega
  have N := Rx.nod_zero w
  have A := Bs.below1 w (.cells #[.int .u8 0, .int .u64 0, .int .u64 0, .int .u64 0, .int .u64 0, .slice none 0 0] 28)
  have G0 := Rx.grown_of r A
  replace h := h.up A
  have HCAT := Lib.hid hcat
  clear A hcat
  have HA := Lib.hid (Rx.alt_eq t)
  go_enter Try.func41, Try.ntmps41
  go_wp2_with fail
  generalize w.alloc (.cells #[.int .u8 0, .int .u64 0, .int .u64 0, .int .u64 0, .int .u64 0, .slice none 0 0] 28) = W at *
  have hsz : w.heap.size + 1 ≤ W.heap.size := N.lt
  refine (HCAT.out t big W (Nat.le_refl _) h).mono ?_
  intro e w1 hP
  clear h
  cases hc : Rx.cat t with
  | none =>
    rw [hc] at hP HA
    obtain ⟨rfl, g⟩ := hP
    exact ⟨rfl, by rw [HA.out]; exact rfl, G0.trans g⟩
  | some p =>
    obtain ⟨xs0, u0⟩ := p
    have hl0 := Rx.cat_len hc
    rw [hc] at hP HA
    obtain ⟨⟨y0, β0, ⟨v, rfl, hy⟩, hb1, hb2, hs, h⟩, g⟩ := hP
    replace N := N.grown g nr
    replace G0 := G0.trans g
    obtain ⟨k, f, a, n, cap, rfl⟩ := hy.form
    have hsz2 : W.heap.size ≤ w1.heap.size := g.size
    have O := Rx.own_one (base := w.heap.size + 1) (hy.mono (fun j hj => by omega)) (by omega)
    have A := Bs.below1 w1 (.cells #[.int .u8 k, .int .u64 (Bs.word f 0), .int .u64 (Bs.word f 1), .int .u64 (Bs.word f 2), .int .u64 (Bs.word f 3), .slice a n cap] 28)
    replace N := N.up A
    replace G0 := Px.grown_up G0 A
    replace h := h.up A
    clear g hy A hc
    have HA2 := Lib.hid (show Rx.alt t = if u0.head? = some 124 then (Rx.alt (u0.drop 1)).map (fun p => (Rx.catOf xs0 :: p.1, p.2)) else some ([Rx.catOf xs0], u0) by
      rw [HA.out]
      show (if u0.head? = some 124 then (match Rx.alt (u0.drop 1) with | none => none | some (ys, t) => some (Rx.catOf xs0 :: ys, t)) else some ([Rx.catOf xs0], u0)) = _
      split
      · cases Rx.alt (u0.drop 1) <;> rfl
      · rfl)
    clear HA
    unfold Rx.hdr
    go_wp2_with fail
    generalize w1.alloc (.cells #[.int .u8 k, .int .u64 (Bs.word f 0), .int .u64 (Bs.word f 1), .int .u64 (Bs.word f 2), .int .u64 (Bs.word f 3), .slice a n cap] 28) = V at *
    go_loopg [3] u0.length (fun gg v wr => ∃ (xs ys : List Rx) (β : Bool) (u : List Int), gg = u.length ∧ u.length ≤ t.length ∧ xs ≠ [] ∧ ys ≠ [] ∧ Rx.alt t = (if u.head? = some 124 then (Rx.alt (u.drop 1)).map (fun p => (xs ++ p.1, p.2)) else some (xs, u)) ∧ (β = false → ys = xs) ∧ (β = true → ∃ x ∈ xs, x.may 1 = false) ∧ Rx.sizeL ys + 500 * u.length ≤ 500 * t.length + 1 ∧ Rx.Own (w.heap.size + 1) v ys wr ∧ Rx.Nod wr w.heap.size 0 (fun _ => false) none 0 0 ∧ w.grownBy wr (some r) ∧ Px.St wr r u (big || β))
    case atStart =>
      refine ⟨[Rx.catOf xs0], [y0], β0, u0, rfl, hl0, by simp, by simp, ?_, fun e => by rw [hb1 e], fun e => ⟨_, by simp, hb2 e⟩, by simp [Rx.sizeL]; omega, O, N, G0, h⟩
      rw [HA2.out]; rfl
    case round =>
      clear N G0 h O HA2 hb1 hb2 hs
      obtain ⟨xs, ys, β, u, hgu, hul, hx0, hy0, hA, hb1, hb2, hs, O, N, G0, h⟩ := hrel
      have HA := Lib.hid hA
      clear hA
      have hyl := Rx.length_le ys
      by_cases hd : u.head? = some (124 : Int)
      · obtain ⟨u1, rfl⟩ := Px.head_is hd
        have HA2 := Lib.hid (show Rx.alt t = (Rx.alt u1).map (fun p => (xs ++ p.1, p.2)) by rw [HA.out]; rfl)
        have P := Lib.hid (pass_yes r u1 (big || β) 124 (by decide) wr h)
        clear hd h HA
        simp only [List.length_cons] at hul hs hgu
        go_wp2_with fail
        refine P.out.mono ?_
        rintro e w2 ⟨rfl, h, g⟩
        replace N := N.grown g nr
        replace G0 := G0.trans g
        replace O := O.grown g (fun k hk => by injection hk with hk; omega)
        clear g P
        go_wp2_with fail
        have hO := O.lt
        have hsz3 : w.heap.size + 1 ≤ w2.heap.size := N.lt
        refine (HCAT.out u1 (big || β) w2 (by omega) h).mono ?_
        intro e w3 hP
        clear h
        have HE := Lib.hid (Rx.alt_eq u1)
        cases hc : Rx.cat u1 with
        | none =>
          rw [hc] at hP HE
          obtain ⟨rfl, g⟩ := hP
          exact ⟨rfl, by rw [HA2.out, HE.out]; exact rfl, G0.trans g⟩
        | some p =>
          obtain ⟨xs2, u2⟩ := p
          have hl2 := Rx.cat_len hc
          rw [hc] at hP HE
          obtain ⟨⟨y, β2, ⟨v, rfl, hy⟩, hc1, hc2, hs2, h⟩, g⟩ := hP
          have HA3 := Lib.hid (show Rx.alt t = (if u2.head? = some 124 then (Rx.alt (u2.drop 1)).map (fun p => ((xs ++ [Rx.catOf xs2]) ++ p.1, p.2)) else some (xs ++ [Rx.catOf xs2], u2)) by
            rw [HA2.out, HE.out]
            show Option.map _ (if u2.head? = some 124 then (match Rx.alt (u2.drop 1) with | none => none | some (ys, t) => some (Rx.catOf xs2 :: ys, t)) else some ([Rx.catOf xs2], u2)) = _
            split
            · cases Rx.alt (u2.drop 1) with
              | none => rfl
              | some q => obtain ⟨q1, q2⟩ := q; simp
            · rfl)
          replace N := N.grown g nr
          replace G0 := G0.trans g
          replace O := O.grown g (fun k hk => by injection hk with hk; omega)
          have hsz4 : w2.heap.size ≤ w3.heap.size := g.size
          clear g hc HA2 HE
          obtain ⟨k2, f2, a2, n2, cap2, rfl⟩ := hy.form
          have A := Bs.below1 w3 (.cells #[.int .u8 k2, .int .u64 (Bs.word f2 0), .int .u64 (Bs.word f2 1), .int .u64 (Bs.word f2 2), .int .u64 (Bs.word f2 3), .slice a2 n2 cap2] 28)
          have HY := Lib.hid ((hy.up A).mono (B' := fun j => w.heap.size + 1 ≤ j ∧ some j ≠ u3.ownBlock) (fun j hj => ⟨by omega, fun e => by have := (hO j e.symm).2; omega⟩))
          replace O := O.up A
          replace N := N.up A
          replace G0 := Px.grown_up G0 A
          replace h := h.up A
          have hsz5 : w.heap.size + 1 ≤ (w3.alloc (.cells #[.int .u8 k2, .int .u64 (Bs.word f2 0), .int .u64 (Bs.word f2 1), .int .u64 (Bs.word f2 2), .int .u64 (Bs.word f2 3), .slice a2 n2 cap2] 28)).heap.size := N.lt
          clear A hy hO
          have hys : ys.length ≤ 100000 := by omega
          unfold Rx.hdr
          go_wp2_with (first
            | (at_builtin; refine Rx.append rfl _ _ rfl (w.heap.size + 1) _ ys rfl O w3.heap.size 1 rfl k2 f2 a2 n2 cap2 (heap_alloc_new w3 _) y HY.out hys hsz5 ?_; intro v7 w4 O4 g4))
          have hOlt := O.lt
          have N4 := N.own g4 (fun j hj => by have := (hOlt j hj).1; omega)
          have G4 := Px.grown_own G0 g4 (fun k hk => by have := (hOlt k hk).1; omega)
          have S4 := h.own g4 (fun k hk => by have := (hOlt k hk).1; omega)
          clear g4 O N G0 h
          go_roundg (u2.length)
          case measure => omega
          refine ⟨xs ++ [Rx.catOf xs2], ys ++ [y], β || β2, u2, rfl, by omega, by simp, by simp, HA3.out, ?_, ?_, ?_, O4, N4, G4, by rw [← Bool.or_assoc]; exact S4⟩
          · intro e
            simp only [Bool.or_eq_false_iff] at e
            rw [hb1 e.1, hc1 e.2]
          · intro e
            simp only [Bool.or_eq_true] at e
            rcases e with e | e
            · obtain ⟨z, hz, hm⟩ := hb2 e
              exact ⟨z, by simp [hz], hm⟩
            · exact ⟨_, by simp, hc2 e⟩
          · rw [Px.sizeL_snoc]
            omega
      · have HA2 := Lib.hid (show (Rx.alt t).map (fun p => (Rx.several 3 p.1, p.2)) = some (Rx.several 3 xs, u) by rw [HA.out, if_neg hd]; rfl)
        have P := Lib.hid (pass_no r u (big || β) 124 (by decide) hd wr h)
        have HB1 := Lib.hid (show β = false → Rx.several 3 ys = Rx.several 3 xs from fun e => by rw [hb1 e])
        have HB2 := Lib.hid (show β = true → (Rx.several 3 xs).may 1 = false from fun e => by
          obtain ⟨x, hx, hm⟩ := hb2 e
          cases h9 : (Rx.several 3 xs).may 1
          · rfl
          · have := Rx.may_several h9 hx; rw [hm] at this; simp at this)
        clear hd h HA
        go_wp2_with fail
        refine P.out.mono ?_
        rintro e w2 ⟨rfl, h, g⟩
        replace N := N.grown g nr
        replace G0 := G0.trans g
        replace O := O.grown g (fun k hk => by injection hk with hk; omega)
        clear g P
        obtain ⟨a', cap', rfl, R⟩ := O.slice
        have J := Lib.hid (joined_any 3 (by decide) ys a' cap' _ w2 R)
        have hjs := Px.join_size 3 ys
        rw [Px.join_several hy0] at J hjs
        clear O R
        go_wp2_with fail
        refine J.out.mono ?_
        rintro e w3 ⟨v2, rfl, hy, hb⟩
        replace N := N.up hb
        replace G0 := Px.grown_up G0 hb
        replace h := h.up hb
        clear hb J
        obtain ⟨k, f, a, n, cap, rfl⟩ := hy.form
        have HY := Lib.hid hy
        have H := Lib.hid h
        clear hy h
        obtain ⟨⟨d0, d1, d2, d3, d4, d5⟩, z⟩ := N
        simp only [Nat.zero_add] at d0 d1 d2 d3 d4 d5
        have y0 := z 0 (by decide); have y1 := z 1 (by decide); have y2 := z 2 (by decide); have y3 := z 3 (by decide); have y4 := z 4 (by decide); have y5 := z 5 (by decide)
        clear z
        unfold Rx.hdr
        go_wp2_with fail
        refine bodyPost_ret (v := Rx.hdr k f a n cap) (by simp [results, Try.results41, go_sem, Rx.hdr, d0, d1, d2, d3, d4, d5]) rfl ⟨?_, ?_⟩
        · rw [HA2.out]
          exact ⟨_, β, ⟨_, rfl, (HY.out.wr (b := w.heap.size) (by omega) k f a n cap).mono (fun j hj => by omega)⟩, HB1.out, HB2.out, by omega, H.out.wr nr k f a n cap⟩
        · exact Rx.wr_far G0 (Nat.le_refl _) k f a n cap
theorem parse_any (r : Nat) : ∀ (q : Nat),
    (∀ (t : List Int) (b : Bool) (w : World), 3 * t.length + 1 ≤ q → t.length ≤ 100 → Px.St w r t b → Calls Try.prog 83 #[.pointer (some ⟨r, 0, none⟩)] w (Px.AP w r b t.length 0 (Rx.rep t))) ∧
    (∀ (t : List Int) (b : Bool) (w : World), 3 * t.length + 2 ≤ q → t.length ≤ 100 → Px.St w r t b → Calls Try.prog 62 #[.pointer (some ⟨r, 0, none⟩)] w (Px.AP w r b t.length 1 ((Rx.cat t).map fun p => (Rx.catOf p.1, p.2)))) ∧
    (∀ (t : List Int) (b : Bool) (w : World), 3 * t.length + 3 ≤ q → t.length ≤ 100 → Px.St w r t b → Calls Try.prog 41 #[.pointer (some ⟨r, 0, none⟩)] w (Px.AP w r b t.length 2 ((Rx.alt t).map fun p => (Rx.several 3 p.1, p.2))))
  | 0 => ⟨fun _ _ _ h => by omega, fun _ _ _ h => by omega, fun _ _ _ h => by omega⟩
  | q + 1 => by
    obtain ⟨hr, hc, ha⟩ := parse_any r q
    refine ⟨fun t b w h hl hS => ?_, fun t b w h hl hS => ?_, fun t b w h hl hS => ?_⟩
    · exact rep_any r t b w hS hl fun w hS => atom_any r t b w hS fun u b w hu hS => ha u b w (by omega) (by omega) hS
    · exact cat_any r t b w hS hl fun u b w hu hS => hr u b w (by omega) (by omega) hS
    · exact alt_any r t b w hS hl fun u b w hu hS => hc u b w (by omega) (by omega) hS
open Go.RowKit
structure Px.Num (w : World) (b : Nat) (n : Int) : Prop where
  cell : w.cell? ⟨b, 0, none⟩ = some (.int .i64 n)
  frz : w.frozen? ⟨b, 0, none⟩ = false
theorem Px.Num.lt {w : World} {b : Nat} {n : Int} (h : Px.Num w b n) : b < w.heap.size := World.block_lt_of_cell? w _ h.cell
theorem Px.Num.up {w w' : World} {b : Nat} {n : Int} (h : Px.Num w b n) (hb : Below w.heap.size w w') : Px.Num w' b n := ⟨Bs.cell_up hb h.cell, by rw [hb.frozen h.lt]; exact h.frz⟩
theorem Px.Num.grown {w w' : World} {b r : Nat} {n : Int} (h : Px.Num w b n) (hg : w.grownBy w' (some r)) (hn : b ≠ r) : Px.Num w' b n := ⟨Px.grown_cell hg h.cell hn, Px.grown_frz hg h.cell hn h.frz⟩
def Px.zero : Value := Rx.hdr 0 (fun _ => false) none 0 0
set_option maxRecDepth 100000 in
set_option maxHeartbeats 1000000 in
theorem catch_up (b c : Nat) (hbc : b ≠ c) (k : Nat) (f : Nat → Bool) (a : Option Addr) (n cap : Nat) (m why : Int) (older : List PanicEntry) (w : World) (hx : Rx.Nod w b k f a n cap) (he : Px.Num w c m) :
    CallsD Try.prog 40 #[.pointer (some ⟨b, 0, none⟩), .pointer (some ⟨c, 0, none⟩)] (.panicking ({ v := .iface 96 (.agg #[.int .i64 why]), recovered := false } :: older)) w fun e u' w' =>
      e = .returned (.tuple #[]) ∧ u' = .panicking ({ v := .iface 96 (.agg #[.int .i64 why]), recovered := true } :: older) ∧ w' = ((Rx.wr w b 0 (fun _ => false) none 0 0).setCell ⟨c, 0, none⟩ (.int .i64 why)).drew := by
  refine callsD_of_wpS Try.func40 rfl fun c₀ cs hu => ?_
  obtain ⟨⟨d0, d1, d2, d3, d4, d5⟩, z⟩ := hx
  simp only [Nat.zero_add] at d0 d1 d2 d3 d4 d5
  have y0 := z 0 (by decide); have y1 := z 1 (by decide); have y2 := z 2 (by decide); have y3 := z 3 (by decide); have y4 := z 4 (by decide); have y5 := z 5 (by decide)
  obtain ⟨e0, e1⟩ := he
  clear z
  apply wpS_seq
  apply wpS_region
  simp [wpOpsS, go_sem, recoverD, hu, Try.ntmps40, Exit.thenS, Array.replicate, List.replicate]
  apply wpS_seq
  apply wpS_region
  simp [wpOpsS, go_sem, Exit.thenS]
  refine wpS_cond (t := true) (by simp [Act.eval, Array.replicate]) ?_
  simp only [if_true]
  refine wpS_of_wp ?_
  have n1 : c ≠ b := Ne.symm hbc
  have hta : ∀ (xT : TypeId) (w : World), (Instr.typeAssert (.iface 96 (.agg #[.int .i64 why])) xT 96 false).run Try.prog w = .ok (.agg #[.int .i64 why]) w := fun _ _ => by kernel_rfl
  have hfd : ∀ w : World, (Instr.field 96 (.agg #[.int .i64 why]) 0).run Try.prog w = .ok (.int .i64 why) w := fun _ => by kernel_rfl
  go_region
  simp [bodyPostS, results, Try.results40, Rx.wr, Bs.word_none]
set_option maxRecDepth 100000 in
set_option maxHeartbeats 1000000 in
theorem catch_idle (b c : Nat) (w : World) :
    CallsD Try.prog 40 #[.pointer (some ⟨b, 0, none⟩), .pointer (some ⟨c, 0, none⟩)] .returning w fun e u' w' => e = .returned (.tuple #[]) ∧ u' = .returning ∧ w' = w := by
  refine callsD_of_wpS Try.func40 rfl fun c₀ cs hu => ?_
  apply wpS_seq
  apply wpS_region
  simp [wpOpsS, go_sem, recoverD, hu, Try.ntmps40, Exit.thenS]
  apply wpS_seq
  apply wpS_region
  simp [wpOpsS, go_sem, Exit.thenS]
  refine wpS_cond (t := false) (by simp [Act.eval, Array.replicate]) ?_
  simp only [Bool.false_eq_true, if_false]
  refine wpS_of_wp (wp_skip ?_)
  cases c₀
  simp_all [bodyPostS, results, Try.results40]
def Px.out (o : Option Rx) : Int := match o with
  | none => 20
  | some x => if x.may 1 = true then 0 else 21
def Px.RdPost (w : World) (o : Option Rx) (e : Ending) (w' : World) : Prop :=
  ∃ v y, e = .returned (.tuple #[v, .int .i64 (Px.out o)]) ∧ Rx.IsB w' (w.heap.size ≤ ·) y v ∧ (Px.out o = 0 → o = some y) ∧ (Px.out o ≠ 0 → y = Rx.nil) ∧ Below w.heap.size w w'
set_option maxRecDepth 100000 in
set_option maxHeartbeats 2000000 in
theorem read_any (s : ByteArray) (t : List Int) (hs : Px.Str s t) (w : World) : Calls Try.prog 20 #[.string s] w (Px.RdPost w (Rx.read t)) := by
  have hmf : ∀ (fn : Fn) (first cap : Array Value) (w : World), (Instr.makeFunc fn first cap).run Try.prog w = .ok (.func fn first cap) w := fun _ _ _ _ => rfl
  have HS := Lib.hid hs
  have hl : t.length ≤ 100 := by
    have h1 := hs.ln
    have h2 := hs.cat
    have : t.length ≤ (Rn.cat t).length := by
      have hsg := hs.sg
      clear hs h1 h2 HS
      induction t with
      | nil => simp
      | cons n t ih =>
        obtain ⟨c, u, hc, _⟩ := Rn.blk_form n (hsg n (by simp))
        have := ih (fun m hm => hsg m (by simp [hm]))
        rw [Rn.cat, List.length_append, hc]
        simp; omega
    rw [← h2, Rn.len_data] at this
    omega
  clear hs
  go_enter_defers Try.func20, Try.ntmps20
  go_wp2_with fail
  have B3 := Bs.below3 w (.cells #[.int .u8 0, .int .u64 0, .int .u64 0, .int .u64 0, .int .u64 0, .slice none 0 0] 28) (.cells #[.int .i64 0] 29) (.cells #[.string s, .bool false] 98)
  have h1 : (w.alloc (.cells #[.int .u8 0, .int .u64 0, .int .u64 0, .int .u64 0, .int .u64 0, .slice none 0 0] 28)).heap.size = w.heap.size + 1 := by simp [go_sem]
  have N : Rx.Nod (((w.alloc (.cells #[.int .u8 0, .int .u64 0, .int .u64 0, .int .u64 0, .int .u64 0, .slice none 0 0] 28)).alloc (.cells #[.int .i64 0] 29)).alloc (.cells #[.string s, .bool false] 98)) w.heap.size 0 (fun _ => false) none 0 0 := ((Rx.nod_zero w).up (Bs.below1 _ _)).up (Bs.below1 _ _)
  have E : Px.Num (((w.alloc (.cells #[.int .u8 0, .int .u64 0, .int .u64 0, .int .u64 0, .int .u64 0, .slice none 0 0] 28)).alloc (.cells #[.int .i64 0] 29)).alloc (.cells #[.string s, .bool false] 98)) (w.heap.size + 1) 0 := by
    generalize w.alloc (.cells #[.int .u8 0, .int .u64 0, .int .u64 0, .int .u64 0, .int .u64 0, .slice none 0 0] 28) = U at *
    rw [← h1]
    exact Px.Num.up (w := U.alloc (.cells #[.int .i64 0] 29)) ⟨by simp [go_sem], by simp [go_sem]⟩ (Bs.below1 _ _)
  have S : Px.St (((w.alloc (.cells #[.int .u8 0, .int .u64 0, .int .u64 0, .int .u64 0, .int .u64 0, .slice none 0 0] 28)).alloc (.cells #[.int .i64 0] 29)).alloc (.cells #[.string s, .bool false] 98)) (w.heap.size + 1 + 1) t false := by
    have h2 : ((w.alloc (.cells #[.int .u8 0, .int .u64 0, .int .u64 0, .int .u64 0, .int .u64 0, .slice none 0 0] 28)).alloc (.cells #[.int .i64 0] 29)).heap.size = w.heap.size + 1 + 1 := by simp [go_sem]
    generalize (w.alloc (.cells #[.int .u8 0, .int .u64 0, .int .u64 0, .int .u64 0, .int .u64 0, .slice none 0 0] 28)).alloc (.cells #[.int .i64 0] 29) = U at *
    rw [← h2]
    refine ⟨⟨s, by simp [go_sem], HS.out⟩, by simp [go_sem], by simp [go_sem], by simp [go_sem], fun j v hv => ?_⟩
    rw [cell_of_row _ _ j #[.string s, .bool false] 98 (0, 0) (heap_alloc_new U _)] at hv
    have := (Array.getElem?_eq_some_iff.1 hv).1
    simpa using this
  generalize ((w.alloc (.cells #[.int .u8 0, .int .u64 0, .int .u64 0, .int .u64 0, .int .u64 0, .slice none 0 0] 28)).alloc (.cells #[.int .i64 0] 29)).alloc (.cells #[.string s, .bool false] 98) = W at *
  have A : Below w.heap.size w W := B3
  have n1 : w.heap.size ≠ w.heap.size + 1 + 1 := by omega
  have n2 : w.heap.size + 1 ≠ w.heap.size + 1 + 1 := by omega
  have hW : w.heap.size + 3 ≤ W.heap.size := S.lt
  clear B3 h1
  refine ((parse_any (w.heap.size + 1 + 1) (3 * t.length + 3)).2.2 t false W (Nat.le_refl _) hl S).mono ?_
  intro e w1 hP
  clear S
  have HR := Lib.hid (show Rx.read t = match Rx.alt t with
    | some (xs, []) => some (Rx.several 3 xs)
    | _ => none from rfl)
  cases ha : Rx.alt t with
  | none =>
    rw [ha] at hP HR
    obtain ⟨rfl, g⟩ := hP
    have HO := Lib.hid (show Px.out (Rx.read t) = 20 by rw [HR.out]; rfl)
    replace N := N.grown g n1
    replace E := E.grown g n2
    replace A := A.grown g A.size (fun j hj => by injection hj with hj; omega)
    clear g HR ha
    refine leaves_cons (f := 40) (args := #[.pointer (some ⟨w.heap.size, 0, none⟩), .pointer (some ⟨w.heap.size + 1, 0, none⟩)]) (by simp) (by simp [go_sem]) ?_
    refine (catch_up w.heap.size (w.heap.size + 1) (by omega) _ _ _ _ _ _ 20 [] _ N E).mono ?_
    rintro e u' w'' ⟨rfl, rfl, rfl⟩
    have W3 := N.wr 0 (fun _ => false) none 0 0
    have E3 : (Rx.wr w1 w.heap.size 0 (fun _ => false) none 0 0).cell? ⟨w.heap.size + 1, 0, none⟩ = some (.int .i64 _) := Rx.wr_cell E.cell (by simp)
    obtain ⟨x0, x1, x2, x3, x4, x5⟩ := W3.cell
    simp only [Nat.zero_add] at x0 x1 x2 x3 x4 x5
    simp [Leaves, settle, results, Try.results20, go_sem, x0, x1, x2, x3, x4, x5, E3, Bs.word_none]
    exact ⟨Px.zero, Rx.nil, by rw [HO.out]; simp [Px.zero, Rx.hdr_none], Rx.isB_nil _ _, fun e => by rw [HO.out] at e; simp at e, fun _ => rfl, ((Rx.wr_below A (Nat.le_refl _) 0 (fun _ => false) none 0 0).setCell (p := ⟨w.heap.size + 1, 0, none⟩) (by simp) _).drew⟩
  | some p =>
    obtain ⟨xs, u⟩ := p
    rw [ha] at hP HR
    obtain ⟨⟨y, β, ⟨v, rfl, hy⟩, hb1, hb2, hsz, S⟩, g⟩ := hP
    replace N := N.grown g n1
    replace E := E.grown g n2
    replace A := A.grown g A.size (fun j hj => by injection hj with hj; omega)
    clear g ha
    replace hy := hy.mono (B' := (w.heap.size + 3 ≤ ·)) (fun j hj => by omega)
    obtain ⟨k, f, a, n, cap, rfl⟩ := hy.form
    have d0 := N.cell.c0; have d1 := N.cell.c1; have d2 := N.cell.c2; have d3 := N.cell.c3; have d4 := N.cell.c4; have d5 := N.cell.c5
    simp only [Nat.zero_add] at d0 d1 d2 d3 d4 d5
    have z := N.frz
    have y0 := z 0 (by decide); have y1 := z 1 (by decide); have y2 := z 2 (by decide); have y3 := z 3 (by decide); have y4 := z 4 (by decide); have y5 := z 5 (by decide)
    clear z
    obtain ⟨s1, s0, hS⟩ := S.c0
    have s1' := S.c1
    unfold Rx.hdr
    go_upto_region 4 with fail
    have g1 : w1.grownBy (Rx.wr w1 w.heap.size k f a n cap) (some w.heap.size) := Rx.grown_set (Rx.grown_set (Rx.grown_set (Rx.grown_set (Rx.grown_set (Rx.grown_set (Rx.grown_of w.heap.size (Below.refl _ _)) _ _) _ _) _ _) _ _) _ _) _ _
    have hfold : (((((w1.setCell ⟨w.heap.size, 0, none⟩ (.int .u8 k)).setCell ⟨w.heap.size, 1, none⟩ (.int .u64 (Bs.word f 0))).setCell ⟨w.heap.size, 2, none⟩ (.int .u64 (Bs.word f 1))).setCell ⟨w.heap.size, 3, none⟩ (.int .u64 (Bs.word f 2))).setCell ⟨w.heap.size, 4, none⟩ (.int .u64 (Bs.word f 3))).setCell ⟨w.heap.size, 5, none⟩ (.slice a n cap) = Rx.wr w1 w.heap.size k f a n cap := rfl
    rw [hfold]
    replace N := N.wr k f a n cap
    replace E := E.grown g1 (by omega)
    replace S := S.wr n1 k f a n cap
    replace A := Rx.wr_below A (Nat.le_refl _) k f a n cap
    replace hy := hy.wr (b := w.heap.size) (by omega) k f a n cap
    replace s0 := Rx.wr_cell (b := w.heap.size) (k := k) (f := f) (a := a) (n := n) (cap := cap) s0 (by simp; omega)
    replace s1' := Rx.wr_cell (b := w.heap.size) (k := k) (f := f) (a := a) (n := n) (cap := cap) s1' (by simp; omega)
    clear d0 d1 d2 d3 d4 d5 y0 y1 y2 y3 y4 y5 g1 hfold
    generalize Rx.wr w1 w.heap.size k f a n cap = V at *
    rcases u with _ | ⟨c, u⟩
    · have HR2 := Lib.hid (show Rx.read t = some (Rx.several 3 xs) from HR.out)
      have e0 := Px.empty hS.nil
      have NY := Lib.hid (need_yes 20 V)
      clear HR hS
      go_wp2_with fail
      refine NY.out.mono ?_
      rintro e V1 ⟨rfl, rfl⟩
      clear NY
      cases β
      · have hyx := hb1 rfl
        subst hyx
        have c0 := N.cell.c0; have c1 := N.cell.c1; have c2 := N.cell.c2; have c3 := N.cell.c3; have c4 := N.cell.c4; have c5 := N.cell.c5
        simp only [Nat.zero_add] at c0 c1 c2 c3 c4 c5
        simp only [Bool.or_false] at s1'
        have RT := Lib.hid (Right_any _ _ V1 hy.is)
        unfold Rx.hdr at RT
        go_wp2_with fail
        refine RT.out.mono ?_
        rintro e V2 ⟨rfl, hb⟩
        replace N := N.up hb
        replace E := E.up hb
        replace A := Bs.below_up A hb
        replace hy := hy.up hb
        clear hb RT c0 c1 c2 c3 c4 c5 s0 s1' S e0
        cases hm : (Rx.several 3 xs).may 1
        · have HO := Lib.hid (show Px.out (Rx.read t) = 21 by rw [HR2.out]; simp [Px.out, hm])
          have NN := Lib.hid (need_no 21 V2)
          clear HR2 hm
          go_wp2_with fail
          refine NN.out.mono ?_
          rintro e V3 ⟨rfl, rfl⟩
          clear NN
          refine leaves_cons (f := 40) (args := #[.pointer (some ⟨w.heap.size, 0, none⟩), .pointer (some ⟨w.heap.size + 1, 0, none⟩)]) (by simp) (by simp [go_sem]) ?_
          refine (catch_up w.heap.size (w.heap.size + 1) (by omega) _ _ _ _ _ _ 21 [] _ N E).mono ?_
          rintro e u' w'' ⟨rfl, rfl, rfl⟩
          have W3 := N.wr 0 (fun _ => false) none 0 0
          have E3 : (Rx.wr V3 w.heap.size 0 (fun _ => false) none 0 0).cell? ⟨w.heap.size + 1, 0, none⟩ = some (.int .i64 _) := Rx.wr_cell E.cell (by simp)
          obtain ⟨x0, x1, x2, x3, x4, x5⟩ := W3.cell
          simp only [Nat.zero_add] at x0 x1 x2 x3 x4 x5
          simp [Leaves, settle, results, Try.results20, go_sem, x0, x1, x2, x3, x4, x5, E3, Bs.word_none]
          exact ⟨Px.zero, Rx.nil, by rw [HO.out]; simp [Px.zero, Rx.hdr_none], Rx.isB_nil _ _, fun e => by rw [HO.out] at e; simp at e, fun _ => rfl, ((Rx.wr_below A (Nat.le_refl _) 0 (fun _ => false) none 0 0).setCell (p := ⟨w.heap.size + 1, 0, none⟩) (by simp) _).drew⟩
        · have HO := Lib.hid (show Px.out (Rx.read t) = 0 by rw [HR2.out]; simp [Px.out, hm])
          have NY := Lib.hid (need_yes 21 V2)
          clear hm
          go_wp2_with fail
          refine NY.out.mono ?_
          rintro e V3 ⟨rfl, rfl⟩
          clear NY
          have HY := Lib.hid hy
          have c0 := N.cell.c0; have c1 := N.cell.c1; have c2 := N.cell.c2; have c3 := N.cell.c3; have c4 := N.cell.c4; have c5 := N.cell.c5
          simp only [Nat.zero_add] at c0 c1 c2 c3 c4 c5
          have z := N.frz
          have y0 := z 0 (by decide); have y1 := z 1 (by decide); have y2 := z 2 (by decide); have y3 := z 3 (by decide); have y4 := z 4 (by decide); have y5 := z 5 (by decide)
          have e0 := E.cell
          have e1 := E.frz
          have HA := Lib.hid A
          clear z hy A
          go_wp2_with fail
          refine leaves_cons (f := 40) (args := #[.pointer (some ⟨w.heap.size, 0, none⟩), .pointer (some ⟨w.heap.size + 1, 0, none⟩)]) (by simp) (by simp [go_sem]) ?_
          refine (catch_idle w.heap.size (w.heap.size + 1) _).mono ?_
          rintro e u' w'' ⟨rfl, rfl, rfl⟩
          simp [Leaves, settle, results, Try.results20, go_sem, c0, c1, c2, c3, c4, c5, e0]
          refine ⟨Rx.hdr k f a n cap, _, by rw [HO.out]; simp [Rx.hdr], ?_, fun _ => HR2.out, fun e => absurd HO.out e, ?_⟩
          · exact ((HY.out.wr (b := w.heap.size) (by omega) k f a n cap).turn (fun q x hq hc => Bs.cell_set hc (by simp; omega)) (fun j hj => by omega))
          · exact (Rx.wr_below HA.out (Nat.le_refl _) k f a n cap).setCell (p := ⟨w.heap.size + 1, 0, none⟩) (by simp) _
      · have HO := Lib.hid (show Px.out (Rx.read t) = 21 by rw [HR2.out]; simp [Px.out, hb2 rfl])
        simp only [Bool.or_true] at s1'
        have NN := Lib.hid (need_no 21 V1)
        clear HR2
        go_wp2_with fail
        refine NN.out.mono ?_
        rintro e V3 ⟨rfl, rfl⟩
        clear NN
        refine leaves_cons (f := 40) (args := #[.pointer (some ⟨w.heap.size, 0, none⟩), .pointer (some ⟨w.heap.size + 1, 0, none⟩)]) (by simp) (by simp [go_sem]) ?_
        refine (catch_up w.heap.size (w.heap.size + 1) (by omega) _ _ _ _ _ _ 21 [] _ N E).mono ?_
        rintro e u' w'' ⟨rfl, rfl, rfl⟩
        have W3 := N.wr 0 (fun _ => false) none 0 0
        have E3 : (Rx.wr V3 w.heap.size 0 (fun _ => false) none 0 0).cell? ⟨w.heap.size + 1, 0, none⟩ = some (.int .i64 _) := Rx.wr_cell E.cell (by simp)
        obtain ⟨x0, x1, x2, x3, x4, x5⟩ := W3.cell
        simp only [Nat.zero_add] at x0 x1 x2 x3 x4 x5
        simp [Leaves, settle, results, Try.results20, go_sem, x0, x1, x2, x3, x4, x5, E3, Bs.word_none]
        exact ⟨Px.zero, Rx.nil, by rw [HO.out]; simp [Px.zero, Rx.hdr_none], Rx.isB_nil _ _, fun e => by rw [HO.out] at e; simp at e, fun _ => rfl, ((Rx.wr_below A (Nat.le_refl _) 0 (fun _ => false) none 0 0).setCell (p := ⟨w.heap.size + 1, 0, none⟩) (by simp) _).drew⟩
    · have HO := Lib.hid (show Px.out (Rx.read t) = 20 by rw [HR.out]; rfl)
      have e0 := Px.not_empty hS.len
      have NN := Lib.hid (need_no 20 V)
      clear HR hS
      go_wp2_with fail
      refine NN.out.mono ?_
      rintro e V3 ⟨rfl, rfl⟩
      clear NN
      refine leaves_cons (f := 40) (args := #[.pointer (some ⟨w.heap.size, 0, none⟩), .pointer (some ⟨w.heap.size + 1, 0, none⟩)]) (by simp) (by simp [go_sem]) ?_
      refine (catch_up w.heap.size (w.heap.size + 1) (by omega) _ _ _ _ _ _ 20 [] _ N E).mono ?_
      rintro e u' w'' ⟨rfl, rfl, rfl⟩
      have W3 := N.wr 0 (fun _ => false) none 0 0
      have E3 : (Rx.wr V3 w.heap.size 0 (fun _ => false) none 0 0).cell? ⟨w.heap.size + 1, 0, none⟩ = some (.int .i64 _) := Rx.wr_cell E.cell (by simp)
      obtain ⟨x0, x1, x2, x3, x4, x5⟩ := W3.cell
      simp only [Nat.zero_add] at x0 x1 x2 x3 x4 x5
      simp [Leaves, settle, results, Try.results20, go_sem, x0, x1, x2, x3, x4, x5, E3, Bs.word_none]
      exact ⟨Px.zero, Rx.nil, by rw [HO.out]; simp [Px.zero, Rx.hdr_none], Rx.isB_nil _ _, fun e => by rw [HO.out] at e; simp at e, fun _ => rfl, ((Rx.wr_below A (Nat.le_refl _) 0 (fun _ => false) none 0 0).setCell (p := ⟨w.heap.size + 1, 0, none⟩) (by simp) _).drew⟩
def Px.sgN : Nat → List UInt8 → Option (List Int)
  | 0, l => if l.isEmpty then some [] else none
  | f + 1, l => if l.isEmpty then some [] else if (Rn.firstL l).2 ≤ 0 then none else (Px.sgN f (l.drop (Rn.firstL l).2.toNat)).map ((Rn.firstL l).1 :: ·)
theorem Px.sgN_is (f : Nat) : ∀ l : List UInt8, l.length ≤ f → Px.sgN f l = Px.sgN l.length l := by
  induction f using Nat.strongRecOn with
  | _ f ih =>
    intro l h
    cases f with
    | zero => rw [Nat.le_zero.1 h]
    | succ f =>
      cases hl : l.length with
      | zero =>
        have : l = [] := List.eq_nil_of_length_eq_zero hl
        subst this; rfl
      | succ n =>
        unfold Px.sgN
        split
        · rfl
        · split
          · rfl
          · have hk := Rn.firstL_bd l
            have hd : (l.drop (Rn.firstL l).2.toNat).length ≤ n := by rw [List.length_drop]; omega
            rw [ih f (by omega) _ (by omega), ih n (by omega) _ hd]
def Px.sg (l : List UInt8) : Option (List Int) := Px.sgN l.length l
theorem Px.sg_eq (l : List UInt8) : Px.sg l = if l.isEmpty then some [] else if (Rn.firstL l).2 ≤ 0 then none else (Px.sg (l.drop (Rn.firstL l).2.toNat)).map ((Rn.firstL l).1 :: ·) := by
  have h1 : Px.sg l = Px.sgN (l.length + 1) l := (Px.sgN_is _ l (by omega)).symm
  rw [h1, Px.sgN]
  split
  · rfl
  · split
    · rfl
    · rw [Px.sgN_is l.length _ (by rw [List.length_drop]; omega)]; rfl
theorem Px.sg_cat : ∀ (t : List Int), Rn.Signs t → Px.sg (Rn.cat t) = some t
  | [], _ => rfl
  | n :: t, h => by
    have hs := h n (by simp)
    obtain ⟨c, u, hc, _⟩ := Rn.blk_form n hs
    rw [Rn.cat, Px.sg_eq, Rn.blk_first n hs, if_neg (by rw [hc]; simp), if_neg (by rw [hc]; simp)]
    simp only [Int.toNat_natCast, List.drop_left']
    rw [Px.sg_cat t (fun m hm => h m (by simp [hm]))]; rfl
theorem Px.sg_none : ∀ (k : Nat) (l : List UInt8), l.length ≤ k → Rn.wholeL l = false → Px.sg l = none := by
  intro k
  induction k with
  | zero =>
    intro l hl h
    have : l = [] := List.eq_nil_of_length_eq_zero (by omega)
    subst this
    exact absurd h (by decide)
  | succ k ih =>
    intro l hl h
    rw [Rn.wholeL_eq] at h
    rw [Px.sg_eq]
    split at h
    · rename_i h1
      rw [h, if_neg (by simp), if_pos h1]
    · rename_i h1
      have hk := Rn.firstL_bd l
      rw [if_neg (by
        intro e
        have : l = [] := by simpa using e
        subst this
        exact h1 (by decide)), if_neg h1, ih _ (by rw [List.length_drop]; omega) h]; rfl
def Px.parse (s : ByteArray) : Option Rx := (Px.sg s.data.toList).bind Rx.read
def Px.code (s : ByteArray) : Int := if 100 < s.size then 21 else Px.out (Px.parse s)
def Px.PPost (w : World) (s : ByteArray) (e : Ending) (w' : World) : Prop :=
  ∃ v y, e = .returned (.tuple #[v, .int .i64 (Px.code s)]) ∧ Rx.IsB w' (w.heap.size ≤ ·) y v ∧ (Px.code s = 0 → Px.parse s = some y ∧ y.may 1 = true) ∧ (Px.code s ≠ 0 → y = Rx.nil) ∧ Below w.heap.size w w'
theorem Px.out_zero {o : Option Rx} {y : Rx} (h : Px.out o = 0) (ho : o = some y) : y.may 1 = true := by
  rw [ho] at h
  simp only [Px.out] at h
  cases hm : y.may 1
  · rw [hm] at h; simp at h
  · rfl
set_option maxRecDepth 100000 in
set_option maxHeartbeats 1000000 in
theorem Parse_any (s : ByteArray) (hmax : s.size ≤ maxLen) (w : World) : Calls Try.prog 7 #[.string s] w (Px.PPost w s) := by
  have N := Rx.nod_zero w
  have A := Bs.below1 w (.cells #[.int .u8 0, .int .u64 0, .int .u64 0, .int .u64 0, .int .u64 0, .slice none 0 0] 28)
  have hm2 := hmax
  unfold maxLen at hm2
  go_enter Try.func7, Try.ntmps7
  by_cases h0 : 100 < s.size
  · have HO := Lib.hid (show Px.code s = 21 by rw [Px.code, if_pos h0])
    have e0 : decide ((100 : Int) < (s.size : Int)) = true := decide_eq_true (by omega)
    go_wp2_with fail
    exact bodyPost_ret (v := .tuple #[Px.zero, .int .i64 21]) (by simp [results, Try.results7, go_sem, Px.zero, Rx.hdr_none]) rfl ⟨Px.zero, Rx.nil, by rw [HO.out], Rx.isB_nil _ _, fun e => by rw [HO.out] at e; simp at e, fun _ => rfl, A⟩
  have e0 : decide ((100 : Int) < (s.size : Int)) = false := decide_eq_false (by omega)
  have HO := Lib.hid (show Px.code s = Px.out (Px.parse s) by rw [Px.code, if_neg h0])
  have d0 := N.cell.c0; have d1 := N.cell.c1; have d2 := N.cell.c2; have d3 := N.cell.c3; have d4 := N.cell.c4; have d5 := N.cell.c5
  simp only [Nat.zero_add] at d0 d1 d2 d3 d4 d5
  clear d0 d1 d2 d3 d4 d5
  go_wp2_with fail
  generalize w.alloc (.cells #[.int .u8 0, .int .u64 0, .int .u64 0, .int .u64 0, .int .u64 0, .slice none 0 0] 28) = W at *
  refine (whole_any s W hmax).mono ?_
  rintro e w1 ⟨rfl, hb⟩
  replace N := N.up hb
  replace A := Bs.below_up A hb
  clear hb
  cases hw : Rn.wholeL s.data.toList
  · have HO2 := Lib.hid (show Px.code s = 20 by rw [HO.out, Px.parse, Px.sg_none _ _ (Nat.le_refl _) hw]; rfl)
    clear HO hw
    have d0 := N.cell.c0; have d1 := N.cell.c1; have d2 := N.cell.c2; have d3 := N.cell.c3; have d4 := N.cell.c4; have d5 := N.cell.c5
    simp only [Nat.zero_add] at d0 d1 d2 d3 d4 d5
    have z := N.frz
    have y0 := z 0 (by decide); have y1 := z 1 (by decide); have y2 := z 2 (by decide); have y3 := z 3 (by decide); have y4 := z 4 (by decide); have y5 := z 5 (by decide)
    clear z
    go_wp2_with fail
    refine bodyPost_ret (v := .tuple #[Px.zero, .int .i64 20]) (by simp [results, Try.results7, go_sem, Px.zero, Rx.hdr_none, d0, d1, d2, d3, d4, d5]) rfl ⟨Px.zero, Rx.nil, by rw [HO2.out], Rx.isB_nil _ _, fun e => by rw [HO2.out] at e; simp at e, fun _ => rfl, ?_⟩
    have := Rx.wr_below A (Nat.le_refl _) 0 (fun _ => false) none 0 0
    simpa [Rx.wr, Bs.word_none] using this
  · obtain ⟨t, hp, hsg, hcat⟩ : ∃ t, Px.parse s = Rx.read t ∧ Rn.Signs t ∧ s.data.toList = Rn.cat t := by
      obtain ⟨t, h1, h2⟩ := Px.whole_signs s.data.toList.length s.data.toList (Nat.le_refl _) hw
      exact ⟨t, by rw [Px.parse, h2, Px.sg_cat t h1]; rfl, h1, h2⟩
    have RD := Lib.hid (read_any s t ⟨hcat, hsg, by omega⟩ w1)
    rw [← hp] at RD
    have hsz : w.heap.size + 1 ≤ w1.heap.size := N.lt
    clear hw hp hsg hcat
    go_wp2_with fail
    refine RD.out.mono ?_
    rintro e w2 ⟨v, y, rfl, hy, h1, h2, hb⟩
    rw [← HO.out] at h1 h2 ⊢
    replace N := N.up hb
    replace A := Bs.below_up A hb
    replace hy := hy.mono (B' := (w.heap.size + 1 ≤ ·)) (fun j hj => by omega)
    obtain ⟨k, f, a, n, cap, rfl⟩ := hy.form
    have HY := Lib.hid hy
    have H1 := Lib.hid (show Px.code s = 0 → Px.parse s = some y ∧ y.may 1 = true from fun e => ⟨h1 e, Px.out_zero (o := Px.parse s) (by rw [← HO.out]; exact e) (h1 e)⟩)
    clear hb hy RD h1
    have d0 := N.cell.c0; have d1 := N.cell.c1; have d2 := N.cell.c2; have d3 := N.cell.c3; have d4 := N.cell.c4; have d5 := N.cell.c5
    simp only [Nat.zero_add] at d0 d1 d2 d3 d4 d5
    have z := N.frz
    have y0 := z 0 (by decide); have y1 := z 1 (by decide); have y2 := z 2 (by decide); have y3 := z 3 (by decide); have y4 := z 4 (by decide); have y5 := z 5 (by decide)
    clear z HO
    unfold Rx.hdr
    go_wp2_with fail
    refine bodyPost_ret (v := .tuple #[Rx.hdr k f a n cap, .int .i64 (Px.code s)]) (by simp [results, Try.results7, go_sem, Rx.hdr, d0, d1, d2, d3, d4, d5]) rfl ⟨_, y, rfl, ?_, H1.out, h2, ?_⟩
    · exact (HY.out.wr (b := w.heap.size) (by omega) k f a n cap).mono (fun j hj => by omega)
    · exact Rx.wr_below A (Nat.le_refl _) k f a n cap
end Go.Proofs.Ythapedadnbkgnaa
