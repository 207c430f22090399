/- The law ScanTexts, walked. An expression that comes in, opened to its tree. Rows of expressions, and fronts, that come in, opened. Tables, and slices of texts, that come in, opened. -/
import Derived.Test.YthapedadnbkgnaaGreatG33
import Derived.Test.YthapedadnbkgnaaGreatG34
import Derived.Test.YthapedadnbkgnaaGreatG36
import Derived.Test.YthapedadnbkgnaaGreatG3
import Derived.Deep.Slices
import Derived.ChangeSame
import Derived.OpenShut
import Derived.WideKeyArr2
import Derived.Laws.IdiomArrays
import Derived.Test.YthapedadnbkgnaaGreatG5
import Derived.SliceStrings
namespace Go.Proofs.YthapedadnbkgnaaGreat
set_option linter.unusedVariables false
set_option linter.unusedSimpArgs false
open Go.RowKit
theorem Df.Plan.good_text {l : List Rx} {F : List Df.Fr} {nx : List (List Nat)} {r p : List Int} {st : Nat} {S : List Nat} (h : Df.Plan l F nx r p st S) (hw : Rx.wfL l = true) (s : ByteArray) {t q : Nat} (htq : t + (q + 1) ≤ s.size) {mn : Int} {ok : Bool} (H : Nr.From l (s.extract t (t + (q + 1))) 0 mn ok) :
    Sc.good (Df.kg l) (Df.tN p nx S) (Df.tR r S) (Sc.sh (Px.by s) t) (q + 1) = if ok = true then (mn, q + 1) else Sc.good (Df.kg l) (Df.tN p nx S) (Df.tR r S) (Sc.sh (Px.by s) t) q := by
  obtain ⟨h1, h2⟩ := Sc.sub_by s htq
  have hr := Nr.rule_from hw (Df.fat_rise l (Px.by (s.extract t (t + (q + 1)))) (s.extract t (t + (q + 1))).size).2 H
  rw [h1, Df.fat_congr l (q + 1) (b := Sc.sh (Px.by s) t) h2] at hr
  rw [h.good_step (Sc.sh_lt (Df.by_lt s) t) q]
  unfold Df.rle
  rw [hr]
  cases ok with
  | false => simp
  | true =>
    obtain ⟨m, rfl, _⟩ := H.yes rfl
    simp
structure Sc.JW (w0 : World) (b : Nat) (y : Rx) (k : Nat) (f : Nat → Bool) (a : Option Addr) (n c : Nat) (u : World) : Prop where
  nd : Rx.Nod u b k f a n c
  ex : Rx.Is u y (Rx.hdr k f a n c)
  bel : Below w0.heap.size w0 u
theorem Sc.JW.up {w0 : World} {b : Nat} {y : Rx} {k : Nat} {f : Nat → Bool} {a : Option Addr} {n c : Nat} {u u' : World} (h : Sc.JW w0 b y k f a n c u) (hb : Below u.heap.size u u') : Sc.JW w0 b y k f a n c u' :=
  ⟨h.nd.up hb, h.ex.up hb, Bs.below_up h.bel hb⟩
def Sc.relJ (s t : ByteArray) (x k : Int) (m : Bool) (v : Value) : List (Value → World → Prop) :=
  [fun v _ => v = .int .i64 0, fun v _ => v = .bool true, fun v _ => v = .bool true, fun u _ => u = v, fun v _ => v = .string s, fun v _ => v = .int .i64 x, fun v _ => v = .int .i64 k, fun v _ => v = .string t, fun v _ => v = .bool m]
theorem Sc.relJ_up (s t : ByteArray) (x k : Int) (m : Bool) (v : Value) : Rg.Ups (Sc.relJ s t x k m v) := by
  refine ⟨?_, ?_, ?_, ?_, ?_, ?_, ?_, ?_, ?_, trivial⟩ <;> exact fun v w w' h _ => h
def Sc.pick (ok : Bool) (x y : Int) : Int := if ok = true then x else y
set_option maxRecDepth 100000 in
set_option maxHeartbeats 4000000 in
theorem scanTextsLaw_any (ts : List ByteArray) (hln : ts.length ≤ maxLen) (hts : ∀ t ∈ ts, t.size ≤ maxLen) (a : Option Addr) (cap : Nat) (s : ByteArray) (w : World) (H : Sc.Strs w a ts) (hs : s.size ≤ maxLen) : Calls Tryz.prog 5 #[.slice a ts.length cap, .string s] w (Bs.BPost w true) := by
  have HSM := Lib.hid hs
  have hs63 : s.size ≤ 9223372036854775807 := hs
  have hln63 : ts.length ≤ 9223372036854775807 := hln
  have HT := Lib.hid H
  have HTS := Lib.hid hts
  obtain ⟨n, hn⟩ : ∃ n, ts.length = n := ⟨_, rfl⟩
  have HN := Lib.hid hn
  rw [hn] at hln63 ⊢
  have AL := Lib.hid (alive9_any w)
  clear H hts hs hn hln
  go_enter Tryz.func5, Tryz.ntmps5
  go_wp2_with fail
  refine AL.out.mono ?_
  rintro e w1 ⟨rfl, A⟩
  replace HT := Lib.hid (HT.out.up A)
  clear AL
  by_cases h5 : 5 < n
  · have d1 : decide ((n : Int) > 5) = true := decide_eq_true (by omega)
    have d2 : decide (5 < n) = true := decide_eq_true h5
    have d3 : decide ((5 : Int) < (n : Int)) = true := decide_eq_true (by omega)
    go_wp2_with fail
    go_ret
    exact ⟨rfl, A⟩
  have d1 : decide ((n : Int) > 5) = false := decide_eq_false (by omega)
  have d2 : decide (5 < n) = false := decide_eq_false h5
  have d3 : decide ((5 : Int) < (n : Int)) = false := decide_eq_false (by omega)
  by_cases h14 : 14 < s.size
  · have d4 : decide ((s.size : Int) > 14) = true := decide_eq_true (by omega)
    have d5 : decide (14 < s.size) = true := decide_eq_true h14
    have d6 : decide ((14 : Int) < (s.size : Int)) = true := decide_eq_true (by omega)
    go_wp2_with fail
    go_ret
    exact ⟨rfl, A⟩
  have d4 : decide ((s.size : Int) > 14) = false := decide_eq_false (by omega)
  have d5 : decide (14 < s.size) = false := decide_eq_false h14
  have d6 : decide ((14 : Int) < (s.size : Int)) = false := decide_eq_false (by omega)
  have C := Lib.hid (table9_any ts HTS.out (by rw [HN.out]; omega) a cap w1 HT.out)
  rw [HN.out] at C
  have zz := Df.zero258.1
  go_wp2_with fail
  clear d1 d2 d3 d4 d5 d6
  refine C.out.mono ?_
  rintro e w2 hpo
  have HZ := Lib.hid (heap_alloc_new w2 (.cells Df.zT 42))
  rcases hpo with ⟨xs, v, F, nx, p, st, S, rfl, hrd, hcd, tv, bel, pl⟩ | ⟨rfl, bel, hno⟩
  rotate_left
  · have HZI := Lib.hid (show (Tryz.prog.info? 42).map (·.size) = some Df.zT.size by rw [Df.zT_size]; exact Df.zero258.2)
    have HZO := Lib.hid (show Df.zT.all (·.oneCell') = true by unfold Df.zT Bs.zeros; rw [Array.all_append, Bs.arr_one]; simp [Value.oneCell'])
    have hb := Df.below_row (Bs.below1 w2 (.cells Df.zT 42)) (Nat.le_refl _) Df.zT
    replace A := Bs.below_up (Bs.below_up A bel) hb
    clear C bel hb hno
    generalize Df.zT = D at *
    go_wp2_with (first
      | (refine wpList_store_row rfl 42 _ _ rfl w2.heap.size D rfl rfl 42 D HZ.out HZI.out rfl HZO.out ?_))
    go_ret
    exact ⟨rfl, A⟩
  obtain ⟨D, rfl, hDs, hDo⟩ := tv.cells
  have HPL := Lib.hid pl
  have HRT := Lib.hid pl.rtg
  have HRD := Lib.hid hrd
  have HWF := Lib.hid (Ng.fits_of hcd).wf
  have HDI := Lib.hid (show (Tryz.prog.info? 42).map (·.size) = some D.size by rw [hDs]; exact Df.zero258.2)
  have HDO := Lib.hid hDo
  have HDS := Lib.hid hDs
  have hb := Df.below_row (Bs.below1 w2 (.cells Df.zT 42)) (Nat.le_refl _) D
  have HA := Lib.hid (show Df.AW w w2.heap.size D (Df.kg xs) (Df.tN p nx S) (Df.tR (Df.rl F) S) ((w2.alloc (.cells Df.zT 42)).setRow w2.heap.size D) from ⟨setRow_heap _ _ _ _ _ _ HZ.out, tv.up hb, Bs.below_up (Bs.below_up A bel) hb⟩)
  replace HT := Lib.hid ((HT.out.up bel).up hb)
  clear C hrd hcd tv bel pl hDs hDo hb A
  go_upto_region 6 with (first
    | (refine wpList_store_row rfl 42 _ _ rfl w2.heap.size D rfl rfl 42 Df.zT HZ.out HDI.out (by rw [Df.zT_size, HDS.out]) HDO.out ?_))
  clear zz HZ
  generalize (w2.alloc (.cells Df.zT 42)).setRow w2.heap.size D = W1 at *
  generalize w2.heap.size = b1 at *
  have C := Lib.hid (allT_any (Df.kg xs) (Df.tN p nx S) (Df.tR (Df.rl F) S) (.agg D) s W1 HA.out.tv (by omega))
  go_wp2_with (first
    | (refine wpList_load_row rfl 42 _ rfl b1 rfl 42 D (0, 0) _ HA.out.row Tryz.underlying42 rfl HDI.out ?_))
  refine C.out.mono ?_
  rintro e w5 ⟨vl, l, c, rfl, hrow, hfin, hb⟩
  obtain ⟨hch, hon, hcs⟩ := Sc.fin_yes hfin HRT.out
  replace HT := Lib.hid (HT.out.up hb)
  have HBW := Lib.hid (Bs.below_up HA.out.bel hb)
  have HRW := Lib.hid hrow
  have HON := Lib.hid hon
  have HCH := Lib.hid hch
  obtain ⟨av, cv, rfl, hcell⟩ := hrow
  have HCE := Lib.hid hcell
  obtain ⟨nl, hnl⟩ : ∃ k, l.length = k := ⟨_, rfl⟩
  have HNL := Lib.hid hnl
  rw [hnl]
  have hnl14 : nl ≤ 14 := by have := (Sc.Ch.le hch (Nat.zero_le _)).1; omega
  clear C hb hch hon hfin hcell hnl HRW
  go_wp2_with fail
  go_loopg [9, 10] (nl + 1) (fun gk v9 v10 wr => ∃ i t : Nat, i + gk = nl + 1 ∧ i ≤ nl ∧ v9 = .int .i64 t ∧ v10 = .int .i64 i ∧ t ≤ s.size ∧ Hid (Sc.Ch (Df.kg xs) (Df.tN p nx S) (Df.tR (Df.rl F) S) (Px.by s) s.size t (l.drop i) c) ∧ Hid (Below w5.heap.size w5 wr))
  case atStart => exact ⟨0, 0, by omega, by omega, rfl, rfl, by omega, HCH, Lib.hid (Below.refl _ _)⟩
  case round =>
    obtain ⟨i, t, hi, hil, rfl, rfl, ht, HCI, HB⟩ := hrel
    obtain ⟨gk0, hgk0⟩ : ∃ x, x = gk := ⟨_, rfl⟩
    have d1 : decide ((i : Int) ≤ (nl : Int)) = true := decide_eq_true (by omega)
    have hw1 : IntKind.i64.wrap ((t : Int) + 1) = ((t + 1 : Nat) : Int) := by rw [IntWalk.i64_in _ (by omega)]; omega
    go_wp2_with fail
    obtain ⟨d, hd⟩ : ∃ d, d = s.size - t := ⟨_, rfl⟩
    go_loopg [11, 12, 13] d (fun gk v11 v12 v13 wr => ∃ q : Nat, q + gk = d ∧ v11 = .int .i64 ((t + (Sc.good (Df.kg xs) (Df.tN p nx S) (Df.tR (Df.rl F) S) (Sc.sh (Px.by s) t) q).2 : Nat) : Int) ∧ v12 = .int .i64 (Sc.good (Df.kg xs) (Df.tN p nx S) (Df.tR (Df.rl F) S) (Sc.sh (Px.by s) t) q).1 ∧ v13 = .int .i64 ((t + 1 + q : Nat) : Int) ∧ Hid (Below w5.heap.size w5 wr))
    case atStart => exact ⟨0, by omega, rfl, rfl, rfl, HB⟩
    case round =>
      clear HB
      obtain ⟨q, hq, rfl, rfl, rfl, HB⟩ := hrel
      by_cases hqd : q < d
      case neg =>
        obtain rfl : q = d := by omega
        have d2 : decide (((t + 1 + q : Nat) : Int) ≤ (s.size : Int)) = false := decide_eq_false (by omega)
        have d3 : decide ((t : Int) + 1 + (q : Int) ≤ (s.size : Int)) = false := decide_eq_false (by omega)
        by_cases hin : i = nl
        · subst hin
          have hch := HCI.out
          rw [List.drop_of_length_le (by rw [HNL.out]; exact Nat.le_refl _)] at hch
          have htc : t = c := hch
          have hno := HON.out
          rw [← htc] at hno
          have hcc : (c : Int) = (t : Int) := by rw [htc]
          have HR := Lib.hid (show ¬ (t < s.size ∧ 0 ≤ (Sc.good (Df.kg xs) (Df.tN p nx S) (Df.tR (Df.rl F) S) (Sc.sh (Px.by s) t) q).1) from fun h => hno ⟨h.1, by rw [← hd]; exact h.2⟩)
          have k1 : ((i : Int) == (i : Int)) = true := by simp
          have k2 : ((t : Int) == (c : Int)) = true := by simp [htc]
          have HTC := Lib.hid htc
          have HCC := Lib.hid hcc
          clear hch hno htc hcc
          generalize (Sc.good (Df.kg xs) (Df.tN p nx S) (Df.tR (Df.rl F) S) (Sc.sh (Px.by s) t) q).1 = rr at *
          generalize (t + (Sc.good (Df.kg xs) (Df.tN p nx S) (Df.tR (Df.rl F) S) (Sc.sh (Px.by s) t) q).2) = tt at *
          by_cases hr0 : rr < 0
          · have k3 : decide (rr < 0) = true := decide_eq_true hr0
            go_wp2_with fail
            go_ret
            exact ⟨rfl, HBW.out.trans (HB.out.mono HBW.out.size)⟩
          · have k3 : decide (rr < 0) = false := decide_eq_false hr0
            have hts2 : t = s.size := by
              have := HR.out
              omega
            have k4 : ((t : Int) == (s.size : Int)) = true := by simp [hts2]
            clear hts2
            go_wp2_with fail
            go_ret
            exact ⟨rfl, HBW.out.trans (HB.out.mono HBW.out.size)⟩
        · have hlt : i < nl := by omega
          have hil2 : i < l.length := by rw [HNL.out]; exact hlt
          obtain ⟨p0, rfl, hp0⟩ := HCE.out i hil2
          obtain ⟨hlx, hon, hch⟩ := Sc.ch_next hil2 HCI.out
          have hle := (Sc.pc_le (g := Df.kg xs) (N := Df.tN p nx S) (R := Df.tR (Df.rl F) S) (b := Px.by s) t ht).2
          obtain ⟨e0, e1, e2, e3⟩ := hp0.up HB.out
          have hru : l[i].rule = (Sc.good (Df.kg xs) (Df.tN p nx S) (Df.tR (Df.rl F) S) (Sc.sh (Px.by s) t) q).1 := by rw [hlx, hd]; rfl
          have hup : l[i].upto = ((t + (Sc.good (Df.kg xs) (Df.tN p nx S) (Df.tR (Df.rl F) S) (Sc.sh (Px.by s) t) q).2 : Nat) : Int) := by rw [hlx, hd]; rfl
          have heq : (Sc.pc (Df.kg xs) (Df.tN p nx S) (Df.tR (Df.rl F) S) (Px.by s) t (s.size - t)).upto = t + (Sc.good (Df.kg xs) (Df.tN p nx S) (Df.tR (Df.rl F) S) (Sc.sh (Px.by s) t) q).2 := by rw [hd]; rfl
          rw [heq] at hch hle
          have HC2 := Lib.hid hch
          rw [hru] at e0
          rw [hup] at e2
          clear hlx hon hch hru hup heq hp0 e1 e3
          generalize (Sc.good (Df.kg xs) (Df.tN p nx S) (Df.tR (Df.rl F) S) (Sc.sh (Px.by s) t) q).1 = rr at *
          generalize (t + (Sc.good (Df.kg xs) (Df.tN p nx S) (Df.tR (Df.rl F) S) (Sc.sh (Px.by s) t) q).2) = tt at *
          have i1 : (0 : Int) ≤ (i : Int) := by omega
          have i2 : (i : Int) < (nl : Int) := by omega
          have k1 : ((i : Int) == (nl : Int)) = false := by simp; omega
          have k2 : ((tt : Int) != (tt : Int)) = false := by simp
          have k3 : (rr != rr) = false := by simp
          go_wp2_with fail
          go_roundg (gk0 - 1)
          case measure => omega
          exact ⟨i + 1, tt, by omega, by omega, rfl, by go_num, hle, HC2, HB⟩
      case pos =>
        have d2 : decide (((t + 1 + q : Nat) : Int) ≤ (s.size : Int)) = true := decide_eq_true (by omega)
        have d3 : decide ((t : Int) + 1 + (q : Int) ≤ (s.size : Int)) = true := decide_eq_true (by omega)
        have hw2 : IntKind.i64.wrap ((n : Int) - 1) = (n : Int) - 1 := IntWalk.i64_in _ (by omega)
        have htq : t + (q + 1) ≤ s.size := by omega
        have HGT := Lib.hid (fun (mn : Int) (ok : Bool) (H : Nr.From xs (s.extract t (t + (q + 1))) 0 mn ok) => HPL.out.good_text HWF.out s htq H)
        generalize hg0 : Sc.good (Df.kg xs) (Df.tN p nx S) (Df.tR (Df.rl F) S) (Sc.sh (Px.by s) t) q = g0 at *
        clear hg0
        go_wp2_with fail
        obtain ⟨gk1, hgk1⟩ : ∃ x, x = gk := ⟨_, rfl⟩
        go_loopg [11, 12, 14] n (fun gk v11 v12 v14 wr => ∃ (mn : Int) (ok : Bool), gk ≤ n ∧ v14 = .int .i64 ((gk : Int) - 1) ∧ v11 = .int .i64 (Sc.pick ok ((t + 1 + q : Nat) : Int) ((t + g0.2 : Nat) : Int)) ∧ v12 = .int .i64 (Sc.pick ok mn g0.1) ∧ Hid (Nr.From xs (s.extract t (t + (q + 1))) gk mn ok) ∧ Hid (Below w5.heap.size w5 wr))
        case atStart => exact ⟨0, false, by omega, rfl, rfl, rfl, Lib.hid (Nr.from_end _ _ _ (by rw [← HRD.out.1, HN.out]; exact Nat.le_refl _)), HB⟩
        case round =>
          clear HB
          obtain ⟨mn, ok, hgn, rfl, rfl, rfl, HFR, HB⟩ := hrel
          cases gk with
          | zero =>
            have HGO := Lib.hid (HGT.out mn ok HFR.out)
            have hw3 : IntKind.i64.wrap (((t + 1 + q : Nat) : Int) + 1) = ((t + 1 + (q + 1) : Nat) : Int) := by rw [IntWalk.i64_in _ (by omega)]; omega
            have hw4 : IntKind.i64.wrap ((t : Int) + 1 + (q : Int) + 1) = (t : Int) + 1 + ((q : Int) + 1) := by rw [IntWalk.i64_in _ (by omega)]; omega
            go_wp2_with fail
            go_roundg (gk1 - 1)
            case measure => omega
            refine ⟨q + 1, by omega, ?_, ?_, by first | rfl | go_num, HB⟩
            · rw [HGO.out]
              cases ok
              · rfl
              · have : ((t + 1 + q : Nat) : Int) = ((t + (q + 1) : Nat) : Int) := by omega
                unfold Sc.pick
                rw [if_pos rfl, if_pos rfl, this]
            · rw [HGO.out]
              cases ok <;> rfl
          | succ m =>
            have hmt : m < ts.length := by rw [HN.out]; omega
            have hmx : m < xs.length := by rw [← HRD.out.1]; exact hmt
            obtain ⟨p0, rfl, hp0⟩ := (HT.out.up HB.out) m hmt
            obtain ⟨hc0, hpa, hma⟩ := HRD.out.2 m hmt hmx
            have P := Lib.hid (Parse_any ts[m] (HTS.out _ (List.getElem_mem hmt)) wr)
            have HC0 := Lib.hid hc0
            have HIT := Lib.hid (show Nr.hit xs (s.extract t (t + (q + 1))) m = Px.mt xs[m] (s.extract t (t + (q + 1))) by rw [Nr.hit_get hmx, Nr.mt_sp _ hma])
            have HPA := Lib.hid hpa
            generalize xs[m] = y at *
            generalize ts[m] = tq at *
            have i1 : (((m + 1 : Nat) : Int) - 1) = (m : Int) := by omega
            have i2 : (0 : Int) ≤ (m : Int) := by omega
            have i3 : (m : Int) < (n : Int) := by omega
            have i4 : decide ((m : Int) ≥ 0) = true := decide_eq_true i2
            have hw5 : IntKind.i64.wrap ((m : Int) - 1) = (m : Int) - 1 := IntWalk.i64_in _ (by omega)
            have i5 : ((m : Int) + 1 - 1) = (m : Int) := by omega
            rw [i1]
            clear hc0 hpa hma
            go_wp2_with fail
            refine P.out.mono ?_
            rintro e v1 ⟨_, y', rfl, hy, h1, _, hb⟩
            obtain ⟨hpy, _⟩ := h1 HC0.out
            have hyy : y' = y := by
              have := HPA.out
              rw [hpy] at this
              exact Option.some.inj this
            subst hyy
            obtain ⟨k1, f1, x1, n1, c1, rfl⟩ := hy.form
            have A := Bs.below1 v1 (.cells #[.int .u8 k1, .int .u64 (Bs.word f1 0), .int .u64 (Bs.word f1 1), .int .u64 (Bs.word f1 2), .int .u64 (Bs.word f1 3), .slice x1 n1 c1] 62)
            have HJ := Lib.hid (show Sc.JW w5 v1.heap.size y' k1 f1 x1 n1 c1 (v1.alloc (.cells #[.int .u8 k1, .int .u64 (Bs.word f1 0), .int .u64 (Bs.word f1 1), .int .u64 (Bs.word f1 2), .int .u64 (Bs.word f1 3), .slice x1 n1 c1] 62)) from ⟨Rx.nod_new v1 k1 f1 x1 n1 c1, (hy.up A).is, Bs.below_up (Bs.below_up HB.out hb) A⟩)
            rw [HC0.out]
            clear P hy h1 hpy hb A HB hp0
            unfold Rx.hdr
            go_upto_region 21 with fail
            generalize v1.alloc (.cells #[.int .u8 k1, .int .u64 (Bs.word f1 0), .int .u64 (Bs.word f1 1), .int .u64 (Bs.word f1 2), .int .u64 (Bs.word f1 3), .slice x1 n1 c1] 62) = W4 at *
            generalize v1.heap.size = b4 at *
            obtain ⟨sub, hsub⟩ : ∃ u, u = s.extract t (t + (q + 1)) := ⟨_, rfl⟩
            have hsub2 : s.extract t (t + 1 + q) = sub := by rw [hsub]; congr 1; omega
            have hsz : sub.size ≤ maxLen := by
              rw [hsub, (Sc.sub_by s htq).1]
              have := HSM.out
              omega
            rw [← hsub] at HIT HFR
            have HSZ := Lib.hid hsz
            have j1 : (0 : Int) ≤ (t : Int) := by omega
            have j2 : (t : Int) ≤ (t : Int) + 1 + (q : Int) := by omega
            have j3 : (t : Int) + 1 + (q : Int) ≤ (s.size : Int) := by omega
            have j4 : (0 : Int) ≤ (t : Int) + 1 + (q : Int) := by omega
            have j5 : ((t : Int) + 1 + (q : Int)).toNat = t + 1 + q := by omega
            have HSB := Lib.hid hsub
            clear hsub hsz
            refine Rg.regionU (by kernel_rfl) 116 (by kernel_rfl) (by kernel_rfl) (by decide) (by exact Nat.le_refl 116) (Rg.rel (Sc.relJ s sub t ((t : Int) + 1 + (q : Int)) (Px.mt y' sub) (.agg #[.int .u8 k1, .int .u64 (Bs.word f1 0), .int .u64 (Bs.word f1 1), .int .u64 (Bs.word f1 2), .int .u64 (Bs.word f1 3), .slice x1 n1 c1]))) (Sc.JW w5 b4 y' k1 f1 x1 n1 c1) (fun w w' => Below w.heap.size w w') (fun i v w w' h _ hb => Rg.rel_up (Sc.relJ_up _ _ _ _ _ _) h hb) (HJ.out.up (Below.refl _ _).drew) (Rg.guards [(2, true)] (by kernel_rfl) (fun p hp v w h => by rw [List.mem_singleton.1 hp] at h ⊢; exact h)) ⟨?_, ?_, ?_, ?_, ?_, ?_, ?_, ?_, ?_, trivial⟩ ?_
            · intro fv u hw hd
              have HW := Lib.hid hw
              clear hw hd
              simp only [Rg.step, Rg.all, Act.put, List.setIfInBounds_toArray, List.set_cons_zero, List.set_cons_succ]
              go_simp
              first | exact ⟨rfl, HW.out, Below.refl _ _⟩ | exact ⟨HW.out, Below.refl _ _⟩
            · intro fv u hw hd
              have e0 : fv 0 = .int .i64 0 := hd _ (List.mem_cons_self ..)
              have HW := Lib.hid hw
              clear hw hd
              simp only [Rg.step, Rg.all, Act.put, List.setIfInBounds_toArray, List.set_cons_zero, List.set_cons_succ]
              go_simp
              first | exact ⟨rfl, HW.out, Below.refl _ _⟩ | exact ⟨HW.out, Below.refl _ _⟩
            · intro fv u hw hd
              have e1 : fv 1 = .bool true := hd _ (List.mem_cons_self ..)
              have HW := Lib.hid hw
              clear hw hd
              simp only [Rg.step, Rg.all, Act.put, List.setIfInBounds_toArray, List.set_cons_zero, List.set_cons_succ]
              go_simp
              first | exact ⟨rfl, HW.out, Below.refl _ _⟩ | exact ⟨HW.out, Below.refl _ _⟩
            · intro fv u hw hd
              have c0 := hw.nd.cell.c0; have c1' := hw.nd.cell.c1; have c2' := hw.nd.cell.c2; have c3 := hw.nd.cell.c3; have c4 := hw.nd.cell.c4; have c5 := hw.nd.cell.c5
              simp only [Nat.zero_add] at c0 c1' c2' c3 c4 c5
              have HW := Lib.hid hw
              clear hw hd
              simp only [Rg.step, Rg.all, Act.put, List.setIfInBounds_toArray, List.set_cons_zero, List.set_cons_succ]
              go_simp
              first | exact ⟨rfl, HW.out, Below.refl _ _⟩ | exact ⟨HW.out, Below.refl _ _⟩
            · intro fv u hw hd
              have HW := Lib.hid hw
              clear hw hd
              simp only [Rg.step, Rg.all, Act.put, List.setIfInBounds_toArray, List.set_cons_zero, List.set_cons_succ]
              go_simp
              first | exact ⟨rfl, HW.out, Below.refl _ _⟩ | exact ⟨HW.out, Below.refl _ _⟩
            · intro fv u hw hd
              have HW := Lib.hid hw
              clear hw hd
              simp only [Rg.step, Rg.all, Act.put, List.setIfInBounds_toArray, List.set_cons_zero, List.set_cons_succ]
              go_simp
              first | exact ⟨rfl, HW.out, Below.refl _ _⟩ | exact ⟨HW.out, Below.refl _ _⟩
            · intro fv u hw hd
              have HW := Lib.hid hw
              clear hw hd
              simp only [Rg.step, Rg.all, Act.put, List.setIfInBounds_toArray, List.set_cons_zero, List.set_cons_succ]
              go_simp
              first | exact ⟨rfl, HW.out, Below.refl _ _⟩ | exact ⟨HW.out, Below.refl _ _⟩
            · intro fv u hw hd
              have e4 : fv 4 = .string s := hd _ (List.mem_cons_self ..)
              have e5 : fv 5 = .int .i64 t := hd _ (List.mem_cons_of_mem _ (List.mem_cons_self ..))
              have e6 : fv 6 = .int .i64 ((t : Int) + 1 + (q : Int)) := hd _ (List.mem_cons_of_mem _ (List.mem_cons_of_mem _ (List.mem_cons_self ..)))
              have HW := Lib.hid hw
              clear hw hd
              simp only [Rg.step, Rg.all, Act.put, List.setIfInBounds_toArray, List.set_cons_zero, List.set_cons_succ]
              go_simp
              first | exact ⟨rfl, HW.out, Below.refl _ _⟩ | exact ⟨HW.out, Below.refl _ _⟩
            · intro fv u hw hd
              have e3 : fv 3 = .agg #[.int .u8 k1, .int .u64 (Bs.word f1 0), .int .u64 (Bs.word f1 1), .int .u64 (Bs.word f1 2), .int .u64 (Bs.word f1 3), .slice x1 n1 c1] := hd _ (List.mem_cons_self ..)
              have e7 : fv 7 = .string sub := hd _ (List.mem_cons_of_mem _ (List.mem_cons_self ..))
              have HM := Lib.hid (Matches_any y' _ sub u hw.ex HSZ.out)
              unfold Rx.hdr at HM
              have HW := Lib.hid hw
              clear hw hd
              simp only [Rg.step, Rg.all, Act.put, List.setIfInBounds_toArray, List.set_cons_zero, List.set_cons_succ]
              go_simp
              refine HM.out.mono ?_
              rintro e u1 ⟨rfl, hb⟩
              exact ⟨_, rfl, rfl, HW.out.up hb, hb⟩
            · intro fv u hw hR o ho
              have r8 : fv 8 = .bool (Px.mt y' sub) := hR 8 (by decide)
              have r2 : fv 2 = .bool true := hR 2 (by decide)
              simp at ho
              subst ho
              simp only [Rg.step, Rg.all, Act.put, List.setIfInBounds_toArray, List.set_cons_zero, List.set_cons_succ]
              have HB9 := Lib.hid hw.bel
              clear hw hR HJ
              obtain ⟨mt, hmt9⟩ : ∃ b, Px.mt y' sub = b := ⟨_, rfl⟩
              rw [hmt9] at HIT r8
              clear hmt9
              cases mt with
              | true =>
                have HF9 := Lib.hid (Nr.From.hit (mn := 0) (ok := false) HIT.out)
                go_simp
                go_wp2_with fail
                go_roundg m
                case measure => omega
                exact ⟨m, true, by omega, by go_num, by first | rfl | go_num, rfl, by rw [← HSB.out]; exact HF9, HB9⟩
              | false =>
                have HF9 := Lib.hid (Nr.From.miss HFR.out HIT.out)
                go_simp
                go_wp2_with fail
                go_roundg m
                case measure => omega
                exact ⟨mn, ok, by omega, by go_num, by first | rfl | go_num, rfl, by rw [← HSB.out]; exact HF9, HB9⟩
end Go.Proofs.YthapedadnbkgnaaGreat
namespace Go.Proofs.YthapedadnbkgnaaGreat
set_option linter.unusedVariables false
set_option linter.unusedSimpArgs false
open Go.ChangeShapes Go.WideShapes Go.Deep Go.RowKit
end Go.Proofs.YthapedadnbkgnaaGreat
namespace Go.Proofs.YthapedadnbkgnaaGreat
set_option linter.unusedVariables false
set_option linter.unusedSimpArgs false
open Go.ChangeShapes Go.WideShapes Go.Deep Go.RowKit
end Go.Proofs.YthapedadnbkgnaaGreat
namespace Go.Proofs.YthapedadnbkgnaaGreat
set_option linter.unusedVariables false
set_option linter.unusedSimpArgs false
open Go.ChangeShapes Go.WideShapes Go.Deep Go.RowKit
set_option maxRecDepth 100000 in
theorem Sc.strs_open {H : Type} {enc : TypeId × Value → H} {W : World} {base : Nat} {spare : Nat → Bool} {held : Bool} {fuel : Nat} {a : Option Addr} {len cap : Nat} {x : DataW H × List MemPlace}
    (h : DataW.trod enc Tryz.prog W base spare held fuel 55 [.slice a len cap] = some x) : ∃ ts : List ByteArray, ts.length = len ∧ len ≤ maxLen ∧ (∀ t ∈ ts, t.size ≤ maxLen) ∧ Sc.Strs W a ts := by
  rcases open_strings Tryz.underlying55 Tryz.underlying9 (by kernel_rfl) h with ⟨hcs, _⟩ | ⟨b, l, c, ss, hcs, _, hl, hm, hs, _, hcell, hsz⟩
  · simp at hcs
    obtain ⟨rfl, rfl, rfl⟩ := hcs
    exact ⟨[], rfl, by unfold maxLen; omega, fun t ht => by simp at ht, fun i hi => by simp at hi⟩
  · simp at hcs
    obtain ⟨rfl, rfl, rfl⟩ := hcs
    have hs' : len ≤ ss.length := by
      have h0 := hs
      split at h0 <;> omega
    have hlz : (ss.take len).length = len := by rw [List.length_take]; omega
    refine ⟨ss.take len, hlz, Nat.le_trans hl hm, fun t ht => hsz t (List.mem_of_mem_take ht), fun i hi => ⟨b, rfl, ?_⟩⟩
    rw [hlz] at hi
    have h1 := hcell i (by omega)
    rw [List.getD_eq_getElem?_getD, List.getElem?_eq_getElem (by omega)] at h1
    rw [List.getElem_take]
    exact h1
end Go.Proofs.YthapedadnbkgnaaGreat
