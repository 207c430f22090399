/- The law EditDiffs, walked. -/
import Derived.Test.YtigibeioapkgiaaEdQ
import Derived.Test.YtigibeioapkgiaaEdI
import Derived.Test.YtigibeioapkgiaaRnK
import Derived.Deep.CutBlock
namespace Go.Proofs.Ytigibeioapkgiaa
set_option linter.unusedVariables false
set_option linter.unusedSimpArgs false
open Go.RowKit
theorem Ed.made_any {s : ByteArray} {ns : List Int} {j : Nat} (h : Made s ns j) (z : Int) : ∃ ns', Made (s ++ strOfNums (Rn.bytesI z)) ns' (j + 1) := by
  rcases Bool.eq_false_or_eq_true (Rn.signI z) with hz | hz
  · exact ⟨_, h.on z hz⟩
  · have e : Rn.bytesI z = [] := by unfold Rn.bytesI; rw [hz]; simp
    have e2 : s ++ strOfNums (Rn.bytesI z) = s := by
      rw [e]; apply ByteArray.ext; rw [ByteArray.data_append]; simp [strOfNums]
    exact ⟨ns, by rw [e2]; exact h.skip⟩
theorem Ed.made_whole {s : ByteArray} {ns : List Int} {j : Nat} (h : Made s ns j) : Rn.wholeL s.data.toList = true := by rw [h.eq]; exact Rn.whole_cat ns h.sg
theorem Ed.ext_edge (s : ByteArray) (B : Nat) (hB : B ≤ s.size) (i : Int) (h0 : 0 ≤ i) : Rn.edgeB (s.extract B s.size) i = Rn.edgeB s (B + i) := by
  have e : (s.extract B s.size).size = s.size - B := by simp
  have e2 : ((B : Int) + i).toNat = B + i.toNat := by omega
  rw [Bool.eq_iff_iff, Ed.edge_head, Ed.edge_head, tail_data, List.drop_drop, e, e2]
  constructor
  · rintro ⟨h1, h2, h3⟩; exact ⟨by omega, by omega, h3⟩
  · rintro ⟨h1, h2, h3⟩; exact ⟨h0, by omega, h3⟩
/-- what is known of the edit between two whole texts -/
structure Ed.DF (s t : ByteArray) (B : Nat) (o : Ed.E) : Prop where
  pos : o.pos = B
  d0 : 0 ≤ o.del
  d1 : B + o.del ≤ s.size
  bs : B ≤ s.size
  bt : B ≤ t.size
  may : Ed.May s.size 0 [o]
  wf : Ed.Wf [o]
  chk : Ed.chk s [o] 0 0 = 0
  app : Rp.ofL (Ed.app s.data.toList [o]) = t
  most : ∀ k : Nat, B < k → k ≤ s.size → k ≤ t.size → Rn.edgeB s k = true → Rn.edgeB t k = true → s.data.toList.take k ≠ t.data.toList.take k
  hit : Rn.edgeB s B = true ∧ Rn.edgeB t B = true ∧ s.data.toList.take B = t.data.toList.take B
  least : ∀ d k : Nat, (d : Int) < o.del → (t.size : Int) - ((s.size : Int) - B - d) = k → B ≤ k → Rn.edgeB s (B + d : Nat) = true → Rn.edgeB t k = true → s.data.toList.drop (B + d) ≠ t.data.toList.drop k
theorem Ed.diff_facts {s t : ByteArray} (hs : s.size ≤ 1000) (ht : t.size ≤ 1000) (ws : Rn.wholeL s.data.toList = true) (wt : Rn.wholeL t.data.toList = true) {B K : Nat} (hB : Ed.Beg s t B) (hK : Ed.Tl (s.extract B s.size) (t.extract B t.size) K) :
    Ed.DF s t B ⟨B, (s.size - B - K : Nat), (t.extract B t.size).extract 0 (t.size - B - K)⟩ := by
  have eS : (s.extract B s.size).size = s.size - B := by simp
  have eT : (t.extract B t.size).size = t.size - B := by simp
  have bs := hB.bs
  have bt := hB.bt
  have ks := hK.ks
  have kt := hK.kt
  rw [eS] at ks
  rw [eT] at kt
  have ed : Rn.edgeB s B = true ∧ Rn.edgeB t B = true := by
    rcases hB.ed with rfl | h
    · exact ⟨(Ed.edge_head _ _).2 ⟨by omega, by omega, Ed.whole_head ws⟩, (Ed.edge_head _ _).2 ⟨by omega, by omega, Ed.whole_head wt⟩⟩
    · exact h
  obtain ⟨f1, f2⟩ := hK.ed
  rw [eS, Ed.ext_edge s B bs _ (by omega), show (B : Int) + (((s.size - B : Nat) : Int) - K) = B + ((s.size - B - K : Nat) : Int) by omega] at f1
  rw [eT, Ed.ext_edge t B bt _ (by omega), show (B : Int) + (((t.size - B : Nat) : Int) - K) = ((B + (t.size - B - K) : Nat) : Int) by omega] at f2
  have hi : ((t.extract B t.size).extract 0 (t.size - B - K)).data.toList = (t.data.toList.drop B).take (t.size - B - K) := by rw [Rp.ext_left, tail_data]
  have hiz : ((t.extract B t.size).extract 0 (t.size - B - K)).size = t.size - B - K := by
    rw [← Rn.len_data0, hi, List.length_take, List.length_drop, Rn.len_data0]; omega
  have hw : Rn.wholeL ((t.extract B t.size).extract 0 (t.size - B - K)).data.toList = true := by
    have := Ed.piece_whole wt (a := B) (b := B + (t.size - B - K)) (by omega) (by omega) ed.2 f2
    rw [Lib.extract_data, show B + (t.size - B - K) - B = t.size - B - K by omega] at this
    rw [hi]; exact this
  have happ : Ed.app s.data.toList [⟨B, (s.size - B - K : Nat), (t.extract B t.size).extract 0 (t.size - B - K)⟩] = t.data.toList := by
    show s.data.toList.take (B : Int).toNat ++ ((t.extract B t.size).extract 0 (t.size - B - K)).data.toList ++ s.data.toList.drop ((B : Int) + ((s.size - B - K : Nat) : Int)).toNat = _
    have hd := hK.eq
    rw [tail_data, tail_data, eS, eT, List.drop_drop, List.drop_drop] at hd
    rw [hi, Int.toNat_natCast, hB.eq, show ((B : Int) + ((s.size - B - K : Nat) : Int)).toNat = B + (s.size - B - K) by omega, hd, List.append_assoc, ← List.drop_drop, List.take_append_drop, List.take_append_drop]
  have hmay : Ed.May s.size 0 [⟨B, (s.size - B - K : Nat), (t.extract B t.size).extract 0 (t.size - B - K)⟩] := ⟨by show (0 : Int) ≤ (B : Int); omega, by show (0 : Int) ≤ ((s.size - B - K : Nat) : Int); omega, by show (B : Int) + ((s.size - B - K : Nat) : Int) ≤ _; omega, trivial⟩
  refine ⟨rfl, by show (0 : Int) ≤ ((s.size - B - K : Nat) : Int); omega, by show (B : Int) + ((s.size - B - K : Nat) : Int) ≤ _; omega, bs, bt, hmay, ⟨by simp, ?_⟩, ?_, ?_, hB.most, ⟨ed.1, ed.2, hB.eq⟩, ?_⟩
  · intro e he
    obtain rfl : e = _ := by simpa using he
    exact ⟨by rw [hiz]; omega, by show _ ≤ (B : Int); omega, by show (B : Int) ≤ _; omega, by show _ ≤ ((s.size - B - K : Nat) : Int); omega, by show ((s.size - B - K : Nat) : Int) ≤ _; omega⟩
  · refine Ed.chk_of hmay ?_ ?_
    · intro e he
      obtain rfl : e = _ := by simpa using he
      exact ⟨ed.1, f1, hw⟩
    · show (s.size : Int) + 0 + ((((t.extract B t.size).extract 0 (t.size - B - K)).size : Int) - ((s.size - B - K : Nat) : Int) + 0) ≤ 4000
      rw [hiz]; omega
  · rw [happ, Rp.ofL_self]
  · intro d k hd hk hBk e1 e2 he
    have hd' : (d : Int) < ((s.size - B - K : Nat) : Int) := hd
    refine hK.most (s.size - B - d) (by omega) (by omega) (by omega) ?_ ?_ ?_
    · rw [eS, Ed.ext_edge s B bs _ (by omega), show (B : Int) + (((s.size - B : Nat) : Int) - ((s.size - B - d : Nat) : Int)) = ((B + d : Nat) : Int) by omega]; exact e1
    · rw [eT, Ed.ext_edge t B bt _ (by omega), show (B : Int) + (((t.size - B : Nat) : Int) - ((s.size - B - d : Nat) : Int)) = (k : Int) by omega]; exact e2
    · rw [tail_data, tail_data, eS, eT, List.drop_drop, List.drop_drop, show B + (s.size - B - (s.size - B - d)) = B + d by omega, show B + (t.size - B - (s.size - B - d)) = k by omega]; exact he
/-- the greatest place so far, ahead of k -/
def Ed.Best (B k n : Nat) : Prop := (k = 0 → n = 0) ∧ (B < k → n = B)
theorem Ed.Best.no {B k n : Nat} (h : Ed.Best B k n) (hk : k ≠ B) : Ed.Best B (k + 1) n := ⟨fun e => by omega, fun e => h.2 (by omega)⟩
theorem Ed.Best.yes {B k n : Nat} (h : Ed.Best B k n) (hk : ¬ B < k) : Ed.Best B (k + 1) k := ⟨fun e => by omega, fun e => by omega⟩
theorem Ed.cells_of {k : IntKind} {w : World} {a : Option Addr} {len cap : Nat} {zs : List Int} (hr : IsRow k w a len cap zs) : len ≤ 2 ^ 63 - 1 ∧ ∀ j : Nat, j < len → ∃ b off, a = some ⟨b, off, none⟩ ∧ b < w.heap.size ∧ w.cell? ⟨b, off + j, none⟩ = some (.int k (zs.getD j 0)) := by
  constructor
  · rcases hr with ⟨_, h, _⟩ | ⟨_, _, h1, h2, _⟩
    · omega
    · unfold maxLen at h2; omega
  · intro j hj
    rcases hr with ⟨_, h, _⟩ | ⟨p, rfl, h1, h2, h3, h4, h5⟩
    · omega
    · have h0 := h4 j (by omega)
      obtain ⟨b, off, rfl, hc⟩ := ints_at h4 (by omega)
      have h1 := hc j (by omega)
      exact ⟨b, off, rfl, World.block_lt_of_cell? w _ h1, h1⟩
def Ed.WInv (w : World) (len : Nat) (g : Nat) (v5 v7 : Value) (wr : World) : Prop :=
  ∃ (k : Nat) (S : ByteArray) (ns : List Int), g + k = 60 ∧ k ≤ len ∧ v5 = .string S ∧ v7 = .int .i64 k ∧ Made S ns k ∧ Below w.heap.size w wr
def Ed.WOut (w : World) (v5 : Value) (wr : World) : Prop := ∃ S : ByteArray, v5 = .string S ∧ S.size ≤ 240 ∧ Rn.wholeL S.data.toList = true ∧ Below w.heap.size w wr
set_option maxRecDepth 100000 in
set_option maxHeartbeats 2000000 in
theorem diffsLaw_any (a b : Option Addr) (len cap len' cap' : Nat) (zs zs' : List Int) (w : World) (hr : IsRow .i64 w a len cap zs) (hr' : IsRow .i64 w b len' cap' zs') :
    Calls Try.prog 6 #[.slice a len cap, .slice b len' cap'] w (Rp.BPost w true) := by
  obtain ⟨hlen, hcell⟩ := Ed.cells_of hr
  obtain ⟨hlen', hcell'⟩ := Ed.cells_of hr'
  have HC := Lib.hid hcell
  have HC' := Lib.hid hcell'
  clear hcell hcell' hr hr'
  go_enter Try.func6, Try.ntmps6
  go_upto_block 0 with (go_at_call 7; refine (alive4_any _).mono ?_; rintro e w1 ⟨rfl, hb1⟩)
  go_cut [5] (fun v5 wx => Ed.WOut w v5 wx)
  case first =>
    go_wp2_with fail
    go_loopg [5, 7] 60 (fun g v5 v7 wr => Ed.WInv w len g v5 v7 wr)
    case atStart => exact ⟨0, ⟨#[]⟩, [], by omega, by omega, rfl, rfl, ⟨rfl, by intro m hm; simp at hm, by decide, by simp⟩, hb1⟩
    case round =>
      clear hb1
      obtain ⟨k, S, ns, hg, hk1, rfl, rfl, hm, hb⟩ := hrel
      have hsz := hm.sz
      have HM := Lib.hid hm; clear hm
      by_cases hgo : k < len ∧ k < 60
      · obtain ⟨hlt, hlt2⟩ := hgo
        obtain ⟨bk, off, rfl, hbl, hc0⟩ := HC.out k hlt
        have hc := (hb.cell (p := ⟨bk, off + k, none⟩) hbl).trans hc0
        clear hc0
        generalize zs.getD k 0 = z at hc
        have hz4 : (strOfNums (Rn.bytesI z)).size ≤ 4 := by rw [strOfNums_size]; exact bytesI_len z
        go_wp2_with (go_at_call 23; refine (refBytes_any _ _).mono ?_; rintro e w6 ⟨rfl, hx6⟩; replace hb := bthen hb hx6; clear hx6)
        obtain ⟨ns', hm'⟩ := Ed.made_any HM.out z
        go_roundg (gk - 1)
        case measure => omega
        exact ⟨k + 1, _, ns', by omega, by omega, rfl, by go_num, hm', hb⟩
      · have hout : (k < len ∧ ¬ (k : Int) < 60) ∨ ¬ (k : Int) < len := by omega
        clear hgo
        rcases hout with ⟨hlt, hout⟩ | hout
        all_goals
          go_wp2_with fail
          go_meet
          exact ⟨S, rfl, by omega, Ed.made_whole HM.out, hb⟩
  case rest =>
    clear hb1
    obtain ⟨S, rfl, hS, wS, hb1⟩ := hcut
    have HS := Lib.hid wS; clear wS
    go_upto_block 2 with fail
    go_cut [6] (fun v6 wx => Ed.WOut w v6 wx)
    case first =>
      go_wp2_with fail
      go_loopg [6, 8] 60 (fun g v6 v8 wr => Ed.WInv w len' g v6 v8 wr)
      case atStart => exact ⟨0, ⟨#[]⟩, [], by omega, by omega, rfl, rfl, ⟨rfl, by intro m hm; simp at hm, by decide, by simp⟩, hb1⟩
      case round =>
        clear hb1
        obtain ⟨k, T, ns, hg, hk1, rfl, rfl, hm, hb⟩ := hrel
        have hsz := hm.sz
        have HM := Lib.hid hm; clear hm
        by_cases hgo : k < len' ∧ k < 60
        · obtain ⟨hlt, hlt2⟩ := hgo
          obtain ⟨bk, off, rfl, hbl, hc0⟩ := HC'.out k hlt
          have hc := (hb.cell (p := ⟨bk, off + k, none⟩) hbl).trans hc0
          clear hc0
          generalize zs'.getD k 0 = z at hc
          have hz4 : (strOfNums (Rn.bytesI z)).size ≤ 4 := by rw [strOfNums_size]; exact bytesI_len z
          go_wp2_with (go_at_call 23; refine (refBytes_any _ _).mono ?_; rintro e w6 ⟨rfl, hx6⟩; replace hb := bthen hb hx6; clear hx6)
          obtain ⟨ns', hm'⟩ := Ed.made_any HM.out z
          go_roundg (gk - 1)
          case measure => omega
          exact ⟨k + 1, _, ns', by omega, by omega, rfl, by go_num, hm', hb⟩
        · have hout : (k < len' ∧ ¬ (k : Int) < 60) ∨ ¬ (k : Int) < len' := by omega
          clear hgo
          rcases hout with ⟨hlt, hout⟩ | hout
          all_goals
            go_wp2_with fail
            go_meet
            exact ⟨T, rfl, by omega, Ed.made_whole HM.out, hb⟩
    case rest =>
      clear hb1
      obtain ⟨T, rfl, hT, wT, hb1⟩ := hcut
      have HT := Lib.hid wT; clear wT
      go_wp2_with fail
      refine (diff_any S T _ (by omega) (by omega)).mono ?_
      rintro e w2 ⟨B, K, hB, hK, rfl, hb2⟩
      have hdf := Ed.diff_facts (by omega) (by omega) HS.out HT.out hB hK
      clear hB hK HS HT
      have eo : ∃ o : Ed.E, o = ⟨B, (S.size - B - K : Nat), (T.extract B T.size).extract 0 (T.size - B - K)⟩ := ⟨_, rfl⟩
      obtain ⟨o, ho⟩ := eo
      have q0 : (B : Int) = o.pos := by rw [ho]
      have q1 : ((S.size - B - K : Nat) : Int) = o.del := by rw [ho]
      have q2 : (T.extract B T.size).extract 0 (T.size - B - K) = o.ins := by rw [ho]
      rw [← ho] at hdf
      rw [q0, q1, q2]
      have HDF := Lib.hid hdf
      clear q0 q1 q2 ho hdf
      have Bw := Rp.below_up (Rp.below_up hb1 hb2) (Rp.below_al w2 (.cells #[.int .i64 o.pos, .int .i64 o.del, .string o.ins] 46))
      obtain ⟨n0, n1, n2⟩ := Ed.at_new w2 o
      simp only [Nat.zero_add] at n1 n2
      clear hb1 hb2
      go_wp2_with fail
      have A := Ed.at_new w2 o
      have hbx := Rp.below_al (w2.alloc (.cells #[.int .i64 o.pos, .int .i64 o.del, .string o.ins] 46)) (.cells #[.int .i64 o.pos, .int .i64 o.del, .string o.ins] 46)
      have R := Ed.row_one (w2.alloc (.cells #[.int .i64 o.pos, .int .i64 o.del, .string o.ins] 46)) o
      have eN : (w2.alloc (.cells #[.int .i64 o.pos, .int .i64 o.del, .string o.ins] 46)).heap.size = w2.heap.size + 1 := by simp [go_sem]
      rw [eN] at R
      replace A := A.up hbx
      replace Bw := Rp.below_up Bw hbx
      clear n0 n1 n2 hbx eN
      generalize (w2.alloc (.cells #[.int .i64 o.pos, .int .i64 o.del, .string o.ins] 46)).alloc (.cells #[.int .i64 o.pos, .int .i64 o.del, .string o.ins] 46) = W2 at *
      generalize w2.heap.size = N at *
      have CK := refCheck_any S (some ⟨N + 1, 0, none⟩) [o] 1 W2 (by omega) R HDF.out.wf
      rw [HDF.out.chk] at CK
      refine CK.mono ?_
      rintro e w3 ⟨rfl, hb3⟩
      replace A := A.up hb3
      replace Bw := Rp.below_up Bw hb3
      clear hb3 CK R
      obtain ⟨n0, n1, n2⟩ := id A
      simp only [Nat.zero_add] at n1 n2
      go_wp2_with fail
      have R := Ed.row_one w3 o
      have hbx := Rp.below_al w3 (.cells #[.int .i64 o.pos, .int .i64 o.del, .string o.ins] 46)
      replace A := A.up hbx
      replace Bw := Rp.below_up Bw hbx
      clear n0 n1 n2 hbx
      generalize w3.alloc (.cells #[.int .i64 o.pos, .int .i64 o.del, .string o.ins] 46) = W3 at *
      have AP := refApply_any S (some ⟨w3.heap.size, 0, none⟩) [o] 1 W3 (by omega) R HDF.out.wf HDF.out.may
      rw [HDF.out.app] at AP
      refine AP.mono ?_
      rintro e w4 ⟨rfl, hb4⟩
      replace A := A.up hb4
      replace Bw := Rp.below_up Bw hb4
      clear hb4 AP R
      have hbs := HDF.out.bs
      have hbt := HDF.out.bt
      go_upto_block 4 with fail
      go_cut [10] (fun v10 wx => v10 = .int .i64 B ∧ Ed.At wx ⟨N, 0, none⟩ o ∧ Below w.heap.size w wx)
      case first =>
        go_wp2_with fail
        go_loopg [10, 11] (S.size + 1) (fun g v10 v11 wr => ∃ k n : Nat, g + k = S.size + 1 ∧ v10 = .int .i64 n ∧ v11 = .int .i64 k ∧ Ed.Best B k n ∧ Ed.At wr ⟨N, 0, none⟩ o ∧ Below w.heap.size w wr)
        case atStart => exact ⟨0, 0, by omega, rfl, rfl, ⟨fun _ => rfl, fun h => by omega⟩, A, Bw⟩
        case round =>
          clear A Bw
          obtain ⟨k, n, hg, rfl, rfl, hbest, A, Bw⟩ := hrel
          have HBE := Lib.hid hbest; clear hbest
          by_cases hgo : k ≤ S.size ∧ k ≤ T.size
          · obtain ⟨l1, l2⟩ := hgo
            have i0 : (0 : Int) ≤ (k : Int) := by omega
            have i1 : (k : Int) ≤ (S.size : Int) := by omega
            have i2 : (k : Int) ≤ (T.size : Int) := by omega
            have hes : ∀ w', Calls Try.prog 25 #[.string S, .int .i64 k] w' fun e w'' => e = .returned (.bool (Rn.edgeB S k)) ∧ w' = w'' := fun w' => refEdge_any S k w' (by unfold maxLen; omega)
            have het : ∀ w', Calls Try.prog 25 #[.string T, .int .i64 k] w' fun e w'' => e = .returned (.bool (Rn.edgeB T k)) ∧ w' = w'' := fun w' => refEdge_any T k w' (by unfold maxLen; omega)
            have hne := fun (h : ¬ (Rn.edgeB S k = true ∧ Rn.edgeB T k = true ∧ S.data.toList.take k = T.data.toList.take k)) => HBE.out.no (fun e => h (by rw [e]; exact HDF.out.hit))
            have hye := fun (h1 : Rn.edgeB S k = true) (h2 : Rn.edgeB T k = true) (h3 : S.data.toList.take k = T.data.toList.take k) => HBE.out.yes (fun e => HDF.out.most k e l1 l2 h1 h2 h3)
            have HNE := Lib.hid hne; have HYE := Lib.hid hye
            clear hne hye
            by_cases hq : S.data.toList.take k = T.data.toList.take k
            · have hpe : S.extract 0 k = T.extract 0 k := by
                apply ByteArray.ext; apply Array.toList_inj.1; rw [Rp.ext_left, Rp.ext_left]; exact hq
              have HQ := Lib.hid hq; clear hq
              rcases Bool.eq_false_or_eq_true (Rn.edgeB S k) with q1 | q1
              · rw [q1] at hes
                have HES := Lib.hid hes; clear hes
                rcases Bool.eq_false_or_eq_true (Rn.edgeB T k) with q2 | q2
                · rw [q2] at het
                  have HET := Lib.hid het; clear het
                  go_wp2_with fail
                  go_quiet ((first | (go_at_call_of 25 (Value.string S); exact quietly (HES.out _)) | (go_at_call_of 25 (Value.string T); exact quietly (HET.out _))))
                  go_wp2_with fail
                  go_roundg (gk - 1)
                  case measure => omega
                  exact ⟨k + 1, k, by omega, rfl, by go_num, HYE.out q1 q2 HQ.out, A.up (Rp.below_drewN (Below.refl _ _) _), Rp.below_drewN Bw _⟩
                · rw [q2] at het
                  have HET := Lib.hid het; clear het
                  go_wp2_with fail
                  go_quiet ((first | (go_at_call_of 25 (Value.string S); exact quietly (HES.out _)) | (go_at_call_of 25 (Value.string T); exact quietly (HET.out _))))
                  go_wp2_with fail
                  go_roundg (gk - 1)
                  case measure => omega
                  exact ⟨k + 1, n, by omega, rfl, by go_num, HNE.out (fun h => by rw [q2] at h; simp at h), A.up (Rp.below_drewN (Below.refl _ _) _), Rp.below_drewN Bw _⟩
              · rw [q1] at hes
                have HES := Lib.hid hes; clear hes het
                go_wp2_with fail
                go_quiet ((go_at_call_of 25 (Value.string S); exact quietly (HES.out _)))
                go_wp2_with fail
                go_roundg (gk - 1)
                case measure => omega
                exact ⟨k + 1, n, by omega, rfl, by go_num, HNE.out (fun h => by rw [q1] at h; simp at h), A.up (Rp.below_drewN (Below.refl _ _) _), Rp.below_drewN Bw _⟩
            · have hpe : ((S.extract 0 k).toList == (T.extract 0 k).toList) = false := by
                rw [beq_eq_false_iff_ne, ByteArray.toList_eq, ByteArray.toList_eq, Rp.ext_left, Rp.ext_left]; exact hq
              have HQ := Lib.hid hq; clear hq hes het
              go_wp2_with fail
              go_quiet (fail)
              go_wp2_with fail
              go_roundg (gk - 1)
              case measure => omega
              exact ⟨k + 1, n, by omega, rfl, by go_num, HNE.out (fun h => HQ.out h.2.2), A.up (Rp.below_drewN (Below.refl _ _) _), Rp.below_drewN Bw _⟩
          · have hout : ((k : Int) ≤ (S.size : Int) ∧ ¬ (k : Int) ≤ (T.size : Int)) ∨ ¬ (k : Int) ≤ (S.size : Int) := by omega
            have hn : n = B := HBE.out.2 (by omega)
            subst hn
            clear hgo
            rcases hout with ⟨hlt, hout⟩ | hout
            all_goals
              go_wp2_with fail
              go_meet
              exact ⟨rfl, A, Bw⟩
      case rest =>
        clear A Bw
        obtain ⟨rfl, A, Bw⟩ := hcut
        obtain ⟨n0, n1, n2⟩ := id A
        simp only [Nat.zero_add] at n1 n2
        rw [HDF.out.pos] at n0
        obtain ⟨D, hD⟩ := Int.eq_ofNat_of_zero_le HDF.out.d0
        have hd1 := HDF.out.d1
        rw [hD] at n1 hd1
        have HL := Lib.hid HDF.out.least
        rw [hD] at HL
        have HD := Lib.hid hD; clear hD
        go_wp2_with fail
        go_loopg [12] D (fun g v12 wr => ∃ d : Nat, g + d = D ∧ v12 = .int .i64 d ∧ Ed.At wr ⟨N, 0, none⟩ o ∧ Below w.heap.size w wr)
        case atStart => exact ⟨0, by omega, rfl, A, Bw⟩
        case round =>
          clear A Bw n0 n1 n2
          obtain ⟨d, hg, rfl, A, Bw⟩ := hrel
          obtain ⟨_, n1, _⟩ := id A
          simp only [Nat.zero_add] at n1
          rw [HD.out] at n1
          by_cases hd : d < D
          · have hd2 : (d : Int) < (D : Int) := by omega
            go_wp2_with fail
            by_cases hkB : (B : Int) ≤ (T.size : Int) - ((S.size : Int) - B - d)
            · obtain ⟨k, hk⟩ := Int.eq_ofNat_of_zero_le (show 0 ≤ (T.size : Int) - ((S.size : Int) - B - d) by omega)
              rw [hk] at hkB ⊢
              have HLE := Lib.hid (HL.out d k hd2 hk (by omega))
              have g1 : decide ((B : Int) ≤ (k : Int)) = true := by simp; omega
              have g2 : decide (B ≤ k) = true := by simp; omega
              have g3 : B ≤ k := by omega
              have hkT : k ≤ T.size := by omega
              have hBd : B + d ≤ S.size := by omega
              have hw : IntKind.i64.wrap ((B : Int) + (d : Int)) = ((B + d : Nat) : Int) := by rw [IntWalk.i64_in _ (by omega)]; omega
              have i0 : (0 : Int) ≤ ((B + d : Nat) : Int) := by omega
              have i1 : ((B + d : Nat) : Int) ≤ (S.size : Int) := by omega
              have i2 : (0 : Int) ≤ (k : Int) := by omega
              have i3 : (k : Int) ≤ (T.size : Int) := by omega
              have i4 : (0 : Int) ≤ (B : Int) + (d : Int) := by omega
              have i5 : (B : Int) + (d : Int) ≤ (S.size : Int) := by omega
              have i6 : ((B : Int) + (d : Int)).toNat = B + d := by omega
              have hes : ∀ w', Calls Try.prog 25 #[.string S, .int .i64 ((B : Int) + (d : Int))] w' fun e w'' => e = .returned (.bool (Rn.edgeB S ((B + d : Nat) : Int))) ∧ w' = w'' := fun w' => by
                have := refEdge_any S ((B + d : Nat) : Int) w' (by unfold maxLen; omega)
                rw [Int.natCast_add] at this ⊢
                exact this
              have het : ∀ w', Calls Try.prog 25 #[.string T, .int .i64 k] w' fun e w'' => e = .returned (.bool (Rn.edgeB T k)) ∧ w' = w'' := fun w' => refEdge_any T k w' (by unfold maxLen; omega)
              clear hk hkB
              rcases Bool.eq_false_or_eq_true (Rn.edgeB S ((B + d : Nat) : Int)) with q1 | q1
              · rw [q1] at hes
                have HES := Lib.hid hes; clear hes
                rcases Bool.eq_false_or_eq_true (Rn.edgeB T k) with q2 | q2
                · rw [q2] at het
                  have HET := Lib.hid het; clear het
                  have hpe : ((S.extract (B + d) S.size).toList == (T.extract k T.size).toList) = false := by
                    rw [beq_eq_false_iff_ne, ByteArray.toList_eq, ByteArray.toList_eq, tail_data, tail_data]; exact HLE.out q1 q2
                  go_quiet ((first | (go_at_call_of 25 (Value.string S); exact quietly (HES.out _)) | (go_at_call_of 25 (Value.string T); exact quietly (HET.out _))))
                  go_wp2_with fail
                  go_roundg (gk - 1)
                  case measure => omega
                  exact ⟨d + 1, by omega, by go_num, A.up (Rp.below_drewN (Below.refl _ _) _), Rp.below_drewN Bw _⟩
                · rw [q2] at het
                  have HET := Lib.hid het; clear het
                  go_quiet ((first | (go_at_call_of 25 (Value.string S); exact quietly (HES.out _)) | (go_at_call_of 25 (Value.string T); exact quietly (HET.out _))))
                  go_wp2_with fail
                  go_roundg (gk - 1)
                  case measure => omega
                  exact ⟨d + 1, by omega, by go_num, A.up (Rp.below_drewN (Below.refl _ _) _), Rp.below_drewN Bw _⟩
              · rw [q1] at hes
                have HES := Lib.hid hes; clear hes het
                go_quiet ((go_at_call_of 25 (Value.string S); exact quietly (HES.out _)))
                go_wp2_with fail
                go_roundg (gk - 1)
                case measure => omega
                exact ⟨d + 1, by omega, by go_num, A.up (Rp.below_drewN (Below.refl _ _) _), Rp.below_drewN Bw _⟩
            · have g1 : decide ((B : Int) ≤ (T.size : Int) - ((S.size : Int) - B - d)) = false := by simp; omega
              clear hkB
              go_quiet (fail)
              go_wp2_with fail
              go_roundg (gk - 1)
              case measure => omega
              exact ⟨d + 1, by omega, by go_num, A.up (Rp.below_drewN (Below.refl _ _) _), Rp.below_drewN Bw _⟩
          · have hd2 : ¬ (d : Int) < (D : Int) := by omega
            go_wp2_with fail
            go_ret
            exact ⟨rfl, Bw⟩
end Go.Proofs.Ytigibeioapkgiaa
