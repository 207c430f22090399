/- What the program's parts do when a byte is read: readAlt and read walked. What the program's Matches and Empty answer, walked. The first rule that hits, plain. -/
import Derived.Test.YthapedadnbkgnaaGreatG35
import Derived.Test.YthapedadnbkgnaaGreatG5
import Derived.Test.YthapedadnbkgnaaGreatG17
import Derived.Test.YthapedadnbkgnaaGreatG18
import Derived.Test.YthapedadnbkgnaaGreatG34
namespace Go.Proofs.YthapedadnbkgnaaGreat
set_option linter.unusedVariables false
set_option linter.unusedSimpArgs false
open Go.RowKit
set_option maxRecDepth 100000 in
set_option maxHeartbeats 4000000 in
theorem readAlt_any (k : Nat) (f : Nat → Bool) (l : List Ps) (e0 d0 : Bool) (b o : Nat) (F : List Nat) (w : World) (c : Nat) (bg : Bool) (h : Pm.In w (.node k f l e0 d0) b o F) (hF : F.Nodup) (hb : b ∉ F) (hz : Pm.Fz w (b :: F)) (hlen : l.length ≤ 100000)
    (hK : ∀ y ∈ l, ∀ (b o : Nat) (F : List Nat) (w : World) (bg : Bool), Pm.In w y b o F → F.Nodup → b ∉ F → Pm.Fz w (b :: F) → Calls Tryz.prog 55 #[.pointer (some ⟨b, o, none⟩), .int .u8 c, .bool bg] w (Pm.RPost w (y.read c bg) b o F)) :
    Calls Tryz.prog 86 #[.pointer (some ⟨b, o, none⟩), .int .u8 c, .bool bg] w (Pm.RPost w (.node k f (Ps.readA c l bg) e0 (Ps.doneA c l bg false)) b o F) := by
  obtain ⟨sl, C, K⟩ := Pm.in_iff.1 h
  clear h
  have HK := Lib.hid hK
  clear hK
  have z7 := hz b (by simp) (o + 7)
  have hbl : b < w.heap.size := World.block_lt_of_cell? w _ C.c0
  have C1 := C.done false
  have K1 : Pm.KL (w.setCell ⟨b, o + 7, none⟩ (.bool false)) l sl F := K.turn fun g hg j v hc => Bs.cell_set hc (fun e => hb (by simp at e; rw [e]; exact hg))
  have X1 := Pm.Chg.set w b o F (.bool false)
  have Z1 : Pm.Fz (w.setCell ⟨b, o + 7, none⟩ (.bool false)) (b :: F) := fun g hg j => by simpa using hz g hg j
  have hsl : ∃ a n cap, sl = .slice a n cap ∧ n = l.length := by
    rcases K with ⟨h1, h2, _⟩ | ⟨g, cap, G, _, h4, _⟩
    · exact ⟨_, 0, _, h2, by rw [h1]; rfl⟩
    · exact ⟨_, _, _, h4, rfl⟩
  obtain ⟨a, n, cap, rfl, hn⟩ := hsl
  have HN := Lib.hid hn
  have c7 := C.c7
  have c5 := C1.c5
  rw [← hn] at hlen
  clear hn K C hz
  go_enter Tryz.func86, Tryz.ntmps86
  go_wp2_with fail
  generalize w.setCell ⟨b, o + 7, none⟩ (.bool false) = V at *
  clear c7 c5 z7
  go_loopw [15] (fun i wr => ∃ (q : Nat) (dq : Bool) (rs : List Ps), q ≤ n ∧ i = .int .i64 q ∧ rs.length = q ∧ Ps.readA c l bg = rs ++ Ps.readA c (l.drop q) bg ∧ Ps.doneA c l bg false = Ps.doneA c (l.drop q) bg dq ∧ Pm.Cell wr b o k f (.slice a n cap) e0 dq ∧ Pm.KL wr (rs ++ l.drop q) (.slice a n cap) F ∧ Pm.Chg w wr b o F ∧ Pm.Fz wr (b :: F)) (fun i _ => n - (intOf i).toNat)
  case atStart => exact ⟨0, false, [], by omega, rfl, rfl, by simp, by simp, C1, by simpa using K1, X1, Z1⟩
  case round =>
    clear C1 K1 X1 Z1
    obtain ⟨q, dq, rs, hq, rfl, hrs, hR, hD, C, K, X, Z⟩ := hrel
    have HR := Lib.hid hR
    have HD := Lib.hid hD
    clear hR hD
    by_cases hlt : q < n
    · have hlt' : q < l.length := by rw [← HN.out]; exact hlt
      have hmem := List.getElem_mem hlt'
      have hdr : l.drop q = l[q] :: l.drop (q + 1) := List.drop_eq_getElem_cons hlt'
      rw [hdr] at K
      have HKq := Lib.hid (HK.out l[q] hmem)
      have HR2 := Lib.hid (show Ps.readA c l bg = rs ++ (Ps.read c l[q] bg :: Ps.readA c (l.drop (q + 1)) bg) by rw [HR.out, hdr, Ps.readA])
      have HD2 := Lib.hid (show Ps.doneA c l bg false = Ps.doneA c (l.drop (q + 1)) bg (dq || (Ps.read c l[q] bg).done) by rw [HD.out, hdr, Ps.doneA])
      generalize l[q] = y at *
      clear HR HD hmem hdr
      obtain ⟨g, cap', G, F2, hsl, hFG, iy, n2, gn, hsub, zf, back⟩ := K.kid hF (fun k hk j => Z k (by simp [hk]) j)
      have IY := Lib.hid iy
      have BACK := Lib.hid back
      clear iy back
      simp only [Value.slice.injEq] at hsl
      obtain ⟨rfl, hn', rfl⟩ := hsl
      rw [hrs] at IY BACK
      have hbg : b ≠ g := fun e => hb (by rw [hFG, e]; simp)
      have hbF2 : b ∉ F2 := fun e => hb (by rw [hFG]; simp [hsub b e])
      have c5 := C.c5
      have HX := Lib.hid X
      have HC := Lib.hid C
      have HZ := Lib.hid Z
      have HGz := Lib.hid (show ∀ g' ∈ b :: F, g' < wr.heap.size from fun g' hg' => by
        rcases List.mem_cons.1 hg' with e | hg'
        · rw [e]; exact World.block_lt_of_cell? wr _ C.c0
        · exact K.lt g' hg')
      clear C X Z K hn'
      go_wp2_with fail
      refine (HKq.out g (q * 8) F2 wr bg IY.out n2 gn zf).mono ?_
      rintro e w1 ⟨rfl, iy', ch⟩
      have K1 := Lib.hid (BACK.out w1 _ ch iy')
      have ck := ch.kid (b := b) (o := o) (by rw [← hFG]; exact hb) hsub
      rw [← hFG] at ck
      have X1 := Lib.hid (HX.out.trans ck)
      have C1 := HC.out.chg ch hbg hbF2
      have Z1 := Lib.hid (HZ.out.chg ch HGz.out)
      clear ck HX HC HZ BACK HKq IY c5 ch HGz zf
      generalize Ps.read c y bg = y' at *
      obtain ⟨k', f', l', e', d'⟩ := y'
      obtain ⟨s', Cy', _⟩ := Pm.in_iff.1 iy'
      simp only [Ps.done] at HD2
      have k7 := Cy'.c7
      have c5 := C1.c5
      have c7 := C1.c7
      have z7 := Z1.out b (by simp) (o + 7)
      have HC1 := Lib.hid C1
      clear C1 Cy' iy'
      have fin : ∀ (dn : Bool) (Y : World), Y = w1.setCell ⟨b, o + 7, none⟩ (.bool dn) → (dq || d') = dn → ∃ (q' : Nat) (dq' : Bool) (rs' : List Ps), q' ≤ n ∧ q + 1 = q' ∧ rs'.length = q' ∧ Ps.readA c l bg = rs' ++ Ps.readA c (l.drop q') bg ∧ Ps.doneA c l bg false = Ps.doneA c (l.drop q') bg dq' ∧ Pm.Cell Y b o k f (.slice (some ⟨g, 0, none⟩) n cap) e0 dq' ∧ Pm.KL Y (rs' ++ l.drop q') (.slice (some ⟨g, 0, none⟩) n cap) F ∧ Pm.Chg w Y b o F ∧ Pm.Fz Y (b :: F) := by
        intro dn Y hY hdn
        subst hY
        refine ⟨q + 1, dn, rs ++ [.node k' f' l' e' d'], by omega, rfl, by simp [hrs], ?_, ?_, HC1.out.done dn, ?_, X1.out.trans (Pm.Chg.set w1 b o F _), fun g' hg' j => by simpa using Z1.out g' hg' j⟩
        · rw [HR2.out]; simp
        · rw [HD2.out, hdn]
        · have := K1.out.turn (w' := w1.setCell ⟨b, o + 7, none⟩ (.bool dn)) fun g' hg' j v hc => Bs.cell_set hc (fun e => hb (by simp at e; rw [e]; exact hg'))
          simpa using this
      have FIN := Lib.hid fin
      clear fin
      cases dq
      · go_wp2_with fail
        go_roundw
        case rel => obtain ⟨q', dq', rs', a1, a2, a4⟩ := FIN.out d' _ rfl (by simp); exact ⟨q', dq', rs', a1, by rw [← a2]; go_num, a4⟩
        case measure => simp [intOf]; omega
      · go_wp2_with fail
        go_roundw
        case rel => obtain ⟨q', dq', rs', a1, a2, a4⟩ := FIN.out true _ rfl (by simp); exact ⟨q', dq', rs', a1, by rw [← a2]; go_num, a4⟩
        case measure => simp [intOf]; omega
    · have hdr : l.drop q = [] := List.drop_eq_nil_of_le (by rw [← HN.out]; omega)
      have HR2 := Lib.hid (show Ps.readA c l bg = rs by rw [HR.out, hdr, Ps.readA]; simp)
      have HD2 := Lib.hid (show Ps.doneA c l bg false = dq by rw [HD.out, hdr, Ps.doneA])
      rw [hdr, List.append_nil] at K
      clear hdr HR HD
      go_wp2_with fail
      go_end0
      refine ⟨rfl, ?_, X⟩
      rw [HR2.out, HD2.out]
      exact Pm.in_iff.2 ⟨_, C, K⟩
theorem Ps.part_le : ∀ {l : List Ps} {x : Ps}, x ∈ l → x.size ≤ Ps.sizeL l
  | [], x, h => by simp at h
  | y :: r, x, h => by
    simp only [Ps.sizeL]
    rcases List.mem_cons.1 h with e | h
    · rw [e]; omega
    · have := Ps.part_le h; omega
theorem Ps.length_le : ∀ l : List Ps, l.length ≤ Ps.sizeL l
  | [] => by simp [Ps.sizeL]
  | x :: r => by
    have := Ps.size_pos x; have := Ps.length_le r
    simp [Ps.sizeL]; omega
mutual
def Ps.wf : Ps → Prop
  | .node k _ l _ _ => (k = 4 → l ≠ []) ∧ Ps.wfL l
def Ps.wfL : List Ps → Prop
  | [] => True
  | x :: r => Ps.wf x ∧ Ps.wfL r
end
theorem Ps.wfL_mem : ∀ {l : List Ps}, Ps.wfL l → ∀ x ∈ l, x.wf
  | [], _, x, hx => by simp at hx
  | y :: r, h, x, hx => by
    simp only [Ps.wfL] at h
    rcases List.mem_cons.1 hx with e | hx
    · rw [e]; exact h.1
    · exact Ps.wfL_mem h.2 x hx
mutual
theorem Ps.wf_read (c : Nat) : ∀ (y : Ps) (b : Bool), y.wf → (Ps.read c y b).wf
  | .node k f l e d, b, h => by
    simp only [Ps.wf] at h
    rw [Ps.read]
    split
    · simp only [Ps.wf]; exact h
    · split
      · simp only [Ps.wf]; exact ⟨fun e => by omega, Ps.wf_readC c l b h.2⟩
      · split
        · simp only [Ps.wf]; exact ⟨fun e => by omega, Ps.wf_readA c l b h.2⟩
        · split
          · simp only [Ps.wf]
            refine ⟨fun e => ?_, Ps.wf_readS c l b h.2⟩
            cases l with
            | nil => exact absurd rfl (h.1 e)
            | cons x r => simp [Ps.readS]
          · simp only [Ps.wf]; exact h
theorem Ps.wf_readC (c : Nat) : ∀ (l : List Ps) (b : Bool), Ps.wfL l → Ps.wfL (Ps.readC c l b)
  | [], _, _ => by simp [Ps.readC, Ps.wfL]
  | x :: r, b, h => by
    simp only [Ps.wfL] at h
    simp only [Ps.readC, Ps.wfL]
    exact ⟨Ps.wf_read c x b h.1, Ps.wf_readC c r _ h.2⟩
theorem Ps.wf_readA (c : Nat) : ∀ (l : List Ps) (b : Bool), Ps.wfL l → Ps.wfL (Ps.readA c l b)
  | [], _, _ => by simp [Ps.readA, Ps.wfL]
  | x :: r, b, h => by
    simp only [Ps.wfL] at h
    simp only [Ps.readA, Ps.wfL]
    exact ⟨Ps.wf_read c x b h.1, Ps.wf_readA c r _ h.2⟩
theorem Ps.wf_readS (c : Nat) : ∀ (l : List Ps) (b : Bool), Ps.wfL l → Ps.wfL (Ps.readS c l b)
  | [], _, _ => by simp [Ps.readS, Ps.wfL]
  | x :: r, b, h => by
    simp only [Ps.wfL] at h
    simp only [Ps.readS, Ps.wfL]
    exact ⟨Ps.wf_read c x _ h.1, h.2⟩
end
mutual
theorem Ps.size_read (c : Nat) : ∀ (y : Ps) (b : Bool), (Ps.read c y b).size = y.size
  | .node k f l e d, b => by
    rw [Ps.read]
    repeat' split
    · simp only [Ps.size]
    · simp only [Ps.size, Ps.size_readC c l b]
    · simp only [Ps.size, Ps.size_readA c l b]
    · simp only [Ps.size, Ps.size_readS c l b]
    · rfl
theorem Ps.size_readC (c : Nat) : ∀ (l : List Ps) (b : Bool), Ps.sizeL (Ps.readC c l b) = Ps.sizeL l
  | [], _ => rfl
  | x :: r, b => by simp only [Ps.readC, Ps.sizeL, Ps.size_read c x b, Ps.size_readC c r]
theorem Ps.size_readA (c : Nat) : ∀ (l : List Ps) (b : Bool), Ps.sizeL (Ps.readA c l b) = Ps.sizeL l
  | [], _ => rfl
  | x :: r, b => by simp only [Ps.readA, Ps.sizeL, Ps.size_read c x b, Ps.size_readA c r]
theorem Ps.size_readS (c : Nat) : ∀ (l : List Ps) (b : Bool), Ps.sizeL (Ps.readS c l b) = Ps.sizeL l
  | [], _ => rfl
  | x :: r, b => by simp only [Ps.readS, Ps.sizeL, Ps.size_read c x]
end
set_option maxRecDepth 100000 in
set_option maxHeartbeats 4000000 in
theorem pread_any (c : Nat) (hc : c < 256) : ∀ (m : Nat), m ≤ 100000 → ∀ (y : Ps), y.size ≤ m → y.wf → ∀ (b o : Nat) (F : List Nat) (w : World) (bg : Bool), Pm.In w y b o F → F.Nodup → b ∉ F → Pm.Fz w (b :: F) → Calls Tryz.prog 55 #[.pointer (some ⟨b, o, none⟩), .int .u8 c, .bool bg] w (Pm.RPost w (y.read c bg) b o F) := by
  intro m
  induction m with
  | zero => intro _ y h; have := y.size_pos; omega
  | succ m ih =>
    rintro hm4 ⟨k, f, l, e0, d0⟩ hm hwf b o F w bg h hF hb hz
    simp only [Ps.size] at hm
    simp only [Ps.wf] at hwf
    have hll := Ps.length_le l
    have hK : ∀ y ∈ l, ∀ (b o : Nat) (F : List Nat) (w : World) (bg : Bool), Pm.In w y b o F → F.Nodup → b ∉ F → Pm.Fz w (b :: F) → Calls Tryz.prog 55 #[.pointer (some ⟨b, o, none⟩), .int .u8 c, .bool bg] w (Pm.RPost w (y.read c bg) b o F) := fun y hy => ih (by omega) y (by have := Ps.part_le hy; omega) (Ps.wfL_mem hwf.2 y hy)
    clear ih
    have H := Lib.hid h
    obtain ⟨sl, C, K⟩ := Pm.in_iff.1 h
    have c0 := C.c0
    clear h
    have HRd := Lib.hid (show Ps.read c (.node k f l e0 d0) bg = _ by rw [Ps.read])
    go_enter Tryz.func55, Tryz.ntmps55
    by_cases h1 : k = 1
    · subst h1
      have HR := Lib.hid (show Ps.read c (.node 1 f l e0 d0) bg = .node 1 f l e0 (bg && f c) by rw [HRd.out, if_pos rfl])
      have c1 := C.c1; have c2 := C.c2; have c3 := C.c3; have c4 := C.c4; have c7 := C.c7
      have z7 := hz b (by simp) (o + 7)
      cases bg
      · clear HRd hK
        go_wp2_with fail
        go_end0
        refine ⟨rfl, ?_, Pm.Chg.set w b o F _⟩
        rw [HR.out]
        exact Pm.in_iff.2 ⟨sl, C.done _, K.turn fun g hg j v hcell => Bs.cell_set hcell (fun e => hb (by simp at e; rw [e]; exact hg))⟩
      · have HB := Lib.hid (hasB_any f c hc w)
        unfold Bs.val at HB
        have HC := Lib.hid C
        have HKK := Lib.hid K
        have hbl : b < w.heap.size := World.block_lt_of_cell? w _ c0
        clear HRd hK C K
        go_wp2_with fail
        refine HB.out.mono ?_
        rintro e w1 ⟨rfl, hbw⟩
        have HC1 := Lib.hid (HC.out.turn (w' := w1) fun j v _ hcell => Bs.cell_up hbw hcell)
        have HK1 := Lib.hid (HKK.out.turn (w' := w1) fun g hg j v hcell => Bs.cell_up hbw hcell)
        replace c7 := Bs.cell_up hbw c7
        replace z7 : w1.frozen? ⟨b, o + 7, none⟩ = false := by rw [hbw.frozen (p := ⟨b, o + 7, none⟩) hbl]; exact z7
        have X := Lib.hid (Pm.Chg.below b o F hbw)
        clear hbw HB HC HKK c0 c1 c2 c3 c4
        go_wp2_with fail
        go_end0
        refine ⟨rfl, ?_, X.out.trans (Pm.Chg.set w1 b o F _)⟩
        rw [HR.out]
        exact Pm.in_iff.2 ⟨sl, HC1.out.done _, HK1.out.turn fun g hg j v hcell => Bs.cell_set hcell (fun e => hb (by simp at e; rw [e]; exact hg))⟩
    have e1 : ((k : Int) == 1) = false := by simp; omega
    by_cases h2 : k = 2
    · have e2 : ((k : Int) == 2) = true := by simp; omega
      have HR := Lib.hid (show Ps.read c (.node k f l e0 d0) bg = .node k f (Ps.readC c l bg) e0 (Ps.doneC c l bg false) by rw [HRd.out, if_neg h1, if_pos h2])
      have RC := Lib.hid (readCat_any k f l e0 d0 b o F w c bg H.out hF hb hz (by omega) hK)
      clear h1 h2 HRd hK
      go_wp2_with fail
      refine RC.out.mono ?_
      rintro e w1 ⟨rfl, i1, x1⟩
      have I1 := Lib.hid i1
      have X1 := Lib.hid x1
      clear i1 x1 RC
      go_wp2_with fail
      go_end0
      exact ⟨rfl, by rw [HR.out]; exact I1.out, X1.out⟩
    have e2 : ((k : Int) == 2) = false := by simp; omega
    by_cases h3 : k = 3
    · have e3 : ((k : Int) == 3) = true := by simp; omega
      have HR := Lib.hid (show Ps.read c (.node k f l e0 d0) bg = .node k f (Ps.readA c l bg) e0 (Ps.doneA c l bg false) by rw [HRd.out, if_neg h1, if_neg h2, if_pos h3])
      have RC := Lib.hid (readAlt_any k f l e0 d0 b o F w c bg H.out hF hb hz (by omega) hK)
      clear h1 h2 h3 HRd hK
      go_wp2_with fail
      refine RC.out.mono ?_
      rintro e w1 ⟨rfl, i1, x1⟩
      have I1 := Lib.hid i1
      have X1 := Lib.hid x1
      clear i1 x1 RC
      go_wp2_with fail
      go_end0
      exact ⟨rfl, by rw [HR.out]; exact I1.out, X1.out⟩
    have e3 : ((k : Int) == 3) = false := by simp; omega
    by_cases h4 : k = 4
    · have e4 : ((k : Int) == 4) = true := by simp; omega
      rcases l with _ | ⟨y, r⟩
      · exact absurd rfl (hwf.1 h4)
      have HR := Lib.hid (show Ps.read c (.node k f (y :: r) e0 d0) bg = .node k f (Ps.read c y (bg || y.done) :: r) e0 (Ps.read c y (bg || y.done)).done by rw [HRd.out, if_neg h1, if_neg h2, if_neg h3, if_pos h4]; rfl)
      have HKq := Lib.hid (hK y (by simp))
      have KK : Pm.KL w ([] ++ y :: r) sl F := K
      obtain ⟨g, cap', G, F2, hsl, hFG, iy, n2, gn, hsub, zf, back⟩ := KK.kid hF (fun k hk j => hz k (by simp [hk]) j)
      simp only [List.length_nil, Nat.zero_mul, List.nil_append] at iy back hsl
      obtain ⟨ky, fy, ly, ey, dy⟩ := y
      obtain ⟨sy, Cy, _⟩ := Pm.in_iff.1 iy
      have k7 := Cy.c7
      simp only [Nat.zero_add] at k7
      have IY := Lib.hid iy
      have BACK := Lib.hid back
      have hbg : b ≠ g := fun e => hb (by rw [hFG, e]; simp)
      have hbF2 : b ∉ F2 := fun e => hb (by rw [hFG]; simp [hsub b e])
      have c5 := C.c5
      rw [hsl] at c5
      have HC := Lib.hid C
      have HZ := Lib.hid hz
      have hgz : ∀ g' ∈ b :: F, g' < w.heap.size := fun g' hg' => by
        rcases List.mem_cons.1 hg' with e | hg'
        · rw [e]; exact World.block_lt_of_cell? w _ c0
        · exact K.lt g' hg'
      have HGz := Lib.hid hgz
      simp only [Ps.done] at HR
      have hlen : (Ps.node ky fy ly ey dy :: r).length ≤ 100000 := by omega
      simp only [List.length_cons] at c5 hlen
      generalize hrn : r.length + 1 = rn at c5 hlen
      have hrn1 : 1 ≤ rn := by omega
      clear iy back C K KK hz hK HRd h1 h2 h3 h4 hgz Cy hrn hll hm
      have key : ∀ (bn : Bool), (bg || dy) = bn → Pm.In w (.node ky fy ly ey dy) g 0 F2 := fun _ _ => IY.out
      clear key
      have go : ∀ (bn : Bool), (bg || dy) = bn → Calls Tryz.prog 55 #[.pointer (some ⟨g, 0, none⟩), .int .u8 c, .bool bn] w (Pm.RPost w (Ps.read c (.node ky fy ly ey dy) bn) g 0 F2) := fun bn _ => HKq.out g 0 F2 w bn IY.out n2 gn zf
      have GO := Lib.hid go
      clear go
      have fin : ∀ (w1 : World) (y' : Ps), Pm.In w1 y' g 0 F2 → Pm.Chg w w1 g 0 F2 → Pm.Cell w1 b o k f sl e0 d0 ∧ Pm.KL w1 (y' :: r) sl F ∧ Pm.Chg w w1 b o F ∧ Pm.Fz w1 (b :: F) := by
        intro w1 y' i1 ch
        have ck := ch.kid (b := b) (o := o) (by rw [← hFG]; exact hb) hsub
        rw [← hFG] at ck
        exact ⟨HC.out.chg ch hbg hbF2, BACK.out w1 y' ch i1, ck, HZ.out.chg ch HGz.out⟩
      have FIN := Lib.hid fin
      clear fin
      cases bg
      · go_wp2_with fail
        refine (GO.out dy (by simp)).mono ?_
        rintro e w1 ⟨rfl, i1, ch⟩
        simp only [Bool.false_or] at HR
        obtain ⟨C1, K1, X1, Z1⟩ := FIN.out w1 _ i1 ch
        generalize Ps.read c (.node ky fy ly ey dy) dy = y' at *
        obtain ⟨k', f', l', e', d'⟩ := y'
        obtain ⟨s', Cy', _⟩ := Pm.in_iff.1 i1
        have q7 := Cy'.c7
        simp only [Nat.zero_add] at q7
        have c7 := C1.c7
        have z7 := Z1 b (by simp) (o + 7)
        have HC1 := Lib.hid C1
        have HK1 := Lib.hid K1
        have HX1 := Lib.hid X1
        clear C1 K1 X1 Z1 i1 ch Cy' GO FIN HKq IY BACK HC HZ HGz k7 c5
        go_wp2_with fail
        go_end0
        refine ⟨rfl, ?_, HX1.out.trans (Pm.Chg.set w1 b o F _)⟩
        rw [HR.out]
        exact Pm.in_iff.2 ⟨sl, HC1.out.done _, HK1.out.turn fun g hg j v hcell => Bs.cell_set hcell (fun e => hb (by simp at e; rw [e]; exact hg))⟩
      · go_wp2_with fail
        refine (GO.out true (by simp)).mono ?_
        rintro e w1 ⟨rfl, i1, ch⟩
        simp only [Bool.true_or] at HR
        obtain ⟨C1, K1, X1, Z1⟩ := FIN.out w1 _ i1 ch
        generalize Ps.read c (.node ky fy ly ey dy) true = y' at *
        obtain ⟨k', f', l', e', d'⟩ := y'
        obtain ⟨s', Cy', _⟩ := Pm.in_iff.1 i1
        have q7 := Cy'.c7
        simp only [Nat.zero_add] at q7
        have c7 := C1.c7
        have z7 := Z1 b (by simp) (o + 7)
        have HC1 := Lib.hid C1
        have HK1 := Lib.hid K1
        have HX1 := Lib.hid X1
        clear C1 K1 X1 Z1 i1 ch Cy' GO FIN HKq IY BACK HC HZ HGz k7 c5
        go_wp2_with fail
        go_end0
        refine ⟨rfl, ?_, HX1.out.trans (Pm.Chg.set w1 b o F _)⟩
        rw [HR.out]
        exact Pm.in_iff.2 ⟨sl, HC1.out.done _, HK1.out.turn fun g hg j v hcell => Bs.cell_set hcell (fun e => hb (by simp at e; rw [e]; exact hg))⟩
    have e4 : ((k : Int) == 4) = false := by simp; omega
    have HR := Lib.hid (show Ps.read c (.node k f l e0 d0) bg = .node k f l e0 d0 by rw [HRd.out, if_neg h1, if_neg h2, if_neg h3, if_neg h4])
    clear h1 h2 h3 h4 HRd hK
    go_wp2_with fail
    go_end0
    exact ⟨rfl, by rw [HR.out]; exact H.out, Pm.Chg.refl _ _ _ _⟩
open Go.RowKit
def Px.mt (x : Rx) (s : ByteArray) : Bool := x.may 1 && (if s.size = 0 then x.emp else (Ps.run (Px.by s) x (fun j => j == 0) s.size).done)
theorem Px.mt_iff {x : Rx} (s : ByteArray) (h : x.may 1 = true) : Px.mt x s = true ↔ Rx.Go (Px.by s) s.size x 0 s.size := by
  have hw := (Rx.may_iff.1 h).1
  rw [Px.mt, h, Bool.true_and]
  split
  · rename_i h0
    rw [h0]; exact Rx.emp_iff (Px.by s) 0 x hw 0
  · rename_i h0
    rw [Ps.ok (Px.by s) s.size x hw (fun j => j == 0) s.size (Nat.le_refl _)]
    constructor
    · rintro ⟨j, _, hj, hg⟩
      have : j = 0 := by simpa using hj
      subst this; exact hg
    · intro hg; exact ⟨0, by omega, by simp, hg⟩
mutual
theorem Ps.wf_of : ∀ x : Rx, x.wf = true → (Ps.of x).wf
  | .node k f l, h => by
    rw [Ps.of]
    simp only [Ps.wf]
    simp only [Rx.wf, Bool.and_eq_true, Bool.not_eq_true', Bool.and_eq_false_imp, beq_iff_eq] at h
    refine ⟨fun e => ?_, Ps.wf_ofL l h.2⟩
    have := h.1.2 e
    cases l with
    | nil => simp at this
    | cons y r => simp [Ps.ofL]
theorem Ps.wf_ofL : ∀ l : List Rx, Rx.wfL l = true → Ps.wfL (Ps.ofL l)
  | [], _ => by simp [Ps.ofL, Ps.wfL]
  | x :: r, h => by
    simp only [Rx.wfL, Bool.and_eq_true] at h
    simp only [Ps.ofL, Ps.wfL]
    exact ⟨Ps.wf_of x h.1, Ps.wf_ofL r h.2⟩
end
mutual
theorem Ps.size_of : ∀ x : Rx, (Ps.of x).size = x.size
  | .node k f l => by rw [Ps.of]; simp only [Ps.size, Rx.size, Ps.size_ofL l]
theorem Ps.size_ofL : ∀ l : List Rx, Ps.sizeL (Ps.ofL l) = Rx.sizeL l
  | [] => rfl
  | x :: r => by simp only [Ps.ofL, Ps.sizeL, Rx.sizeL, Ps.size_of x, Ps.size_ofL r]
end
theorem Ps.run_wf (s : Nat → Nat) {x : Rx} (h : x.wf = true) (b : Nat → Bool) : ∀ q, (Ps.run s x b q).wf ∧ (Ps.run s x b q).size = x.size
  | 0 => ⟨Ps.wf_of x h, Ps.size_of x⟩
  | q + 1 => by
    have := Ps.run_wf s h b q
    rw [Ps.run]
    exact ⟨Ps.wf_read _ _ _ this.1, by rw [Ps.size_read]; exact this.2⟩
theorem Pm.Chg.to {w v v' : World} {b o : Nat} {F : List Nat} (A : Below w.heap.size w v) (h : Pm.Chg v v' b o F) (hb : w.heap.size ≤ b) (hF : ∀ g ∈ F, w.heap.size ≤ g) : Below w.heap.size w v' :=
  ⟨h.os.trans A.os, h.tape.trans A.tape, h.output.trans A.output, Nat.le_trans A.size h.size, fun k hk => (h.block k (Nat.lt_of_lt_of_le hk A.size) (by omega) (fun hm => by have := hF k hm; omega)).trans (A.block k hk)⟩
theorem Pm.In.lts {w : World} {y : Ps} {b o : Nat} {F : List Nat} (h : Pm.In w y b o F) : ∀ g ∈ b :: F, g < w.heap.size := fun g hg => by
  rcases List.mem_cons.1 hg with e | hg
  · rw [e]
    cases y
    obtain ⟨sl, C, _⟩ := Pm.in_iff.1 h
    exact World.block_lt_of_cell? w _ C.c0
  · exact h.lt g hg
set_option maxRecDepth 100000 in
set_option maxHeartbeats 2000000 in
theorem Matches_any (x : Rx) (v : Value) (s : ByteArray) (w : World) (hx : Rx.Is w x v) (hs : s.size ≤ maxLen) : Calls Tryz.prog 21 #[v, .string s] w (Bs.BPost w (Px.mt x s)) := by
  unfold maxLen at hs
  have hv : ∃ k f b n c, v = Rx.hdr k f b n c := by
    cases x
    obtain ⟨_, b, c, e, _⟩ := hx
    exact ⟨_, _, b, _, c, e⟩
  obtain ⟨k, f, b, n, c, rfl⟩ := hv
  have A := Bs.below1 w (.cells #[.int .u8 k, .int .u64 (Bs.word f 0), .int .u64 (Bs.word f 1), .int .u64 (Bs.word f 2), .int .u64 (Bs.word f 3), .slice b n c] 62)
  have N := Rx.nod_new w k f b n c
  have X := hx.up A
  clear hx
  have c0 := N.cell.c0; have c1 := N.cell.c1; have c2 := N.cell.c2; have c3 := N.cell.c3; have c4 := N.cell.c4; have c5 := N.cell.c5
  simp only [Nat.zero_add] at c0 c1 c2 c3 c4 c5
  have RT := Lib.hid (Right_any x _ _ X)
  unfold Rx.hdr at X RT ⊢
  have HM := Lib.hid (show Px.mt x s = _ from rfl)
  go_enter Tryz.func21, Tryz.ntmps21
  go_wp2_with fail
  generalize w.alloc (.cells #[.int .u8 k, .int .u64 (Bs.word f 0), .int .u64 (Bs.word f 1), .int .u64 (Bs.word f 2), .int .u64 (Bs.word f 3), .slice b n c] 62) = W at *
  refine RT.out.mono ?_
  rintro e w1 ⟨rfl, hb⟩
  replace N := N.up hb
  replace A := Bs.below_up A hb
  replace X := X.up hb
  clear hb RT c0 c1 c2 c3 c4 c5
  cases hm : x.may 1
  · have HM2 := Lib.hid (show Px.mt x s = false by rw [Px.mt, hm]; rfl)
    clear HM hm
    go_wp2_with fail
    go_ret
    exact ⟨by rw [HM2.out]; rfl, A⟩
  have hsz4 := (Rx.may_iff.1 hm).2.2
  have hwf := (Rx.may_iff.1 hm).1
  have c0 := N.cell.c0; have c1 := N.cell.c1; have c2 := N.cell.c2; have c3 := N.cell.c3; have c4 := N.cell.c4; have c5 := N.cell.c5
  simp only [Nat.zero_add] at c0 c1 c2 c3 c4 c5
  have HX := Lib.hid X
  clear X
  by_cases h0 : s.size = 0
  · have HM2 := Lib.hid (show Px.mt x s = x.emp by rw [Px.mt, hm, if_pos h0]; rfl)
    have e0 := Px.empty h0
    have EM := Lib.hid (empty_any 400 x hsz4 (by omega) _ w1 HX.out)
    clear HM hm HX
    go_wp2_with fail
    refine EM.out.mono ?_
    rintro e w2 ⟨rfl, hb⟩
    replace A := Bs.below_up A hb
    clear hb EM c0 c1 c2 c3 c4 c5 N
    go_wp2_with fail
    go_ret
    exact ⟨by rw [HM2.out]; rfl, A⟩
  have HM2 := Lib.hid (show Px.mt x s = (Ps.run (Px.by s) x (fun j => j == 0) s.size).done by rw [Px.mt, hm, if_neg h0]; rfl)
  have e0 := Px.not_empty (s := s) (by omega)
  have PO := Lib.hid (partOf_any 400 x hsz4 (by omega) _ w1 HX.out)
  have hsz : w.heap.size ≤ w1.heap.size := A.size
  clear HM hm HX
  go_wp2_with fail
  refine PO.out.mono ?_
  rintro e w2 ⟨v2, F, rfl, iP, nd, hF, fz, hb⟩
  replace A := Bs.below_up A hb
  have hsz2 : w1.heap.size ≤ w2.heap.size := hb.size
  clear hb PO c0 c1 c2 c3 c4 c5 N
  have q0 := iP.form
  obtain ⟨k2, f2, sl2, e2, d2, e3, n3, hsl⟩ := q0
  have hsl2 : ∃ a9 n9 c9, sl2 = .slice a9 n9 c9 := by
    rcases hsl with ⟨h, _⟩ | ⟨g, cap, h⟩
    · exact ⟨_, _, _, h⟩
    · exact ⟨_, _, _, h⟩
  obtain ⟨a9, n9, c9, rfl⟩ := hsl2
  subst e3
  have B1 := Bs.below1 w2 (.cells #[.int .u8 k2, .int .u64 (Bs.word f2 0), .int .u64 (Bs.word f2 1), .int .u64 (Bs.word f2 2), .int .u64 (Bs.word f2 3), .slice a9 n9 c9, .bool e2, .bool d2] 120)
  have NP := Pm.nod_new w2 k2 f2 (.slice a9 n9 c9) e2 d2
  have I0 : Pm.In (w2.alloc (.cells #[.int .u8 k2, .int .u64 (Bs.word f2 0), .int .u64 (Bs.word f2 1), .int .u64 (Bs.word f2 2), .int .u64 (Bs.word f2 3), .slice a9 n9 c9, .bool e2, .bool d2] 120)) (Ps.of x) w2.heap.size 0 F := by
    have iP2 := iP.up B1
    have NC := NP.cell
    generalize w2.alloc (.cells #[.int .u8 k2, .int .u64 (Bs.word f2 0), .int .u64 (Bs.word f2 1), .int .u64 (Bs.word f2 2), .int .u64 (Bs.word f2 3), .slice a9 n9 c9, .bool e2, .bool d2] 120) = V0 at iP2 NC ⊢
    generalize Ps.of x = y at iP2
    obtain ⟨ky, fy, ly, ey, dy⟩ := y
    obtain ⟨sl', he, hk⟩ := iP2
    simp only [Pm.hdr, Value.agg.injEq, Array.mk.injEq, List.cons.injEq, Value.int.injEq, Value.bool.injEq, true_and, and_true] at he
    obtain ⟨a1, a2, a3, a4, a5, a6, a7, a8⟩ := he
    obtain ⟨q0, q1, q2, q3, q4, q5, q6, q7⟩ := NC
    rw [a1] at q0; rw [a2] at q1; rw [a3] at q2; rw [a4] at q3; rw [a5] at q4; rw [a6] at q5; rw [a7] at q6; rw [a8] at q7
    exact Pm.in_iff.2 ⟨sl', ⟨q0, q1, q2, q3, q4, q5, q6, q7⟩, hk⟩
  have hPF : w2.heap.size ∉ F := fun hm => by have := iP.lt _ hm; omega
  have Z0 : Pm.Fz (w2.alloc (.cells #[.int .u8 k2, .int .u64 (Bs.word f2 0), .int .u64 (Bs.word f2 1), .int .u64 (Bs.word f2 2), .int .u64 (Bs.word f2 3), .slice a9 n9 c9, .bool e2, .bool d2] 120)) (w2.heap.size :: F) := fun g hg j => by
    rcases List.mem_cons.1 hg with e | hg
    · rw [e]; simp [go_sem]
    · exact fz.up B1 iP.lt g hg j
  replace A := Bs.below_up A B1
  unfold Pm.hdr
  clear iP fz B1 NP
  go_wp2_with fail
  generalize w2.alloc (.cells #[.int .u8 k2, .int .u64 (Bs.word f2 0), .int .u64 (Bs.word f2 1), .int .u64 (Bs.word f2 2), .int .u64 (Bs.word f2 3), .slice a9 n9 c9, .bool e2, .bool d2] 120) = V at *
  have hP : w.heap.size ≤ w2.heap.size := by omega
  generalize w2.heap.size = P at *
  have hFw : ∀ g ∈ F, w.heap.size ≤ g := fun g hg => by have := hF g hg; omega
  go_loopw [18] (fun i wr => ∃ q : Nat, q ≤ s.size ∧ i = .int .i64 q ∧ Pm.In wr (Ps.run (Px.by s) x (fun j => j == 0) q) P 0 F ∧ Pm.Fz wr (P :: F) ∧ Below w.heap.size w wr) (fun i _ => s.size - (intOf i).toNat)
  case atStart => exact ⟨0, by omega, rfl, I0, Z0, A⟩
  case round =>
    clear I0 Z0 A
    obtain ⟨q, hq, rfl, I, Z, A⟩ := hrel
    by_cases hlt : q < s.size
    · have hby : Px.by s q = s[q].toNat := by
        unfold Px.by
        rw [List.getD_eq_getElem?_getD, List.getElem?_eq_getElem (by simpa using hlt)]
        simp; rfl
      have hw := Ps.run_wf (Px.by s) hwf (fun j => j == 0) q
      have RD := pread_any (Px.by s q) (by rw [hby]; exact s[q].toNat_lt) 400 (by omega) _ (by rw [hw.2]; exact hsz4) hw.1 P 0 F wr (q == 0) I nd hPF Z
      rw [show Ps.read (Px.by s q) (Ps.run (Px.by s) x (fun j => j == 0) q) (q == 0) = Ps.run (Px.by s) x (fun j => j == 0) (q + 1) from rfl, hby] at RD
      have RD := Lib.hid RD
      have hlts := I.lts
      have e9 : ((q : Int) == 0) = (q == 0) := by rw [Bool.eq_iff_iff]; simp
      clear hby hw I
      go_wp2_with fail
      refine RD.out.mono ?_
      rintro e w3 ⟨rfl, I2, ch⟩
      have A2 := ch.to A hP hFw
      have Z2 := Z.chg ch hlts
      clear RD ch A Z e9
      go_wp2_with fail
      go_roundw
      case rel => exact ⟨q + 1, by omega, by go_num, I2, Z2, A2⟩
      case measure => simp [intOf]; omega
    · have e : q = s.size := by omega
      subst e
      generalize hy : Ps.run (Px.by s) x (fun j => j == 0) s.size = y at *
      have HM3 := Lib.hid (show Px.mt x s = y.done by rw [HM2.out])
      clear HM2 hy
      obtain ⟨ky, fy, ly, ey, dy⟩ := y
      obtain ⟨sl', C, _⟩ := Pm.in_iff.1 I
      have c7 := C.c7
      simp only [Nat.zero_add] at c7
      simp only [Ps.done] at HM3
      clear C I
      go_wp2_with fail
      go_ret
      exact ⟨by rw [HM3.out]; rfl, A⟩
end Go.Proofs.YthapedadnbkgnaaGreat
namespace Go.Proofs.YthapedadnbkgnaaGreat
set_option linter.unusedVariables false
set_option linter.unusedSimpArgs false
open Go.RowKit
theorem Nr.rule_le (fr : List Int) : ∀ y ∈ fr, (Nf.rule fr).1 ≤ y := by
  intro y hy
  cases fr with
  | nil => simp at hy
  | cons x r =>
    simp only [Nf.rule]
    have h := Nf.least_le r x
    simp only [List.mem_cons] at hy
    rcases hy with rfl | hy
    · exact h.1
    · exact h.2 y hy
theorem Nr.by_px (s : ByteArray) : Tb.by s = Px.by s := by
  funext i
  simp only [Tb.by, Px.by]
  split
  · rename_i h
    have h' : i < s.data.toList.length := by simpa using h
    rw [List.getD_eq_getElem?_getD, List.getElem?_eq_getElem h']
    simp only [Option.getD_some, Array.getElem_toList]
    rfl
  · rename_i h
    have h' : s.data.toList.length ≤ i := by
      have : ¬ i < s.data.toList.length := by simpa using h
      omega
    rw [List.getD_eq_getElem?_getD, List.getElem?_eq_none h']
    rfl
def Nr.hit (l : List Rx) (s : ByteArray) (k : Nat) : Bool := match l[k]? with
  | some x => Rx.sp (Tb.by s) s.size x 0 s.size
  | none => false
theorem Nr.hit_get {l : List Rx} {s : ByteArray} {k : Nat} (h : k < l.length) : Nr.hit l s k = Rx.sp (Tb.by s) s.size l[k] 0 s.size := by
  unfold Nr.hit
  rw [List.getElem?_eq_getElem h]
theorem Nr.frr_hit {l : List Rx} (hw : Rx.wfL l = true) (s : ByteArray) (r : Nat) : Nf.frr l (Px.by s) s.size r ↔ Nr.hit l s r = true := by
  rw [Nf.frr_go hw]
  constructor
  · rintro ⟨h, hg⟩
    rw [Nr.hit_get h, Nr.by_px]
    exact (Rx.sp_iff _ _ _ (Rx.wfL_all.1 hw _ (List.getElem_mem h)) 0 s.size (by omega)).2 hg
  · intro h
    have hl : r < l.length := by
      unfold Nr.hit at h
      cases e : l[r]? with
      | none => rw [e] at h; simp at h
      | some x => exact (List.getElem?_eq_some_iff.1 e).1
    refine ⟨hl, ?_⟩
    rw [Nr.hit_get hl, Nr.by_px] at h
    exact (Rx.sp_iff _ _ _ (Rx.wfL_all.1 hw _ (List.getElem_mem hl)) 0 s.size (by omega)).1 h
structure Nr.From (l : List Rx) (s : ByteArray) (k : Nat) (mn : Int) (ok : Bool) : Prop where
  no : ok = false → mn = 0 ∧ ∀ j, k ≤ j → Nr.hit l s j = false
  yes : ok = true → ∃ m : Nat, mn = m ∧ k ≤ m ∧ Nr.hit l s m = true ∧ ∀ j, k ≤ j → j < m → Nr.hit l s j = false
theorem Nr.From.hit {l : List Rx} {s : ByteArray} {k : Nat} {mn : Int} {ok : Bool} (h : Nr.hit l s k = true) : Nr.From l s k k true := ⟨fun e => by simp at e, fun _ => ⟨k, rfl, by omega, h, fun j h1 h2 => by omega⟩⟩
theorem Nr.From.miss {l : List Rx} {s : ByteArray} {k : Nat} {mn : Int} {ok : Bool} (H : Nr.From l s (k + 1) mn ok) (h : Nr.hit l s k = false) : Nr.From l s k mn ok := by
  have two : ∀ j, k ≤ j → j = k ∨ k + 1 ≤ j := fun j hj => by omega
  refine ⟨fun e => ⟨(H.no e).1, fun j hj => ?_⟩, fun e => ?_⟩
  · rcases two j hj with rfl | hj
    · exact h
    · exact (H.no e).2 j hj
  · obtain ⟨m, h1, h2, h3, h4⟩ := H.yes e
    refine ⟨m, h1, by omega, h3, fun j hj hm => ?_⟩
    rcases two j hj with rfl | hj
    · exact h
    · exact h4 j hj hm
theorem Nr.from_end (l : List Rx) (s : ByteArray) (k : Nat) (h : l.length ≤ k) : Nr.From l s k 0 false := ⟨fun _ => ⟨rfl, fun j hj => by
  unfold Nr.hit
  rw [List.getElem?_eq_none (by omega)]⟩, fun e => by simp at e⟩
theorem Nr.rule_from {l : List Rx} (hw : Rx.wfL l = true) {s : ByteArray} {fr : List Int} (h : Nf.Rise fr (Nf.frr l (Px.by s) s.size)) {mn : Int} {ok : Bool} (H : Nr.From l s 0 mn ok) : Nf.rule fr = (mn, ok) := by
  cases ok with
  | false =>
    obtain ⟨h1, h2⟩ := H.no rfl
    have : fr = [] := by
      cases fr with
      | nil => rfl
      | cons x r =>
        have h0 := h.nn x (by simp)
        obtain ⟨k, rfl⟩ : ∃ k : Nat, x = k := ⟨x.toNat, by omega⟩
        have h3 := (h.is k).1 (by simp)
        rw [Nr.frr_hit hw, h2 k (by omega)] at h3
        simp at h3
    rw [this, h1]
    rfl
  | true =>
    obtain ⟨m, rfl, _, h3, h4⟩ := H.yes rfl
    have hm := (h.is m).2 ((Nr.frr_hit hw s m).2 h3)
    cases fr with
    | nil => simp at hm
    | cons x r =>
      simp only [Nf.rule]
      have h5 := Nr.rule_le (x :: r) m hm
      simp only [Nf.rule] at h5
      have h6 : Nf.least x r ∈ x :: r := by
        rcases Nf.least_mem r x with e | e
        · rw [e]; simp
        · exact List.mem_cons_of_mem _ e
      have h0 := h.nn _ h6
      obtain ⟨k, hk⟩ : ∃ k : Nat, Nf.least x r = k := ⟨(Nf.least x r).toNat, by omega⟩
      rw [hk] at h5 h6 ⊢
      have h7 := (h.is k).1 h6
      rw [Nr.frr_hit hw] at h7
      have : ¬ k < m := fun hlt => by rw [h4 k (by omega) hlt] at h7; simp at h7
      have : k = m := by omega
      rw [this]
theorem Nr.mt_sp {x : Rx} (t : ByteArray) (h : x.may 1 = true) : Rx.sp (Tb.by t) t.size x 0 t.size = Px.mt x t := by
  rw [Bool.eq_iff_iff, Px.mt_iff t h, Nr.by_px]
  exact Rx.sp_iff (Px.by t) t.size x (Rx.may_iff.1 h).1 0 t.size (Nat.zero_le _)
end Go.Proofs.YthapedadnbkgnaaGreat
