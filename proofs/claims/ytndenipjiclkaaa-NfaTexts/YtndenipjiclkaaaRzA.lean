/- What slices.IndexFunc, slices.ContainsFunc over expressions, and the program's empty answer, walked. -/
import Derived.Test.YtndenipjiclkaaaRzM
import Derived.Test.YtndenipjiclkaaaRyH
namespace Go.Proofs.Ytndenipjiclkaaa
set_option linter.unusedVariables false
set_option linter.unusedSimpArgs false
open Go.RowKit
/-- the first that is so -/
def Px.idx (g : Rx → Bool) : List Rx → Nat → Int
  | [], _ => -1
  | x :: r, i => if g x = true then i else Px.idx g r (i + 1)
theorem Px.idx_any (g : Rx → Bool) : ∀ (l : List Rx) (i : Nat), decide (0 ≤ Px.idx g l i) = l.any g
  | [], i => by simp [Px.idx]
  | x :: r, i => by
    rw [Px.idx, List.any_cons]
    split
    · rename_i h; rw [h]; simp
    · rename_i h
      rw [Px.idx_any g r (i + 1)]
      simp [h]
set_option maxRecDepth 100000 in
set_option maxHeartbeats 1000000 in
theorem indexFunc_any (K : FuncId) (g : Rx → Bool) (l : List Rx) (a : Option Addr) (cap : Nat) (w : World) (hl : Rx.InL w l a 0) (hn : l.length ≤ 100000) (hent : ∀ args w, (callFunc K args).run Try.prog w = .ok (.enter K args) w)
    (hQ : ∀ x ∈ l, ∀ (v : Value) (u : World), Rx.Is u x v → Calls Try.prog K #[v] u (Bs.BPost u (g x))) :
    Calls Try.prog 58 #[.slice a l.length cap, .func (.func K) #[] #[]] w fun e w' => e = .returned (.int .i64 (Px.idx g l 0)) ∧ Below w.heap.size w w' := by
  have HQ := Lib.hid hQ; clear hQ
  have HL := Lib.hid hl; clear hl
  obtain ⟨n, hln⟩ : ∃ n, l.length = n := ⟨_, rfl⟩
  have HN := Lib.hid hln
  rw [hln] at hn ⊢
  clear hln
  go_enter Try.func58, Try.ntmps58
  go_wp2_with fail
  go_loopw [8] (fun i wr => ∃ q : Nat, q ≤ n ∧ i = .int .i64 q ∧ Px.idx g l 0 = Px.idx g (l.drop q) q ∧ Below w.heap.size w wr) (fun i _ => n - (intOf i).toNat)
  case atStart => exact ⟨0, by omega, rfl, by rw [List.drop_zero], Below.refl _ _⟩
  case round =>
    obtain ⟨q, hq, rfl, hI, B⟩ := hrel
    have HI := Lib.hid hI
    clear hI
    by_cases hlt : q < n
    · have hlt' : q < l.length := by rw [HN.out]; exact hlt
      obtain ⟨p, rfl, hp⟩ := HL.out.get q hlt'
      rw [Nat.zero_add] at hp
      replace hp := hp.up B
      have HD := Lib.hid (show Px.idx g (l.drop q) q = if g l[q] = true then (q : Int) else Px.idx g (l.drop (q + 1)) (q + 1) by rw [List.drop_eq_getElem_cons hlt', Px.idx])
      have HM := Lib.hid (HQ.out l[q] (List.getElem_mem hlt'))
      generalize l[q] = y at *
      obtain ⟨k1, f1, a1, n1, cap1, ⟨x0, x1, x2, x3, x4, x5⟩, hi⟩ := hp.open
      have HS := Lib.hid hi
      clear hp hi
      unfold Rx.hdr at HS
      go_wp2_with fail
      refine (HM.out _ wr HS.out).mono ?_
      rintro e w1 ⟨rfl, hb⟩
      replace B := Bs.below_up B hb
      clear hb HM HS x0 x1 x2 x3 x4 x5
      cases hg : g y
      · have HI2 := Lib.hid (show Px.idx g l 0 = Px.idx g (l.drop (q + 1)) (q + 1) by rw [HI.out, HD.out, hg]; simp)
        clear HI HD hg
        go_wp2_with fail
        go_roundw
        case rel => exact ⟨q + 1, by omega, by go_num, HI2.out, B⟩
        case measure => simp [intOf]; omega
      · have HI2 := Lib.hid (show Px.idx g l 0 = (q : Int) by rw [HI.out, HD.out, hg]; simp)
        clear HI HD hg
        go_wp2_with fail
        go_ret
        exact ⟨by rw [HI2.out]; rfl, B⟩
    · have HI2 := Lib.hid (show Px.idx g l 0 = -1 by rw [HI.out, List.drop_eq_nil_of_le (by rw [HN.out]; omega)]; rfl)
      clear HI
      go_wp2_with fail
      go_ret
      exact ⟨by rw [HI2.out]; rfl, B⟩
set_option maxRecDepth 100000 in
set_option maxHeartbeats 400000 in
theorem containsFunc_any (K : FuncId) (g : Rx → Bool) (l : List Rx) (a : Option Addr) (cap : Nat) (w : World) (hl : Rx.InL w l a 0) (hn : l.length ≤ 100000) (hent : ∀ args w, (callFunc K args).run Try.prog w = .ok (.enter K args) w)
    (hQ : ∀ x ∈ l, ∀ (v : Value) (u : World), Rx.Is u x v → Calls Try.prog K #[v] u (Bs.BPost u (g x))) :
    Calls Try.prog 32 #[.slice a l.length cap, .func (.func K) #[] #[]] w (Bs.BPost w (l.any g)) := by
  have I := Lib.hid (indexFunc_any K g l a cap w hl hn hent hQ)
  have HA := Lib.hid (Px.idx_any g l 0)
  clear hl hn hent hQ
  generalize l.any g = b at *
  generalize l.length = n at *
  go_enter Try.func32, Try.ntmps32
  go_wp2_with fail
  refine I.out.mono ?_
  rintro e w1 ⟨rfl, hb⟩
  have HA := HA.out
  generalize Px.idx g l 0 = d at *
  go_wp2_with fail
  go_ret
  exact ⟨by rw [← HA]; rfl, hb⟩
theorem Rx.empA_any : ∀ l : List Rx, Rx.empA l = l.any Rx.emp
  | [] => rfl
  | x :: r => by rw [Rx.empA, Rx.empA_any r]; rfl
theorem Rx.empC_any : ∀ l : List Rx, Rx.empC l = !(l.any fun x => !x.emp)
  | [] => rfl
  | x :: r => by rw [Rx.empC, Rx.empC_any r, List.any_cons]; cases x.emp <;> simp
set_option maxRecDepth 100000 in
set_option maxHeartbeats 1000000 in
theorem empty_any : ∀ (m : Nat) (x : Rx), x.size ≤ m → m ≤ 100000 → ∀ (v : Value) (w : World), Rx.Is w x v → Calls Try.prog 48 #[v] w (Bs.BPost w x.emp) := by
  intro m
  induction m with
  | zero => intro x h; have := x.size_pos; omega
  | succ m ih =>
    rintro ⟨k, f, l⟩ hm hm4 v w hx
    obtain ⟨hk, a, cap, rfl, hl⟩ := hx
    simp only [Rx.size] at hm
    have hle := Rx.length_le l
    have hQ1 : ∀ x ∈ l, ∀ (v : Value) (u : World), Rx.Is u x v → Calls Try.prog 48 #[v] u (Bs.BPost u x.emp) := fun x hx v u hv => ih x (by have := (Rx.part_le hx).1; omega) (by omega) v u hv
    have hQ2 : ∀ x ∈ l, ∀ (v : Value) (u : World), Rx.Is u x v → Calls Try.prog 69 #[v] u (Bs.BPost u (!x.emp)) := by
      intro x hx v u hv
      have hv' : ∃ k f b n c, v = Rx.hdr k f b n c := by
        cases x
        obtain ⟨_, b, c, e, _⟩ := hv
        exact ⟨_, _, b, _, c, e⟩
      obtain ⟨k, f, b, n, c, rfl⟩ := hv'
      have A := Bs.below1 u (.cells #[.int .u8 k, .int .u64 (Bs.word f 0), .int .u64 (Bs.word f 1), .int .u64 (Bs.word f 2), .int .u64 (Bs.word f 3), .slice b n c] 54)
      have E := Lib.hid (hQ1 x hx _ _ (hv.up A))
      unfold Rx.hdr at E ⊢
      clear hv
      go_enter Try.func69, Try.ntmps69
      go_wp2_with fail
      refine E.out.mono ?_
      rintro e u1 ⟨rfl, hb⟩
      replace A := Bs.below_up A hb
      clear E hb
      go_wp2_with fail
      go_ret
      exact ⟨rfl, A⟩
    clear ih
    have A := Bs.below1 w (.cells #[.int .u8 k, .int .u64 (Bs.word f 0), .int .u64 (Bs.word f 1), .int .u64 (Bs.word f 2), .int .u64 (Bs.word f 3), .slice a l.length cap] 54)
    have C1 := Lib.hid (containsFunc_any 48 Rx.emp l a cap _ (hl.up A) (by omega) (fun _ _ => by kernel_rfl) hQ1)
    have C2 := Lib.hid (containsFunc_any 69 (fun x => !x.emp) l a cap _ (hl.up A) (by omega) (fun _ _ => by kernel_rfl) hQ2)
    have HE := Lib.hid (show (Rx.node k f l).emp = if k = 0 then true else if k = 4 then true else if k = 3 then l.any Rx.emp else if k = 2 then !(l.any fun x => !x.emp) else false by rw [Rx.emp, Rx.empA_any, Rx.empC_any])
    clear hQ1 hQ2 hl
    generalize (Rx.node k f l).emp = E at *
    generalize l.any Rx.emp = b1 at *
    generalize (l.any fun x => !x.emp) = b2 at *
    unfold Rx.hdr
    generalize l.length = n at *
    go_enter Try.func48, Try.ntmps48
    by_cases h0 : k = 0
    · subst h0
      go_wp2_with fail
      go_ret
      exact ⟨by rw [HE.out]; rfl, A⟩
    by_cases h4 : k = 4
    · subst h4
      go_wp2_with fail
      go_ret
      exact ⟨by rw [HE.out]; rfl, A⟩
    by_cases h3 : k = 3
    · subst h3
      go_wp2_with fail
      refine C1.out.mono ?_
      rintro e w1 ⟨rfl, hb⟩
      replace A := Bs.below_up A hb
      clear C1 C2 hb
      go_wp2_with fail
      go_ret
      exact ⟨by rw [HE.out]; rfl, A⟩
    by_cases h2 : k = 2
    · subst h2
      go_wp2_with fail
      refine C2.out.mono ?_
      rintro e w1 ⟨rfl, hb⟩
      replace A := Bs.below_up A hb
      clear C1 C2 hb
      go_wp2_with fail
      go_ret
      exact ⟨by rw [HE.out]; rfl, A⟩
    have e0 : ((k : Int) == 0) = false := by simp; omega
    have e4 : ((k : Int) == 4) = false := by simp; omega
    have e3 : ((k : Int) == 3) = false := by simp; omega
    have e2 : ((k : Int) == 2) = false := by simp; omega
    have HE2 := Lib.hid (show E = false by rw [HE.out, if_neg h0, if_neg h4, if_neg h3, if_neg h2])
    clear h0 h4 h3 h2 HE
    go_wp2_with fail
    go_ret
    exact ⟨by rw [HE2.out]; rfl, A⟩
end Go.Proofs.Ytndenipjiclkaaa
