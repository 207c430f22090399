/- Plain facts: the document's way to find the sign with which a text begins finds the same one (no program is named here). Plain facts: signs one behind the other, and their edges (no program is named here). -/
import Derived.Test.YtlobfmkaamgfeaaRnN
import Derived.Laws.BytesArg
import Derived.Lib.Strings
namespace Go.Proofs.Ytlobfmkaamgfeaa
set_option linter.unusedVariables false
set_option linter.unusedSimpArgs false
namespace Rn
def toI (c : UInt8) : Int := c.toNat
def numL : List UInt8 → Nat → Int
  | c0 :: _, 1 => c0.toNat
  | c0 :: c1 :: _, 2 => 64 * (c0.toNat - 192) + c1.toNat % 64
  | c0 :: c1 :: c2 :: _, 3 => 64 * (64 * (c0.toNat - 224) + c1.toNat % 64) + c2.toNat % 64
  | c0 :: c1 :: c2 :: c3 :: _, 4 => 64 * (64 * (64 * (c0.toNat - 240) + c1.toNat % 64) + c2.toNat % 64) + c3.toNat % 64
  | _, _ => 0
theorem size_cases {n k : Int} (h : sizeI n = k) (hk : 1 ≤ k) :
    (k = 1 ∧ 0 ≤ n ∧ n < 128) ∨ (k = 2 ∧ 128 ≤ n ∧ n < 2048) ∨ (k = 3 ∧ 2048 ≤ n ∧ n < 65536 ∧ ¬ (55296 ≤ n ∧ n ≤ 57343)) ∨ (k = 4 ∧ 65536 ≤ n ∧ n < 1114112) := by
  unfold sizeI at h; (repeat' split at h) <;> omega
theorem sign_cases {n : Int} (h : signI n = true) :
    (0 ≤ n ∧ n < 128) ∨ (128 ≤ n ∧ n < 2048) ∨ (2048 ≤ n ∧ n < 65536 ∧ ¬ (55296 ≤ n ∧ n ≤ 57343)) ∨ (65536 ≤ n ∧ n < 1114112) := by
  simp [signI] at h; omega
theorem prom_2 {c : Int} (h : 192 ≤ c ∧ c < 224) : promI c = 2 := by unfold promI; rw [if_neg (by omega), if_neg (by omega), if_pos (by omega)]
theorem prom_3 {c : Int} (h : 224 ≤ c ∧ c < 240) : promI c = 3 := by unfold promI; rw [if_neg (by omega), if_neg (by omega), if_neg (by omega), if_pos (by omega)]
theorem prom_4 {c : Int} (h : 240 ≤ c ∧ c < 248) : promI c = 4 := by unfold promI; rw [if_neg (by omega), if_neg (by omega), if_neg (by omega), if_neg (by omega), if_pos (by omega)]
theorem prom_1 {c : Int} (h : c < 128) : promI c = 1 := by unfold promI; rw [if_pos (by omega)]
theorem prom_cases {c : Int} (h : promI c ≠ 0) : (promI c = 1 ∧ c < 128) ∨ (promI c = 2 ∧ 192 ≤ c ∧ c < 224) ∨ (promI c = 3 ∧ 224 ≤ c ∧ c < 240) ∨ (promI c = 4 ∧ 240 ≤ c ∧ c < 248) := by
  unfold promI at h ⊢; (repeat' split at h) <;> first | omega | (simp_all; done) | (simp_all; omega)
theorem lead_1 : leadI 1 = 0 := by decide
theorem lead_2 : leadI 2 = 192 := by decide
theorem lead_3 : leadI 3 = 224 := by decide
theorem lead_4 : leadI 4 = 240 := by decide
theorem fol_of {c : UInt8} (h : 128 ≤ (c.toNat : Int) ∧ (c.toNat : Int) ≤ 191) : folI c.toNat = true := by simp [folI]; omega
theorem of_fol {c : UInt8} (h : folI c.toNat = true) : 128 ≤ (c.toNat : Int) ∧ (c.toNat : Int) ≤ 191 := by simpa [folI] using h
/-- what a sign's bytes begin is read as that sign -/
theorem first_of_1 (c0 : UInt8) (t : List UInt8) (n : Int) (hn : 0 ≤ n ∧ n < 128) (h0 : (c0.toNat : Int) = n) : firstL (c0 :: t) = (n, 1) := by
  have hp : promI c0.toNat = 1 := prom_1 (by omega)
  rw [firstL_cons, hp, if_neg (by simp; omega), lead_1]
  have hs := (bytesI_1 n hn).2.2
  simp [dec, fin, h0, hs]
theorem first_of_2 (c0 c1 : UInt8) (t : List UInt8) (n : Int) (hn : 128 ≤ n ∧ n < 2048) (h0 : (c0.toNat : Int) = 192 + n / 64) (h1 : (c1.toNat : Int) = 128 + n % 64) : firstL (c0 :: c1 :: t) = (n, 2) := by
  have hp : promI c0.toNat = 2 := prom_2 (by omega)
  have f1 := fol_of (c := c1) (by omega)
  rw [firstL_cons, hp, if_neg (by simp; omega), lead_2]
  have hs := (bytesI_2 n hn).2.2
  have e : ((c0.toNat : Int) - 192) * 64 + c1.toNat - 128 = n := by omega
  simp [dec, fin, f1, e, hs]
theorem first_of_3 (c0 c1 c2 : UInt8) (t : List UInt8) (n : Int) (hn : 2048 ≤ n ∧ n < 65536) (hn2 : ¬ (55296 ≤ n ∧ n ≤ 57343)) (h0 : (c0.toNat : Int) = 224 + n / 4096) (h1 : (c1.toNat : Int) = 128 + n / 64 % 64) (h2 : (c2.toNat : Int) = 128 + n % 64) : firstL (c0 :: c1 :: c2 :: t) = (n, 3) := by
  have hp : promI c0.toNat = 3 := prom_3 (by omega)
  have f1 := fol_of (c := c1) (by omega)
  have f2 := fol_of (c := c2) (by omega)
  rw [firstL_cons, hp, if_neg (by simp; omega), lead_3]
  have hs := (bytesI_3 n hn hn2).2.2
  have e : (((c0.toNat : Int) - 224) * 64 + c1.toNat - 128) * 64 + c2.toNat - 128 = n := by omega
  simp [dec, fin, f1, f2, e, hs]
theorem first_of_4 (c0 c1 c2 c3 : UInt8) (t : List UInt8) (n : Int) (hn : 65536 ≤ n ∧ n < 1114112) (h0 : (c0.toNat : Int) = 240 + n / 262144) (h1 : (c1.toNat : Int) = 128 + n / 4096 % 64) (h2 : (c2.toNat : Int) = 128 + n / 64 % 64) (h3 : (c3.toNat : Int) = 128 + n % 64) : firstL (c0 :: c1 :: c2 :: c3 :: t) = (n, 4) := by
  have hp : promI c0.toNat = 4 := prom_4 (by omega)
  have f1 := fol_of (c := c1) (by omega)
  have f2 := fol_of (c := c2) (by omega)
  have f3 := fol_of (c := c3) (by omega)
  rw [firstL_cons, hp, if_neg (by simp; omega), lead_4]
  have hs := (bytesI_4 n hn).2.2
  have e : ((((c0.toNat : Int) - 240) * 64 + c1.toNat - 128) * 64 + c2.toNat - 128) * 64 + c3.toNat - 128 = n := by omega
  simp [dec, fin, f1, f2, f3, e, hs]
theorem shape1 {t : List UInt8} (h : 1 ≤ t.length) : ∃ c1 t', t = c1 :: t' := by
  cases t with
  | nil => simp at h
  | cons c t => exact ⟨c, t, rfl⟩
/-- what begins with a sign's bytes is read as that sign -/
theorem first_of (n : Int) (hs : signI n = true) (l : List UInt8) (k : Nat) (hk : 1 ≤ k) (hl : k ≤ l.length) (hb : bytesI n = (l.take k).map toI) : firstL l = (n, (k : Int)) := by
  rcases sign_cases hs with h | h | ⟨h, h2, h3⟩ | h
  · rw [(bytesI_1 n h).2.1] at hb
    match l, k, hk, hl with
    | [], _, hk, hl => simp at hl; omega
    | c0 :: t, 1, _, _ => simp [toI] at hb; exact first_of_1 c0 t n h hb.symm
    | c0 :: c1 :: t, k + 2, _, _ => simp at hb
  · rw [(bytesI_2 n h).2.1] at hb
    match l, k, hk, hl with
    | [], _, hk, hl => simp at hl; omega
    | c0 :: t, 1, _, _ => simp at hb
    | c0 :: c1 :: t, 2, _, _ => simp [toI] at hb; exact first_of_2 c0 c1 t n h hb.1.symm hb.2.symm
    | c0 :: c1 :: c2 :: t, k + 3, _, _ => simp at hb
  · rw [(bytesI_3 n ⟨h, h2⟩ h3).2.1] at hb
    match l, k, hk, hl with
    | [], _, hk, hl => simp at hl; omega
    | c0 :: t, 1, _, _ => simp at hb
    | c0 :: c1 :: t, 2, _, _ => simp at hb
    | c0 :: c1 :: c2 :: t, 3, _, _ => simp [toI] at hb; exact first_of_3 c0 c1 c2 t n ⟨h, h2⟩ h3 hb.1.symm hb.2.1.symm hb.2.2.symm
    | c0 :: c1 :: c2 :: c3 :: t, k + 4, _, _ => simp at hb
  · rw [(bytesI_4 n h).2.1] at hb
    match l, k, hk, hl with
    | [], _, hk, hl => simp at hl; omega
    | c0 :: t, 1, _, _ => simp at hb
    | c0 :: c1 :: t, 2, _, _ => simp at hb
    | c0 :: c1 :: c2 :: t, 3, _, _ => simp at hb
    | c0 :: c1 :: c2 :: c3 :: t, 4, _, _ => simp [toI] at hb; exact first_of_4 c0 c1 c2 c3 t n h hb.1.symm hb.2.1.symm hb.2.2.1.symm hb.2.2.2.symm
    | c0 :: c1 :: c2 :: c3 :: c4 :: t, k + 5, _, _ => simp at hb
/-- what is read as a sign begins with its bytes -/
theorem of_first (l : List UInt8) (n k : Int) (h : firstL l = (n, k)) (hk : 0 < k) :
    signI n = true ∧ ∃ j : Nat, k = j ∧ 1 ≤ j ∧ j ≤ 4 ∧ j ≤ l.length ∧ bytesI n = (l.take j).map toI ∧ numL l j = n ∧ 0 ≤ ((l.getD 0 0).toNat : Int) - leadI j := by
  cases l with
  | nil => simp [firstL] at h; omega
  | cons c0 t =>
    rw [firstL_cons] at h
    by_cases hp : promI c0.toNat = 0 ∨ ((c0 :: t).length : Int) < promI c0.toNat
    · rw [if_pos hp] at h; simp at h; omega
    rw [if_neg hp] at h
    cases hd : dec (c0.toNat - leadI (promI c0.toNat)) (((c0 :: t).take (promI c0.toNat).toNat).drop 1) with
    | none => rw [hd] at h; simp [fin] at h; omega
    | some m =>
      rw [hd] at h; simp only [fin] at h
      by_cases hz : sizeI m = promI c0.toNat
      · rw [if_pos hz] at h
        simp only [Prod.mk.injEq] at h
        obtain ⟨rfl, rfl⟩ := h
        have hlen : promI c0.toNat ≤ ((c0 :: t).length : Int) := by omega
        rcases prom_cases (c := c0.toNat) (by omega) with ⟨e, hc⟩ | ⟨e, hc⟩ | ⟨e, hc⟩ | ⟨e, hc⟩
        · rw [e] at hz hd hlen ⊢
          rw [lead_1] at hd; simp [dec] at hd
          have hr : 0 ≤ m ∧ m < 128 := by rcases size_cases hz (by omega) with h | h | h | h <;> omega
          refine ⟨(bytesI_1 m hr).1, 1, rfl, by omega, by omega, by simp, ?_, ?_, ?_⟩
          · rw [(bytesI_1 m hr).2.1]; simp [toI, hd]
          · simp [numL, hd]
          · simp [lead_1]
        · rw [e] at hz hd hlen ⊢
          have hr : 128 ≤ m ∧ m < 2048 := by rcases size_cases hz (by omega) with h | h | h | h <;> omega
          obtain ⟨c1, t, rfl⟩ := shape1 (t := t) (by simp at hlen; omega)
          · rw [lead_2] at hd; have hdl : ((c0 :: c1 :: t).take ((2 : Int)).toNat).drop 1 = [c1] := rfl
            rw [hdl] at hd; simp only [dec] at hd
            by_cases f1 : folI c1.toNat = true
            · simp only [f1, if_true, Option.some.injEq] at hd
              have g1 := of_fol f1
              refine ⟨(bytesI_2 m hr).1, 2, rfl, by omega, by omega, by simp, ?_, ?_, ?_⟩
              · rw [(bytesI_2 m hr).2.1]; simp [toI]; omega
              · simp only [numL]; omega
              · simp [lead_2]; omega
            · simp [f1] at hd
        · rw [e] at hz hd hlen ⊢
          have hr : (2048 ≤ m ∧ m < 65536) ∧ ¬ (55296 ≤ m ∧ m ≤ 57343) := by rcases size_cases hz (by omega) with h | h | h | h <;> omega
          obtain ⟨c1, t, rfl⟩ := shape1 (t := t) (by simp at hlen; omega)
          obtain ⟨c2, t, rfl⟩ := shape1 (t := t) (by simp at hlen; omega)
          · rw [lead_3] at hd; have hdl : ((c0 :: c1 :: c2 :: t).take ((3 : Int)).toNat).drop 1 = [c1, c2] := rfl
            rw [hdl] at hd; simp only [dec] at hd
            by_cases f1 : folI c1.toNat = true
            · by_cases f2 : folI c2.toNat = true
              · simp only [f1, f2, if_true, Option.some.injEq] at hd
                have g1 := of_fol f1
                have g2 := of_fol f2
                refine ⟨(bytesI_3 m hr.1 hr.2).1, 3, rfl, by omega, by omega, by simp, ?_, ?_, ?_⟩
                · rw [(bytesI_3 m hr.1 hr.2).2.1]; simp [toI]; omega
                · simp only [numL]; omega
                · simp [lead_3]; omega
              · simp [f1, f2] at hd
            · simp [f1] at hd
        · rw [e] at hz hd hlen ⊢
          have hr : 65536 ≤ m ∧ m < 1114112 := by rcases size_cases hz (by omega) with h | h | h | h <;> omega
          obtain ⟨c1, t, rfl⟩ := shape1 (t := t) (by simp at hlen; omega)
          obtain ⟨c2, t, rfl⟩ := shape1 (t := t) (by simp at hlen; omega)
          obtain ⟨c3, t, rfl⟩ := shape1 (t := t) (by simp at hlen; omega)
          · rw [lead_4] at hd; have hdl : ((c0 :: c1 :: c2 :: c3 :: t).take ((4 : Int)).toNat).drop 1 = [c1, c2, c3] := rfl
            rw [hdl] at hd; simp only [dec] at hd
            by_cases f1 : folI c1.toNat = true
            · by_cases f2 : folI c2.toNat = true
              · by_cases f3 : folI c3.toNat = true
                · simp only [f1, f2, f3, if_true, Option.some.injEq] at hd
                  have g1 := of_fol f1
                  have g2 := of_fol f2
                  have g3 := of_fol f3
                  refine ⟨(bytesI_4 m hr).1, 4, rfl, by omega, by omega, by simp, ?_, ?_, ?_⟩
                  · rw [(bytesI_4 m hr).2.1]; simp [toI]; omega
                  · simp only [numL]; omega
                  · simp [lead_4]; omega
                · simp [f1, f2, f3] at hd
              · simp [f1, f2] at hd
            · simp [f1] at hd
      · rw [if_neg hz] at h; simp at h; omega
theorem first_zero (l : List UInt8) (h : ¬ 0 < (firstL l).2) : firstL l = (-1, 0) := by
  cases l with
  | nil => rfl
  | cons c t =>
    rw [firstL_cons] at h ⊢
    have := prom_bd c.toNat
    split
    · rfl
    · rename_i hp
      rw [if_neg hp] at h
      cases hd : dec (c.toNat - leadI (promI c.toNat)) (((c :: t).take (promI c.toNat).toNat).drop 1) with
      | none => rfl
      | some n =>
        rw [hd] at h; simp only [fin] at h ⊢
        split
        · rename_i hz; rw [if_pos hz] at h; simp only [] at h; omega
        · rfl
/-- of k bytes none of the document's signs -/
def nope (l : List UInt8) (k : Nat) : Prop := ¬ (0 ≤ ((l.getD 0 0).toNat : Int) - leadI k ∧ signI (numL l k) = true ∧ bytesI (numL l k) = (l.take k).map toI)
theorem first_none (l : List UInt8) (h : ∀ k : Nat, 1 ≤ k → k ≤ 4 → k ≤ l.length → nope l k) : firstL l = (-1, 0) := by
  apply first_zero
  intro hk
  obtain ⟨hs, j, _, h1, h2, h3, h4, h5, h6⟩ := of_first l (firstL l).1 (firstL l).2 rfl hk
  exact h j h1 h2 h3 ⟨h6, by rw [h5]; exact hs, by rw [h5]; exact h4⟩
theorem bytesI_byte (n : Int) : ∀ x ∈ bytesI n, 0 ≤ x ∧ x < 256 := by
  by_cases hs : signI n = true
  · rcases sign_cases hs with h | h | ⟨h, h2, h3⟩ | h
    · rw [(bytesI_1 n h).2.1]; simp; omega
    · rw [(bytesI_2 n h).2.1]; simp; omega
    · rw [(bytesI_3 n ⟨h, h2⟩ h3).2.1]; simp; omega
    · rw [(bytesI_4 n h).2.1]; simp; omega
  · unfold bytesI; rw [if_neg hs]; simp
theorem map_back (xs : List Int) (l : List UInt8) (h : ∀ x ∈ xs, 0 ≤ x ∧ x < 256) : (xs.map fun n => UInt8.ofNat n.toNat) = l ↔ xs = l.map toI := by
  induction xs generalizing l with
  | nil => cases l <;> simp
  | cons x xs ih =>
    cases l with
    | nil => simp
    | cons c t =>
      have hx := h x (by simp)
      have := ih t (fun y hy => h y (by simp [hy]))
      simp only [List.map_cons, List.cons.injEq, this]
      refine and_congr ?_ Iff.rfl
      unfold toI
      constructor
      · intro e; rw [← e, UInt8.toNat_ofNat']; omega
      · intro e; apply UInt8.toNat.inj; rw [UInt8.toNat_ofNat']; omega
theorem head_data (s : ByteArray) (k : Nat) : (s.extract 0 k).data.toList = s.data.toList.take k := by
  rw [Lib.extract_data]; simp
theorem cmp_iff (n : Int) (s : ByteArray) (k : Nat) : ((strOfNums (bytesI n)).toList == (s.extract 0 k).toList) = true ↔ bytesI n = (s.data.toList.take k).map toI := by
  rw [beq_iff_eq, ByteArray.toList_eq, ByteArray.toList_eq, strOfNums_data, head_data]
  exact map_back _ _ (bytesI_byte n)
theorem get0 (s : ByteArray) (h : 0 < s.size) : s.data.toList.getD 0 0 = s[0] := by rw [list0 s h]; rfl
theorem num_1 (s : ByteArray) (h : 1 ≤ s.size) : numL s.data.toList 1 = s[0].toNat := by rw [list0 s (by omega)]; rfl
theorem num_2 (s : ByteArray) (h : 2 ≤ s.size) : numL s.data.toList 2 = 64 * ((s[0].toNat : Int) - 192) + (s[1].toNat : Int) % 64 := by
  rw [list0 s (by omega), drop_at s 1 (by omega)]; rfl
theorem num_3 (s : ByteArray) (h : 3 ≤ s.size) : numL s.data.toList 3 = 64 * (64 * ((s[0].toNat : Int) - 224) + (s[1].toNat : Int) % 64) + (s[2].toNat : Int) % 64 := by
  rw [list0 s (by omega), drop_at s 1 (by omega), drop_at s 2 (by omega)]; rfl
theorem num_4 (s : ByteArray) (h : 4 ≤ s.size) : numL s.data.toList 4 = 64 * (64 * (64 * ((s[0].toNat : Int) - 240) + (s[1].toNat : Int) % 64) + (s[2].toNat : Int) % 64) + (s[3].toNat : Int) % 64 := by
  rw [list0 s (by omega), drop_at s 1 (by omega), drop_at s 2 (by omega), drop_at s 3 (by omega)]; rfl
end Rn
namespace Rn
def blk (n : Int) : List UInt8 := (bytesI n).map fun n => UInt8.ofNat n.toNat
def cat : List Int → List UInt8
  | [] => []
  | n :: ns => blk n ++ cat ns
theorem cat_append (a b : List Int) : cat (a ++ b) = cat a ++ cat b := by
  induction a with
  | nil => rfl
  | cons n a ih => simp [cat, ih]
theorem blk_form (n : Int) (h : signI n = true) : ∃ c t, blk n = c :: t ∧ folI c.toNat = false ∧ ∀ x ∈ t, folI x.toNat = true := by
  have hb := (map_back (bytesI n) (blk n) (bytesI_byte n)).1 rfl
  rcases sign_cases h with h | h | ⟨h, h2, h3⟩ | h
  · rw [(bytesI_1 n h).2.1] at hb
    cases hl : blk n with
    | nil => rw [hl] at hb; simp at hb
    | cons c t =>
      rw [hl] at hb; simp [toI] at hb
      obtain ⟨h0, rfl⟩ := hb
      exact ⟨c, [], rfl, by simp [folI]; omega, by simp⟩
  · rw [(bytesI_2 n h).2.1] at hb
    match hl : blk n with
    | [] => rw [hl] at hb; simp at hb
    | [c] => rw [hl] at hb; simp at hb
    | c :: c1 :: t =>
      rw [hl] at hb; simp [toI] at hb
      obtain ⟨h0, h1, rfl⟩ := hb
      refine ⟨c, [c1], rfl, by simp [folI]; omega, ?_⟩
      intro x hx; simp at hx; subst hx; exact fol_of (by omega)
  · rw [(bytesI_3 n ⟨h, h2⟩ h3).2.1] at hb
    match hl : blk n with
    | [] => rw [hl] at hb; simp at hb
    | [c] => rw [hl] at hb; simp at hb
    | [c, c1] => rw [hl] at hb; simp at hb
    | c :: c1 :: c2 :: t =>
      rw [hl] at hb; simp [toI] at hb
      obtain ⟨h0, h1, h4, rfl⟩ := hb
      refine ⟨c, [c1, c2], rfl, by simp [folI]; omega, ?_⟩
      intro x hx; simp at hx
      rcases hx with rfl | rfl <;> exact fol_of (by omega)
  · rw [(bytesI_4 n h).2.1] at hb
    match hl : blk n with
    | [] => rw [hl] at hb; simp at hb
    | [c] => rw [hl] at hb; simp at hb
    | [c, c1] => rw [hl] at hb; simp at hb
    | [c, c1, c2] => rw [hl] at hb; simp at hb
    | c :: c1 :: c2 :: c3 :: t =>
      rw [hl] at hb; simp [toI] at hb
      obtain ⟨h0, h1, h4, h5, rfl⟩ := hb
      refine ⟨c, [c1, c2, c3], rfl, by simp [folI]; omega, ?_⟩
      intro x hx; simp at hx
      rcases hx with rfl | rfl | rfl <;> exact fol_of (by omega)
theorem blk_first (n : Int) (h : signI n = true) (r : List UInt8) : firstL (blk n ++ r) = (n, ((blk n).length : Int)) := by
  obtain ⟨c, t, hc, _⟩ := blk_form n h
  have hp : 1 ≤ (blk n).length := by rw [hc]; simp
  refine first_of n h _ _ hp (by simp) ?_
  rw [List.take_left' rfl]
  exact (map_back _ _ (bytesI_byte n)).1 rfl
def Signs (ns : List Int) : Prop := ∀ n ∈ ns, signI n = true
theorem whole_cat (ns : List Int) (h : Signs ns) : wholeL (cat ns) = true := by
  induction ns with
  | nil => rfl
  | cons n ns ih =>
    have hn := h n (by simp)
    obtain ⟨c, t, hc, _⟩ := blk_form n hn
    show wholeL (blk n ++ cat ns) = true
    rw [wholeL_eq, blk_first n hn, if_neg (by rw [hc]; simp)]
    simp only [Int.toNat_natCast, List.drop_left']
    exact ih (fun m hm => h m (by simp [hm]))
theorem cnt_append (a b : List UInt8) : cnt (a ++ b) = cnt a + cnt b := by unfold cnt; rw [List.countP_append]; simp
theorem cnt_cat (ns : List Int) (h : Signs ns) : cnt (cat ns) = ns.length := by
  induction ns with
  | nil => rfl
  | cons n ns ih =>
    have hn := h n (by simp)
    obtain ⟨c, t, hc, h0, h1⟩ := blk_form n hn
    show cnt (blk n ++ cat ns) = _
    have ht : cnt t = 0 := by
      unfold cnt; rw [List.countP_eq_zero.2]; rfl
      intro x hx; simp [fol, h1 x hx]
    have hb : cnt (blk n) = 1 := by
      rw [hc]; show cnt ([c] ++ t) = 1
      rw [cnt_append, ht]; simp [cnt, fol, h0]
    rw [cnt_append, hb, ih (fun m hm => h m (by simp [hm]))]; simp; omega
def edgeL (l : List UInt8) (a : Nat) : Prop := a = l.length ∨ ∃ c, l[a]? = some c ∧ folI c.toNat = false
theorem edge_cut (ns : List Int) (h : Signs ns) : ∀ a, edgeL (cat ns) a → ∃ j, (cat ns).take a = cat (ns.take j) ∧ (cat ns).drop a = cat (ns.drop j) := by
  induction ns with
  | nil => intro a _; exact ⟨0, by simp [cat], by simp [cat]⟩
  | cons n ns ih =>
    intro a ha
    have hn := h n (by simp)
    obtain ⟨c, t, hc, h0, h1⟩ := blk_form n hn
    by_cases hz : a = 0
    · subst hz; exact ⟨0, by simp [cat], by simp⟩
    have e : cat (n :: ns) = blk n ++ cat ns := rfl
    by_cases hlt : a < (blk n).length
    · exfalso
      rcases ha with ha | ⟨x, hx, hf⟩
      · rw [e] at ha; simp at ha; omega
      · rw [e, List.getElem?_append_left hlt, hc] at hx
        obtain ⟨b, rfl⟩ : ∃ b, a = b + 1 := ⟨a - 1, by omega⟩
        simp at hx
        have := h1 x (List.mem_of_getElem? hx)
        rw [hf] at this; cases this
    · have hs : Signs ns := fun m hm => h m (by simp [hm])
      obtain ⟨j, hj1, hj2⟩ := ih hs (a - (blk n).length) (by
        rcases ha with ha | ⟨x, hx, hf⟩
        · left; rw [e] at ha; simp at ha; omega
        · right; exact ⟨x, by rw [e, List.getElem?_append_right (by omega)] at hx; exact hx, hf⟩)
      refine ⟨j + 1, ?_, ?_⟩
      · rw [e, List.take_append, List.take_of_length_le (by omega), hj1]; rfl
      · rw [e, List.drop_append, List.drop_eq_nil_of_le (by omega), hj2]; rfl
theorem piece_whole (ns : List Int) (h : Signs ns) (a b : Nat) (hab : a ≤ b) (hb : b ≤ (cat ns).length) (ha : edgeL (cat ns) a) (he : edgeL (cat ns) b) : wholeL (((cat ns).drop a).take (b - a)) = true := by
  obtain ⟨j, _, hj⟩ := edge_cut ns h a ha
  have hs : Signs (ns.drop j) := fun m hm => h m (List.mem_of_mem_drop hm)
  have he2 : edgeL (cat (ns.drop j)) (b - a) := by
    rw [← hj]
    rcases he with he | ⟨c, hc, hf⟩
    · left; rw [List.length_drop]; omega
    · right; exact ⟨c, by rw [List.getElem?_drop]; rw [show a + (b - a) = b by omega]; exact hc, hf⟩
  obtain ⟨i, hi, _⟩ := edge_cut _ hs (b - a) he2
  rw [hj, hi]
  exact whole_cat _ (fun m hm => hs m (List.mem_of_mem_take hm))
theorem edge_of (s : ByteArray) (a : Nat) (h : edgeB s a = true) : edgeL s.data.toList a := by
  unfold edgeB at h
  by_cases hc : 0 ≤ (a : Int) ∧ (a : Int) < s.size
  · rw [dif_pos hc] at h
    right
    refine ⟨s[a]'(by omega), ?_, ?_⟩
    · rw [List.getElem?_eq_getElem (by simp; omega)]; rfl
    · simpa using h
  · rw [dif_neg hc] at h
    left; simp at h; rw [len_data]; omega
end Rn
end Go.Proofs.Ytlobfmkaamgfeaa
