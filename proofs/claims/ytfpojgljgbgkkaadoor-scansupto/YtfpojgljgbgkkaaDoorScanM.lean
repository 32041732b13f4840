/-
  Plain mathematics: the record at the beginning of bytes; records one behind the other.
-/
import Derived.Test.YtfpojgljgbgkkaaDoorSame
import Derived.Test.YtfpojgljgbgkkaaDoorRec4
namespace Go.Proofs.YtfpojgljgbgkkaaDoor

/-- The record that a content says. -/
def readC (n : UInt8) : List UInt8 → Option (Int × Int × Nat)
  | k :: c => if kindB (k.toNat : Int) = true ∧ goodTx c = true then some ((k.toNat : Int), rt c, n.toNat + 6) else none
  | [] => none
/-- The record at the beginning of bytes, and how many bytes it has. -/
def readR : List UInt8 → Option (Int × Int × Nat)
  | m :: n :: r => if m = 45 ∧ n.toNat + 4 ≤ r.length ∧ sumL (45 :: n :: r.take n.toNat) = (r.drop n.toNat).take 4 then readC n (r.take n.toNat) else none
  | _ => none
theorem readR_two (m n : UInt8) (r : List UInt8) : readR (m :: n :: r) = if m = 45 ∧ n.toNat + 4 ≤ r.length ∧ sumL (45 :: n :: r.take n.toNat) = (r.drop n.toNat).take 4 then readC n (r.take n.toNat) else none := rfl

/-- How a record's bytes lie. -/
theorem readR_parts (n : UInt8) (r : List UInt8) (h : n.toNat + 4 ≤ r.length) :
    ∃ c s t, r = c ++ s ++ t ∧ c.length = n.toNat ∧ s.length = 4 ∧ r.take n.toNat = c ∧ (r.drop n.toNat).take 4 = s :=
  ⟨r.take n.toNat, (r.drop n.toNat).take 4, (r.drop n.toNat).drop 4, by rw [List.append_assoc, List.take_append_drop, List.take_append_drop], by simp; omega, by simp; omega, rfl, rfl⟩

theorem readR_good (n k : UInt8) (c s t : List UInt8) (hc : (k :: c).length = n.toNat) (hs : s.length = 4) :
    readR (45 :: n :: (k :: c ++ s ++ t)) = if sumL (45 :: n :: k :: c) = s ∧ kindB (k.toNat : Int) = true ∧ goodTx c = true then some ((k.toNat : Int), rt c, n.toNat + 6) else none := by
  have e1 : (k :: c ++ s ++ t).take n.toNat = k :: c := by rw [← hc, List.append_assoc, List.take_left]
  have e2 : ((k :: c ++ s ++ t).drop n.toNat).take 4 = s := by rw [← hc, List.append_assoc, List.drop_left, ← hs, List.take_left]
  have e3 : n.toNat + 4 ≤ (k :: c ++ s ++ t).length := by rw [← hc, ← hs]; simp; omega
  rw [readR_two, e1, e2]
  simp only [e3, true_and]
  by_cases h : sumL (45 :: n :: k :: c) = s
  · simp [h, readC]
  · simp [h]

theorem readR_size {b : List UInt8} {k x : Int} {z : Nat} (h : readR b = some (k, x, z)) : 8 ≤ z ∧ z ≤ b.length ∧ z ≤ 300 := by
  rcases b with _ | ⟨m, _ | ⟨n, r⟩⟩
  · simp [readR] at h
  · simp [readR] at h
  · rw [readR_two] at h
    by_cases hh : m = 45 ∧ n.toNat + 4 ≤ r.length ∧ sumL (45 :: n :: r.take n.toNat) = (r.drop n.toNat).take 4
    · rw [if_pos hh] at h
      obtain ⟨_, h2, _⟩ := hh
      rcases heq : r.take n.toNat with _ | ⟨k', c⟩
      · simp [heq, readC] at h
      · rw [heq, readC] at h
        by_cases hg : kindB (k'.toNat : Int) = true ∧ goodTx c = true
        · rw [if_pos hg] at h
          simp only [Option.some.injEq, Prod.mk.injEq] at h
          have hl := congrArg List.length heq
          have hc : 1 ≤ c.length := by
            rcases c with _ | ⟨p, c⟩
            · have := hg.2; revert this; decide
            · simp
          have hn := n.toNat_lt
          simp at hl
          refine ⟨by omega, by simp only [List.length_cons]; omega, by omega⟩
        · rw [if_neg hg] at h; cases h
    · rw [if_neg hh] at h; cases h

/-- What stands behind m records: the records, and how many bytes they have. -/
def stepsN (b : List UInt8) : Nat → Option (List (Int × Int) × Nat)
  | 0 => some ([], 0)
  | m + 1 => match stepsN b m with
    | some (l, a) => match readR (b.drop a) with
      | some (k, x, z) => some (l ++ [(k, x)], a + z)
      | none => none
    | none => none
theorem stepsN_succ {b : List UInt8} {m a z : Nat} {l : List (Int × Int)} {k x : Int} (h : stepsN b m = some (l, a)) (hr : readR (b.drop a) = some (k, x, z)) : stepsN b (m + 1) = some (l ++ [(k, x)], a + z) := by
  simp [stepsN, h, hr]
theorem stepsN_end {b : List UInt8} {m a : Nat} {l : List (Int × Int)} (h : stepsN b m = some (l, a)) (hr : readR (b.drop a) = none) : stepsN b (m + 1) = none := by
  simp [stepsN, h, hr]
theorem stepsN_le {b : List UInt8} {m j : Nat} (h : stepsN b m = none) : stepsN b (m + j) = none := by
  induction j with
  | zero => exact h
  | succ j ih => rw [← Nat.add_assoc]; simp [stepsN, ih]
theorem stepsN_len {b : List UInt8} {m a : Nat} {l : List (Int × Int)} (h : stepsN b m = some (l, a)) : l.length = m ∧ 8 * m ≤ a ∧ a ≤ b.length := by
  induction m generalizing l a with
  | zero => simp [stepsN] at h; obtain ⟨rfl, rfl⟩ := h; simp
  | succ m ih =>
    simp only [stepsN] at h
    split at h
    · rename_i l' a' h'
      split at h
      · rename_i k x z hr
        simp only [Option.some.injEq, Prod.mk.injEq] at h
        obtain ⟨rfl, rfl⟩ := h
        have := ih h'
        have hz := readR_size hr
        simp at hz ⊢
        omega
      · cases h
    · cases h
/-- All records that stand one behind the other. -/
def Ends (b : List UInt8) (l : List (Int × Int)) (a : Nat) : Prop := ∃ m, stepsN b m = some (l, a) ∧ readR (b.drop a) = none
theorem Ends.same {b : List UInt8} {l l' : List (Int × Int)} {a a' : Nat} (h : Ends b l a) (h' : Ends b l' a') : l' = l ∧ a' = a := by
  obtain ⟨m, h1, h2⟩ := h
  obtain ⟨m', h1', h2'⟩ := h'
  have e : m = m' := by
    rcases Nat.lt_trichotomy m m' with hl | rfl | hl
    · have := stepsN_le (j := m' - (m + 1)) (stepsN_end h1 h2)
      rw [show m + 1 + (m' - (m + 1)) = m' from by omega, h1'] at this
      cases this
    · rfl
    · have := stepsN_le (j := m - (m' + 1)) (stepsN_end h1' h2')
      rw [show m' + 1 + (m - (m' + 1)) = m from by omega, h1] at this
      cases this
  subst e
  rw [h1] at h1'
  simp only [Option.some.injEq, Prod.mk.injEq] at h1'
  exact ⟨h1'.1.symm, h1'.2.symm⟩

/-- Records as cells. -/
def flatR (l : List (Int × Int)) : List Value := l.flatMap fun p => [.int .i64 p.1, .int .i64 p.2]
theorem flatR_snoc (l : List (Int × Int)) (k x : Int) : flatR (l ++ [(k, x)]) = flatR l ++ [.int .i64 k, .int .i64 x] := by simp [flatR]
theorem flatR_len (l : List (Int × Int)) : (flatR l).length = l.length * 2 := by
  induction l with
  | nil => rfl
  | cons p l ih => simp only [flatR, List.flatMap_cons, List.length_append, List.length_cons, List.length_nil] at ih ⊢; omega
theorem flatR_get0 (l : List (Int × Int)) (i : Nat) (h : i < l.length) : (flatR l)[i * 2]? = some (.int .i64 (l[i]).1) := by
  induction l generalizing i with
  | nil => simp at h
  | cons p l ih =>
    cases i with
    | zero => simp [flatR]
    | succ i =>
      have := ih i (by simpa using h)
      rw [show (i + 1) * 2 = i * 2 + 2 from by omega]
      simp only [flatR, List.flatMap_cons] at this ⊢
      simpa using this
theorem flatR_get1 (l : List (Int × Int)) (i : Nat) (h : i < l.length) : (flatR l)[i * 2 + 1]? = some (.int .i64 (l[i]).2) := by
  induction l generalizing i with
  | nil => simp at h
  | cons p l ih =>
    cases i with
    | zero => simp [flatR]
    | succ i =>
      have := ih i (by simpa using h)
      rw [show (i + 1) * 2 + 1 = i * 2 + 1 + 2 from by omega]
      simp only [flatR, List.flatMap_cons] at this ⊢
      simpa using this
end Go.Proofs.YtfpojgljgbgkkaaDoor
