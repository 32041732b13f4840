/-
  A message that is turned, cut, or has more behind it is not read.
-/
import Derived.Test.YtfpojgljgbgkkaaDoorBack
import Derived.Test.YtfpojgljgbgkkaaDoorBurst
namespace Go.Proofs.YtfpojgljgbgkkaaDoor
open Go.RowKit

/-- ReadMessage refuses these bytes, with the i-th sentinel. -/
def BadAs (i : Nat) (l : List UInt8) : Prop := ∀ (w : World) (a : Nat → Addr), Sent w a → Calls Tryd.prog 20 #[.string (bs l)] w fun e w' => ErrRet w w' e (.agg #[.int .i64 0, .int .i64 0, .int .i64 0, .int .i64 0]) (a i)

theorem bad_magic (c : UInt8) (r : List UInt8) (hc : c ≠ 44) : BadAs 2 (c :: r) := by
  have hne : ((c.toNat : Int) != 44) = true := by
    rw [bne_iff_ne]
    intro e
    apply hc
    have : c.toNat = 44 := by omega
    exact UInt8.toNat.inj this
  exact fun w1 _ hS => read_measure _ 2 w1 (fun w2 hb => measure_magic 44 c r w2 (hS.later hb) hne)
theorem bad_empty : BadAs 1 [] := fun w1 _ hS => read_measure [] 1 w1 (fun w2 hb => measure_empty 44 w2 (hS.later hb))
theorem bad_one : BadAs 1 [44] := fun w1 _ hS => read_measure [44] 1 w1 (fun w2 hb => measure_one 44 44 w2 (hS.later hb) (by decide))
theorem bad_short (n : UInt8) (r : List UInt8) (h : r.length < n.toNat + 4) : BadAs 1 (44 :: n :: r) := fun w1 _ hS => read_measure _ 1 w1 (fun w2 hb => measure_short 44 44 n r w2 (hS.later hb) (by decide) h)
theorem bad_more (n : UInt8) (r : List UInt8) (h : n.toNat + 4 < r.length) (hl : r.length ≤ maxLen - 2) : BadAs 3 (44 :: n :: r) := fun w1 _ hS => read_more n r w1 hS h hl
theorem bad_sum (n : UInt8) (c s : List UInt8) (hc : c.length = n.toNat) (hs : s.length = 4) (hne : sumL (44 :: n :: c) ≠ s) : BadAs 4 (44 :: n :: (c ++ s)) := fun w1 _ hS => read_sum n c s w1 hS hc hs hne

/-- A message in bytes, as it lies. -/
theorem msg_lies (k f t x : Int) : ∃ n c, msgL k f t x = (44 :: n :: c) ++ sumL (44 :: n :: c) ∧ c.length = n.toNat ∧ 4 ≤ c.length ∧ c.length ≤ 5 := by
  have hl := txL_len x
  refine ⟨UInt8.ofNat (3 + (txL x).length), UInt8.ofNat k.toNat :: UInt8.ofNat f.toNat :: UInt8.ofNat t.toNat :: txL x, msg_form k f t x, ?_, ?_, ?_⟩
  · rw [UInt8.toNat_ofNat']; simp; omega
  · simp; omega
  · simp; omega

theorem cut_bad (k f t x : Int) (i : Nat) (hi : i < (msgL k f t x).length) : BadAs 1 ((msgL k f t x).take i) := by
  obtain ⟨n, c, e, hc, h4, h5⟩ := msg_lies k f t x
  rw [e] at hi ⊢
  match i, hi with
  | 0, _ => exact bad_empty
  | 1, _ => exact bad_one
  | i + 2, hi =>
    have : ((44 :: n :: c) ++ sumL (44 :: n :: c)).take (i + 2) = 44 :: n :: (c ++ sumL (44 :: n :: c)).take i := rfl
    rw [this]
    apply bad_short
    simp [sumL_len] at hi ⊢
    omega
theorem more_bad (k f t x : Int) (m : List UInt8) (hm : m ≠ []) (hl : m.length ≤ maxLen - 100) : BadAs 3 (msgL k f t x ++ m) := by
  obtain ⟨n, c, e, hc, h4, h5⟩ := msg_lies k f t x
  have hp := List.length_pos_iff.2 hm
  rw [e]
  show BadAs 3 (44 :: n :: (c ++ sumL (44 :: n :: c) ++ m))
  apply bad_more
  · simp [sumL_len]; omega
  · unfold maxLen at hl ⊢; simp [sumL_len]; omega

theorem turned_bad (k f t x : Int) (p u v s : List UInt8) (hb : msgL k f t x = p ++ u ++ s) (huv : u.length = v.length) (h4 : u.length ≤ 4) (hne : u ≠ v)
    (hw : (msgL k f t x).length - 4 ≤ p.length ∨ p.length + u.length ≤ (msgL k f t x).length - 4) : ∃ i, i < 6 ∧ BadAs i (p ++ v ++ s) := by
  obtain ⟨n, c, e, hc, hc4, hc5⟩ := msg_lies k f t x
  rw [e] at hb hw
  have hlen : ((44 :: n :: c) ++ sumL (44 :: n :: c)).length - 4 = (44 :: n :: c).length := by simp [sumL_len]
  rw [hlen] at hw
  generalize hs : sumL (44 :: n :: c) = s4 at hb
  have hs4 : s4.length = 4 := by rw [← hs]; exact sumL_len _
  rcases hw with hw | hw
  · obtain ⟨p', rfl⟩ : ∃ p', p = (44 :: n :: c) ++ p' := by
      refine ⟨p.drop (44 :: n :: c).length, ?_⟩
      have h1 := congrArg (List.take (44 :: n :: c).length) hb
      rw [List.take_left', List.append_assoc, List.take_append_of_le_length hw] at h1
      · conv => lhs; rw [← List.take_append_drop (44 :: n :: c).length p]
        rw [← h1]
      · rfl
    have h2 : s4 = p' ++ u ++ s := by
      rw [List.append_assoc, List.append_assoc] at hb
      have := List.append_cancel_left hb
      rw [this, List.append_assoc]
    refine ⟨4, by decide, ?_⟩
    show BadAs 4 (44 :: n :: (c ++ p' ++ v ++ s))
    rw [List.append_assoc, List.append_assoc]
    apply bad_sum n c _ hc
    · rw [h2] at hs4; simp at hs4 ⊢; omega
    · rw [hs, h2]
      intro h
      rw [List.append_assoc] at h
      have := List.append_cancel_left h
      exact hne (List.append_cancel_right this)
  · obtain ⟨s1, e1, rfl⟩ : ∃ s1, 44 :: n :: c = p ++ u ++ s1 ∧ s = s1 ++ s4 := by
      refine ⟨s.take ((44 :: n :: c).length - (p ++ u).length), ?_, ?_⟩
      · have h1 := congrArg (List.take (44 :: n :: c).length) hb
        rw [List.take_left', List.take_append, List.take_of_length_le (by simpa using hw)] at h1
        · exact h1
        · rfl
      · have h1 := congrArg (List.drop (44 :: n :: c).length) hb
        rw [List.drop_left', List.drop_append, List.drop_of_length_le (by simpa using hw)] at h1
        · rw [List.nil_append] at h1
          conv => rhs; rw [h1]
          exact (List.take_append_drop _ _).symm
        · rfl
    have hl : (p ++ v ++ s1).length = c.length + 2 := by
      have := congrArg List.length e1
      simp at this ⊢
      omega
    rw [← List.append_assoc]
    have hsum : sumL (p ++ v ++ s1) ≠ s4 := by
      rw [← hs, e1]
      intro h
      exact hne (M.burst p u v s1 h4 huv (sumL_inj _ _ h.symm))
    generalize hH : p ++ v ++ s1 = H' at *
    rcases H' with _ | ⟨c0, _ | ⟨n', c'⟩⟩
    · simp at hl
    · simp at hl
    · have hcl : c'.length = c.length := by simpa using hl
      by_cases h0 : c0 = 44
      · subst h0
        rcases Nat.lt_trichotomy n.toNat n'.toNat with h | h | h
        · exact ⟨1, by decide, bad_short n' (c' ++ s4) (by simp [hs4]; omega)⟩
        · obtain rfl : n = n' := UInt8.toNat.inj h
          exact ⟨4, by decide, bad_sum n c' s4 (by omega) hs4 hsum⟩
        · exact ⟨3, by decide, bad_more n' (c' ++ s4) (by simp [hs4]; omega) (by simp [hs4, maxLen]; omega)⟩
      · exact ⟨2, by decide, bad_magic c0 _ h0⟩
end Go.Proofs.YtfpojgljgbgkkaaDoor
