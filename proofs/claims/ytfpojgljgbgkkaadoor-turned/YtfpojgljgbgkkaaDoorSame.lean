/-
  Plain mathematics: what one byte or two say; what a message in bytes is.
-/
import Derived.Test.YtfpojgljgbgkkaaDoorDec3
namespace Go.Proofs.YtfpojgljgbgkkaaDoor

theorem ofNat_self (p : UInt8) : UInt8.ofNat p.toNat = p := by simp
theorem nums_self (p : UInt8) : UInt8.ofNat ((p.toNat : Int)).toNat = p := by simp
theorem nums3 (k f t : UInt8) : nums [(k.toNat : Int), (f.toNat : Int), (t.toNat : Int)] = [k, f, t] := by simp [nums]

theorem good_one (p : UInt8) : goodTx [p] = true → p.toNat < 128 := by
  intro h
  simp only [goodTx, Bool.and_eq_true, decide_eq_true_eq] at h
  have h2 := h.2
  have hp := p.toNat_lt
  have hlt : pt [p] < 128 := by simp only [pt]; omega
  rw [txL, if_pos hlt] at h2
  simp only [nums, List.map_cons, List.map_nil, List.cons.injEq, and_true] at h2
  have h3 := congrArg UInt8.toNat h2
  rw [UInt8.toNat_ofNat'] at h3
  simp only [pt] at h3
  omega
theorem goodTx_num (r : List UInt8) (h : goodTx r = true) : pt r = rt r ∧ rightTxB (rt r) = true ∧ txL (rt r) = r := by
  have key : pt r = rt r := by
    match r, h with
    | [], h => rfl
    | [p], h =>
      have := good_one p h
      simp only [pt, rt]; omega
    | [p, q], h => simp only [pt, rt]; omega
    | p :: q :: s :: r, h => rfl
  rw [← key]
  simp only [goodTx, Bool.and_eq_true, decide_eq_true_eq] at h
  exact ⟨rfl, h.1, h.2⟩
theorem goodTx_of (r : List UInt8) (h1 : rightTxB (rt r) = true) (h2 : txL (rt r) = r) : goodTx r = true := by
  have key : pt r = rt r := by
    rcases r with _ | ⟨p, _ | ⟨q, _ | ⟨s, r⟩⟩⟩
    · rfl
    · by_cases hp : p.toNat < 128
      · simp only [pt, rt]; omega
      · exfalso
        have hlt : ¬ rt [p] < 128 := by simp only [rt]; omega
        rw [txL, if_neg hlt] at h2
        have := congrArg List.length h2
        simp [nums] at this
    · simp only [pt, rt]; omega
    · rfl
  simp only [goodTx, key, h1, h2, decide_true, Bool.and_self]

theorem frame_len (m : Int) (l : List UInt8) : (frame m l).length = l.length + 6 := by simp [frame, nums, sumL]
theorem frame_head (l : List UInt8) : frame 44 l = 44 :: UInt8.ofNat l.length :: (l ++ sumL (44 :: UInt8.ofNat l.length :: l)) := by simp [frame, nums]
/-- A frame is what it is of one content alone. -/
theorem frame_iff (n : UInt8) (c s l : List UInt8) (hc : c.length = n.toNat) (hs : s.length = 4) (he : sumL (44 :: n :: c) = s) : frame 44 l = 44 :: n :: (c ++ s) ↔ l = c := by
  constructor
  · intro h
    have hl := congrArg List.length h
    rw [frame_len] at hl
    simp only [List.length_cons, List.length_append, hs] at hl
    rw [frame_head] at h
    injection h with _ h
    injection h with _ h
    exact (List.append_inj h (by omega)).1
  · rintro rfl
    rw [frame_head, hc, ofNat_self, he]
theorem msg_iff (n k f t : UInt8) (r s : List UInt8) (x : Int) (hc : (k :: f :: t :: r).length = n.toNat) (hs : s.length = 4) (he : sumL (44 :: n :: (k :: f :: t :: r)) = s) :
    msgL (k.toNat : Int) (f.toNat : Int) (t.toNat : Int) x = 44 :: n :: (k :: f :: t :: r ++ s) ↔ txL x = r := by
  rw [msgL, frame_iff n (k :: f :: t :: r) s _ hc hs he, nums3]
  constructor
  · intro h; simpa using h
  · rintro rfl; rfl
end Go.Proofs.YtfpojgljgbgkkaaDoor
