/-
  A message is read as it was written.
-/
import Derived.Test.YtfpojgljgbgkkaaDoorSame
namespace Go.Proofs.YtfpojgljgbgkkaaDoor
open Go.RowKit

theorem byte_of (k : Int) (h0 : 0 ≤ k) (h1 : k < 256) : ((UInt8.ofNat k.toNat).toNat : Int) = k := by
  rw [UInt8.toNat_ofNat']; omega
theorem pt_txL (x : Int) (h0 : 1 ≤ x) (h1 : x ≤ 16383) : pt (txL x) = x := by
  unfold txL
  by_cases h : x < 128
  · rw [if_pos h]
    show ((UInt8.ofNat x.toNat).toNat : Int) % 128 = x
    rw [byte_of x (by omega) (by omega)]; omega
  · rw [if_neg h]
    show ((UInt8.ofNat (128 + x % 128).toNat).toNat : Int) % 128 + ((UInt8.ofNat (x / 128).toNat).toNat : Int) * 128 = x
    rw [byte_of (128 + x % 128) (by omega) (by omega), byte_of (x / 128) (by omega) (by omega)]; omega
theorem goodTx_txL (x : Int) (h : rightTxB x = true) : goodTx (txL x) = true := by
  obtain ⟨h0, h1⟩ := rightTx_of h
  simp only [goodTx, pt_txL x h0 h1, h, decide_true, Bool.and_self]

theorem msg_form (k f t x : Int) : msgL k f t x = 44 :: UInt8.ofNat (3 + (txL x).length) :: (UInt8.ofNat k.toNat :: UInt8.ofNat f.toNat :: UInt8.ofNat t.toNat :: txL x ++ sumL (44 :: UInt8.ofNat (3 + (txL x).length) :: UInt8.ofNat k.toNat :: UInt8.ofNat f.toNat :: UInt8.ofNat t.toNat :: txL x)) := by
  rw [msgL, frame_head]
  have e : (nums [k, f, t] ++ txL x).length = 3 + (txL x).length := by simp [nums]; omega
  rw [e]
  rfl

theorem decode_msg (k f t x : Int) (hE : endsB k f t = true) (hx : rightTxB x = true) (w : World) (a : Nat → Addr) (hS : Sent w a) :
    Calls Tryd.prog 7 #[.string (bs (msgL k f t x))] w fun e w' => e = .returned (.tuple #[.agg #[.int .i64 k, .int .i64 f, .int .i64 t, .int .i64 x], .int .i64 0]) ∧ Below w.heap.size w w' := by
  have h' := hE
  simp only [endsB, rightNodeB, Bool.and_eq_true, decide_eq_true_eq] at h'
  obtain ⟨⟨⟨hk1, hk2⟩, hf1, hf2⟩, ht1, ht2⟩ := h'
  obtain ⟨hx1, hx2⟩ := rightTx_of hx
  have hl := txL_len x
  have ek := byte_of k (by omega) (by omega)
  have ef := byte_of f (by omega) (by omega)
  have et := byte_of t (by omega) (by omega)
  have ep := pt_txL x hx1 hx2
  have eg := goodTx_txL x hx
  rw [msg_form]
  have H : ∀ w1, Sent w1 a → _ := fun w1 (hS1 : Sent w1 a) => read_good (UInt8.ofNat (3 + (txL x).length)) (UInt8.ofNat k.toNat) (UInt8.ofNat f.toNat) (UInt8.ofNat t.toNat) (txL x) (sumL (44 :: UInt8.ofNat (3 + (txL x).length) :: UInt8.ofNat k.toNat :: UInt8.ofNat f.toNat :: UInt8.ofNat t.toNat :: txL x)) w1 hS1
    (by rw [UInt8.toNat_ofNat']; simp; omega) rfl rfl (by simp only [goodC, ek, ef, et, hE, eg, Bool.and_self])
  simp only [ek, ef, et, ep] at H
  exact decode_ok _ k f t x w hS H
end Go.Proofs.YtfpojgljgbgkkaaDoor
