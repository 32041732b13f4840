/-
  wire.readTx, accordref.tx.
-/
import Derived.Test.YtfpojgljgbgkkaaDoorOpen
namespace Go.Proofs.YtfpojgljgbgkkaaDoor
open Go.RowKit

attribute [local go_sem] bs_append bs_size nums_len sumL_len List.length_append List.length_cons List.length_nil bs_get0 bs_get1 bs_get2

/-- The number that one byte or two say to the program. -/
def pt : List UInt8 → Int
  | [p] => (p.toNat : Int) % 128
  | [p, q] => (p.toNat : Int) % 128 + (q.toNat : Int) * 128
  | _ => 0
def goodTx (r : List UInt8) : Bool := rightTxB (pt r) && decide (txL (pt r) = r)
theorem str_eq (a b : List UInt8) : ((bs a).toList == (bs b).toList) = decide (a = b) := by
  rw [bs_toList, bs_toList]
  by_cases h : a = b <;> simp [h]

theorem readTx_none (w : World) : Calls Tryd.prog 47 #[.string (bs [])] w fun e w' => e = .returned (.tuple #[.int .i64 (pt []), .bool (goodTx [])]) ∧ Below w.heap.size w w' := by
  go_enter Tryd.func47, Tryd.ntmps47
  go_wp2
  go_ret2
  exact ⟨rfl, Below.refl _ _⟩
theorem readTx_many (p q s : UInt8) (r : List UInt8) (w : World) : Calls Tryd.prog 47 #[.string (bs (p :: q :: s :: r))] w fun e w' => e = .returned (.tuple #[.int .i64 (pt (p :: q :: s :: r)), .bool (goodTx (p :: q :: s :: r))]) ∧ Below w.heap.size w w' := by
  have q0 : ¬ ((r.length : Int) + 1 + 1 + 1 < 1) := by omega
  have q1 : (2 : Int) < (r.length : Int) + 1 + 1 + 1 := by omega
  go_enter Tryd.func47, Tryd.ntmps47
  go_wp2
  go_ret2
  exact ⟨rfl, Below.refl _ _⟩
theorem goodTx_no (r : List UInt8) (h : rightTxB (pt r) = false) : goodTx r = false := by simp [goodTx, h]
theorem goodTx_yes (r : List UInt8) (h : rightTxB (pt r) = true) : goodTx r = decide (txL (pt r) = r) := by simp [goodTx, h]
theorem rightTx_of {x : Int} (h : rightTxB x = true) : 1 ≤ x ∧ x ≤ 16383 := by simpa [rightTxB] using h

set_option maxRecDepth 100000 in
set_option maxHeartbeats 1000000 in
theorem readTx_one (p : UInt8) (w : World) : Calls Tryd.prog 47 #[.string (bs [p])] w fun e w' => e = .returned (.tuple #[.int .i64 (pt [p]), .bool (goodTx [p])]) ∧ Below w.heap.size w w' := by
  have hp := p.toNat_lt
  cases hr : rightTxB (pt [p])
  · have hg := goodTx_no [p] hr
    have HG : Hid (goodTx [p] = false) := hg
    clear hg
    simp only [pt] at hr
    go_enter Tryd.func47, Tryd.ntmps47
    go_wp2_with (first | (go_at_call 30; refine (rightTx_any _ _).mono ?_; rintro e w' ⟨rfl, rfl⟩))
    go_ret2
    exact ⟨by rw [HG.out]; rfl, Below.refl _ _⟩
  · have HG : Hid (goodTx [p] = decide (txL (pt [p]) = [p])) := goodTx_yes [p] hr
    obtain ⟨h1, h2⟩ := rightTx_of hr
    have HE := str_eq (txL (pt [p])) [p]
    simp only [pt] at hr h1 h2 HE
    go_enter Tryd.func47, Tryd.ntmps47
    go_wp2_with (first | (go_at_call 30; refine (rightTx_any _ _).mono ?_; rintro e w' ⟨rfl, rfl⟩) | (go_at_call 33; refine (writeTx_any _ _ h1 h2).mono ?_; rintro e w1 ⟨rfl, hb1⟩))
    go_ret2
    exact ⟨by rw [HG.out]; rfl, hb1⟩
set_option maxRecDepth 100000 in
set_option maxHeartbeats 1000000 in
theorem readTx_two (p q : UInt8) (w : World) : Calls Tryd.prog 47 #[.string (bs [p, q])] w fun e w' => e = .returned (.tuple #[.int .i64 (pt [p, q]), .bool (goodTx [p, q])]) ∧ Below w.heap.size w w' := by
  have hp := p.toNat_lt
  have hq := q.toNat_lt
  cases hr : rightTxB (pt [p, q])
  · have HG : Hid (goodTx [p, q] = false) := goodTx_no [p, q] hr
    simp only [pt] at hr
    go_enter Tryd.func47, Tryd.ntmps47
    go_wp2_with (first | (go_at_call 30; refine (rightTx_any _ _).mono ?_; rintro e w' ⟨rfl, rfl⟩))
    go_ret2
    exact ⟨by rw [HG.out]; rfl, Below.refl _ _⟩
  · have HG : Hid (goodTx [p, q] = decide (txL (pt [p, q]) = [p, q])) := goodTx_yes [p, q] hr
    obtain ⟨h1, h2⟩ := rightTx_of hr
    have HE := str_eq (txL (pt [p, q])) [p, q]
    simp only [pt] at hr h1 h2 HE
    go_enter Tryd.func47, Tryd.ntmps47
    go_wp2_with (first | (go_at_call 30; refine (rightTx_any _ _).mono ?_; rintro e w' ⟨rfl, rfl⟩) | (go_at_call 33; refine (writeTx_any _ _ h1 h2).mono ?_; rintro e w1 ⟨rfl, hb1⟩))
    go_ret2
    exact ⟨by rw [HG.out]; rfl, hb1⟩
theorem readTx_any (r : List UInt8) (w : World) : Calls Tryd.prog 47 #[.string (bs r)] w fun e w' => e = .returned (.tuple #[.int .i64 (pt r), .bool (goodTx r)]) ∧ Below w.heap.size w w' :=
  match r with
  | [] => readTx_none w
  | [p] => readTx_one p w
  | [p, q] => readTx_two p q w
  | p :: q :: s :: r => readTx_many p q s r w

/-- The number that one byte or two say to the document's answer. -/
def rt : List UInt8 → Int
  | [p] => (p.toNat : Int)
  | [p, q] => (p.toNat : Int) % 128 + 128 * (q.toNat : Int)
  | _ => 0
theorem refTx_any (r : List UInt8) (w : World) (hl : r.length ≤ 300) : Calls Tryd.prog 24 #[.string (bs r)] w fun e w' => e = .returned (.int .i64 (rt r)) ∧ ∃ n, w' = w.drewN n := by
  match r, hl with
  | [], _ =>
    go_enter Tryd.func24, Tryd.ntmps24
    go_wp2
    go_ret
    exact ⟨rfl, 0, rfl⟩
  | [p], _ =>
    have hp := p.toNat_lt
    go_enter Tryd.func24, Tryd.ntmps24
    go_wp2
    go_ret
    exact ⟨rfl, 0, rfl⟩
  | [p, q], _ =>
    have hp := p.toNat_lt
    have hq := q.toNat_lt
    go_enter Tryd.func24, Tryd.ntmps24
    go_wp2
    go_quiet (fail)
    go_wp2
    go_ret
    exact ⟨rfl, _, rfl⟩
  | p :: q :: s :: r, hl =>
    have q0 : (((r.length : Int) + 1 + 1 + 1) == 1) = false := by rw [beq_eq_false_iff_ne]; omega
    have q1 : (((r.length : Int) + 1 + 1 + 1) == 2) = false := by rw [beq_eq_false_iff_ne]; omega
    go_enter Tryd.func24, Tryd.ntmps24
    go_wp2
    go_ret
    exact ⟨rfl, 0, rfl⟩
end Go.Proofs.YtfpojgljgbgkkaaDoor
