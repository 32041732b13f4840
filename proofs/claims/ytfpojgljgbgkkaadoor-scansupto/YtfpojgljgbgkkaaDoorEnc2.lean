/-
  accord.Encode; the document's Encode of a message that is not right.
-/
import Derived.Test.YtfpojgljgbgkkaaDoorIs
namespace Go.Proofs.YtfpojgljgbgkkaaDoor
open Go.RowKit

attribute [local go_sem] bs_append bs_size nums_len sumL_len List.length_append List.length_cons List.length_nil

set_option maxHeartbeats 1000000 in
theorem encode_yes (k f t x : Int) {a : Nat → Addr} (w : World) (hS : Sent w a) (h : endsB k f t = true) (hx : rightTxB x = true) :
    Calls Tryd.prog 6 #[.agg #[.int .i64 k, .int .i64 f, .int .i64 t, .int .i64 x]] w fun e w' => e = .returned (.tuple #[.string (bs (msgL k f t x)), .int .i64 0]) ∧ Below w.heap.size w w' := by
  have v0 := (hS.later ((Below.refl _ w).alloc (Nat.le_refl _) (.cells #[.int .i64 k, .int .i64 f, .int .i64 t, .int .i64 x] 23))).v0
  clear hS
  go_enter Tryd.func6, Tryd.ntmps6
  go_wp2_with fail
  refine (writeMessage_yes k f t x (a 0) _ v0 h hx).mono ?_
  rintro e w1 ⟨rfl, hb1⟩
  go_wp2_with (go_at_call 19; refine (errno_nil _).mono ?_; rintro e w' ⟨rfl, rfl⟩)
  go_ret2
  exact ⟨rfl, ((Below.refl _ _).alloc (Nat.le_refl _) _).trans (hb1.mono (by simp))⟩

set_option maxHeartbeats 1000000 in
theorem encode_no (k f t x : Int) {a : Nat → Addr} (w : World) (hS : Sent w a) (h : (endsB k f t && rightTxB x) = false) :
    Calls Tryd.prog 6 #[.agg #[.int .i64 k, .int .i64 f, .int .i64 t, .int .i64 x]] w fun e w' => e = .returned (.tuple #[.string (bs []), .int .i64 3]) ∧ Below w.heap.size w w' := by
  have hS1 := hS.later ((Below.refl _ w).alloc (Nat.le_refl _) (.cells #[.int .i64 k, .int .i64 f, .int .i64 t, .int .i64 x] 23))
  have v0 := hS1.v0
  go_enter Tryd.func6, Tryd.ntmps6
  go_wp2_with fail
  refine (writeMessage_no k f t x (a 0) _ v0 h).mono ?_
  rintro e w1 ⟨b, rfl, hr, hb1⟩
  have hS2 := hS1.later hb1
  go_wp2_with (go_at_call 19; refine (errno_any hS2 0 (by decide) b hr).mono ?_; rintro e w' ⟨rfl, rfl⟩)
  go_ret2
  exact ⟨rfl, ((Below.refl _ _).alloc (Nat.le_refl _) _).trans (hb1.mono (by simp))⟩

set_option maxHeartbeats 4000000 in
theorem refEncode_no (k f t x : Int) (w : World) (h : (endsB k f t && rightTxB x) = false) :
    Calls Tryd.prog 8 #[.agg #[.int .i64 k, .int .i64 f, .int .i64 t, .int .i64 x]] w fun e w' => e = .returned (.tuple #[.string (bs []), .int .i64 3]) ∧ Below w.heap.size w w' := by
  by_cases k1 : k < 1
  · clear h
    go_enter Tryd.func8, Tryd.ntmps8
    go_wp2
    go_ret2
    exact ⟨rfl, (Below.refl _ _).alloc (Nat.le_refl _) _⟩
  by_cases k7 : 7 < k
  · clear h
    go_enter Tryd.func8, Tryd.ntmps8
    go_wp2
    go_ret2
    exact ⟨rfl, (Below.refl _ _).alloc (Nat.le_refl _) _⟩
  by_cases f1 : f < 0
  · clear h
    go_enter Tryd.func8, Tryd.ntmps8
    go_wp2
    go_ret2
    exact ⟨rfl, (Below.refl _ _).alloc (Nat.le_refl _) _⟩
  by_cases f7 : 6 < f
  · clear h
    go_enter Tryd.func8, Tryd.ntmps8
    go_wp2
    go_ret2
    exact ⟨rfl, (Below.refl _ _).alloc (Nat.le_refl _) _⟩
  by_cases t1 : t < 0
  · clear h
    go_enter Tryd.func8, Tryd.ntmps8
    go_wp2
    go_ret2
    exact ⟨rfl, (Below.refl _ _).alloc (Nat.le_refl _) _⟩
  by_cases t7 : 6 < t
  · clear h
    go_enter Tryd.func8, Tryd.ntmps8
    go_wp2
    go_ret2
    exact ⟨rfl, (Below.refl _ _).alloc (Nat.le_refl _) _⟩
  by_cases x1 : x < 1
  · clear h
    go_enter Tryd.func8, Tryd.ntmps8
    go_wp2
    go_ret2
    exact ⟨rfl, (Below.refl _ _).alloc (Nat.le_refl _) _⟩
  by_cases x7 : 16383 < x
  · clear h
    go_enter Tryd.func8, Tryd.ntmps8
    go_wp2
    go_ret2
    exact ⟨rfl, (Below.refl _ _).alloc (Nat.le_refl _) _⟩
  exfalso
  have e1 : endsB k f t = true := by simp [endsB, rightNodeB]; omega
  have e2 : rightTxB x = true := by simp [rightTxB]; omega
  simp [e1, e2] at h
end Go.Proofs.YtfpojgljgbgkkaaDoor
