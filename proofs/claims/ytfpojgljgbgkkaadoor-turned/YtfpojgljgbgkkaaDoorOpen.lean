/-
  wire.measure, wire.open.
-/
import Derived.Test.YtfpojgljgbgkkaaDoorIs
namespace Go.Proofs.YtfpojgljgbgkkaaDoor
open Go.RowKit

theorem bs_get (l : List UInt8) (i : Nat) (h : i < (bs l).size) : (bs l)[i]'h = l[i]'h := rfl
theorem bs_get0 (c : UInt8) (l : List UInt8) (h : 0 < (bs (c :: l)).size) : (bs (c :: l))[0]'h = c := rfl
theorem bs_get1 (c d : UInt8) (l : List UInt8) (h : 1 < (bs (c :: d :: l)).size) : (bs (c :: d :: l))[1]'h = d := rfl
theorem bs_get2 (c d e : UInt8) (l : List UInt8) (h : 2 < (bs (c :: d :: e :: l)).size) : (bs (c :: d :: e :: l))[2]'h = e := rfl
theorem bs_extract (l : List UInt8) (i j : Nat) : (bs l).extract i j = bs ((l.drop i).take (j - i)) := by
  have h := ByteArray.data_extract (a := bs l) (b := i) (e := j)
  apply ByteArray.ext
  rw [h]
  apply Array.ext'
  simp [bs, List.extract_eq_take_drop]
attribute [local go_sem] bs_append bs_size nums_len sumL_len List.length_append List.length_cons List.length_nil bs_get0 bs_get1 bs_get2

theorem bs_toList (l : List UInt8) : (bs l).toList = l := (Go.ByteArray.toList_eq (bs l)).trans rfl

/-- What measure answers in error, the i-th sentinel. -/
def ErrRet (w w' : World) (e : Ending) (pre : Value) (a : Addr) : Prop :=
  ∃ b, e = .returned (.tuple #[pre, .iface 91 (.pointer (some ⟨b, 0, none⟩))]) ∧ ErrAt w' b a ∧ Below w.heap.size w w'

set_option maxHeartbeats 1000000 in
theorem measure_empty (m : Int) {a : Nat → Addr} (w : World) (hS : Sent w a) :
    Calls Tryd.prog 35 #[.string (bs []), .int .u8 m] w fun e w' => ErrRet w w' e (.int .i64 0) (a 1) := by
  have v1 := hS.v1
  clear hS
  go_enter Tryd.func35, Tryd.ntmps35
  go_wp2_with (first | (go_at_call 31; refine (at_err _ _ _ _).mono ?_; rintro e w2 ⟨b, rfl, hr, hb2⟩))
  go_ret2
  exact ⟨b, rfl, hr, hb2⟩
set_option maxHeartbeats 1000000 in
theorem measure_magic (m : Int) (c : UInt8) (r : List UInt8) {a : Nat → Addr} (w : World) (hS : Sent w a) (hc : ((c.toNat : Int) != m) = true) :
    Calls Tryd.prog 35 #[.string (bs (c :: r)), .int .u8 m] w fun e w' => ErrRet w w' e (.int .i64 0) (a 2) := by
  have v2 := hS.v2
  clear hS
  go_enter Tryd.func35, Tryd.ntmps35
  go_wp2_with (first | (go_at_call 31; refine (at_err _ _ _ _).mono ?_; rintro e w2 ⟨b, rfl, hr, hb2⟩))
  go_ret2
  exact ⟨b, rfl, hr, hb2⟩
set_option maxHeartbeats 1000000 in
theorem measure_one (m : Int) (c : UInt8) {a : Nat → Addr} (w : World) (hS : Sent w a) (hc : ((c.toNat : Int) != m) = false) :
    Calls Tryd.prog 35 #[.string (bs [c]), .int .u8 m] w fun e w' => ErrRet w w' e (.int .i64 0) (a 1) := by
  have v1 := hS.v1
  clear hS
  go_enter Tryd.func35, Tryd.ntmps35
  go_wp2_with (first | (go_at_call 31; refine (at_err _ _ _ _).mono ?_; rintro e w2 ⟨b, rfl, hr, hb2⟩))
  go_ret2
  exact ⟨b, rfl, hr, hb2⟩
set_option maxHeartbeats 1000000 in
theorem measure_short (m : Int) (c n : UInt8) (r : List UInt8) {a : Nat → Addr} (w : World) (hS : Sent w a) (hc : ((c.toNat : Int) != m) = false) (hr : r.length < n.toNat + 4) :
    Calls Tryd.prog 35 #[.string (bs (c :: n :: r)), .int .u8 m] w fun e w' => ErrRet w w' e (.int .i64 0) (a 1) := by
  have v1 := hS.v1
  have hn := n.toNat_lt
  have q0 : (0 : Int) < (r.length : Int) + 1 + 1 := by omega
  have q1 : (1 : Int) < (r.length : Int) + 1 + 1 := by omega
  clear hS
  go_enter Tryd.func35, Tryd.ntmps35
  go_wp2_with (first | (go_at_call 31; refine (at_err _ _ _ _).mono ?_; rintro e w2 ⟨b, rfl, hr, hb2⟩))
  go_ret2
  exact ⟨b, rfl, hr, hb2⟩
set_option maxHeartbeats 1000000 in
theorem measure_whole (m : Int) (c n : UInt8) (r : List UInt8) (w : World) (hc : ((c.toNat : Int) != m) = false) (hr : n.toNat + 4 ≤ r.length) (hl : r.length ≤ maxLen - 2) :
    Calls Tryd.prog 35 #[.string (bs (c :: n :: r)), .int .u8 m] w fun e w' => e = .returned (.tuple #[.int .i64 (2 + (n.toNat : Int) + 4), .nilIface]) ∧ w = w' := by
  have hn := n.toNat_lt
  have q0 : (0 : Int) < (r.length : Int) + 1 + 1 := by omega
  have q1 : (1 : Int) < (r.length : Int) + 1 + 1 := by omega
  unfold maxLen at hl
  go_enter Tryd.func35, Tryd.ntmps35
  go_wp2_with fail
  go_ret2
  exact ⟨rfl, rfl⟩

theorem drop_len (h s : List UInt8) : (h ++ s).drop h.length = s := by simp
theorem take_len (h s : List UInt8) : (h ++ s).take h.length = h := by simp

set_option maxRecDepth 100000 in
set_option maxHeartbeats 2000000 in
theorem open_bad (h s : List UInt8) {a : Nat → Addr} (w : World) (hS : Sent w a) (hs : s.length = 4) (hh : 2 ≤ h.length) (hl : h.length ≤ 300) (hne : sumL h ≠ s) :
    Calls Tryd.prog 36 #[.string (bs (h ++ s))] w fun e w' => ErrRet w w' e (.string (bs [])) (a 4) := by
  have q0 : (0 : Int) ≤ ((h ++ s).length : Int) - 4 := by simp; omega
  have e0 : ((h ++ s).length : Int) - 4 = (h.length : Int) := by simp [hs]
  have hle : (h.length : Int) ≤ ((h ++ s).length : Int) := by simp; omega
  have x1 : (bs (h ++ s)).extract 0 h.length = bs h := by rw [bs_extract]; simp
  have x2 : (bs (h ++ s)).extract h.length (h ++ s).length = bs s := by rw [bs_extract]; simp
  have x3 : (bs (h ++ s)).extract 2 h.length = bs (h.drop 2) := by rw [bs_extract, List.drop_append_of_le_length hh, List.take_append_of_le_length (by simp), List.take_of_length_le (by simp)]
  have q2 : (2 : Int) ≤ (h.length : Int) := by omega
  have hf : ((bs (sumL h)).toList == (bs s).toList) = false := by
    rw [beq_eq_false_iff_ne]
    intro e
    rw [bs_toList, bs_toList] at e
    exact hne e
  generalize h ++ s = L at *
  go_enter Tryd.func36, Tryd.ntmps36
  go_wp2
  go_region_with (go_at_call 44; refine (sumBytes_bs h _ (by unfold maxLen; omega)).mono ?_; rintro e w1 ⟨rfl, hb1⟩)
  have v4 := (hS.later ((Below.refl _ w).drew.trans (hb1.mono (by simp)))).v4
  go_wp2_with (first | (go_at_call 31; refine (at_err _ _ _ _).mono ?_; rintro e w2 ⟨b, rfl, hr, hb2⟩))
  go_ret2
  exact ⟨b, rfl, hr, ((Below.refl _ w).drew.trans (hb1.mono (by simp))).trans (hb2.mono (by have := hb1.size; simpa using this))⟩
set_option maxRecDepth 100000 in
set_option maxHeartbeats 2000000 in
theorem open_good (h s : List UInt8) (w : World) (hs : s.length = 4) (hh : 2 ≤ h.length) (hl : h.length ≤ 300) (he : sumL h = s) :
    Calls Tryd.prog 36 #[.string (bs (h ++ s))] w fun e w' => e = .returned (.tuple #[.string (bs (h.drop 2)), .nilIface]) ∧ Below w.heap.size w w' := by
  have q0 : (0 : Int) ≤ ((h ++ s).length : Int) - 4 := by simp; omega
  have e0 : ((h ++ s).length : Int) - 4 = (h.length : Int) := by simp [hs]
  have hle : (h.length : Int) ≤ ((h ++ s).length : Int) := by simp; omega
  have x1 : (bs (h ++ s)).extract 0 h.length = bs h := by rw [bs_extract]; simp
  have x2 : (bs (h ++ s)).extract h.length (h ++ s).length = bs s := by rw [bs_extract]; simp
  have x3 : (bs (h ++ s)).extract 2 h.length = bs (h.drop 2) := by rw [bs_extract, List.drop_append_of_le_length hh, List.take_append_of_le_length (by simp), List.take_of_length_le (by simp)]
  have q2 : (2 : Int) ≤ (h.length : Int) := by omega
  have hf : ((bs (sumL h)).toList == (bs s).toList) = true := by rw [he]; simp
  clear he
  generalize h ++ s = L at *
  go_enter Tryd.func36, Tryd.ntmps36
  go_wp2
  go_region_with (go_at_call 44; refine (sumBytes_bs h _ (by unfold maxLen; omega)).mono ?_; rintro e w1 ⟨rfl, hb1⟩)
  go_wp2
  go_ret2
  exact ⟨rfl, (Below.refl _ w).drew.trans (hb1.mono (by simp))⟩
end Go.Proofs.YtfpojgljgbgkkaaDoor
