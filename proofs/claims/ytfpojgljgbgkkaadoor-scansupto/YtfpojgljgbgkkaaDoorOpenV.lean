/-
  wire.measure, wire.open, where the one variable that is read is known.
-/
import Derived.Test.YtfpojgljgbgkkaaDoorOpen
namespace Go.Proofs.YtfpojgljgbgkkaaDoor
open Go.RowKit

attribute [local go_sem] bs_append bs_size nums_len sumL_len List.length_append List.length_cons List.length_nil bs_get0 bs_get1 bs_get2

set_option maxHeartbeats 1000000 in
theorem measure_empty_v (m : Int) (a : Addr) (w : World) (v1 : w.cell? ⟨1, 0, none⟩ = some (.iface 118 (.pointer (some a)))) :
    Calls Tryd.prog 35 #[.string (bs []), .int .u8 m] w fun e w' => ErrRet w w' e (.int .i64 0) a := by
  go_enter Tryd.func35, Tryd.ntmps35
  go_wp2_with (first | (go_at_call 31; refine (at_err _ _ _ _).mono ?_; rintro e w2 ⟨b, rfl, hr, hb2⟩))
  go_ret2
  exact ⟨b, rfl, hr, hb2⟩
set_option maxHeartbeats 1000000 in
theorem measure_magic_v (m : Int) (c : UInt8) (r : List UInt8) (a : Addr) (w : World) (v2 : w.cell? ⟨2, 0, none⟩ = some (.iface 118 (.pointer (some a)))) (hc : ((c.toNat : Int) != m) = true) :
    Calls Tryd.prog 35 #[.string (bs (c :: r)), .int .u8 m] w fun e w' => ErrRet w w' e (.int .i64 0) a := by
  go_enter Tryd.func35, Tryd.ntmps35
  go_wp2_with (first | (go_at_call 31; refine (at_err _ _ _ _).mono ?_; rintro e w2 ⟨b, rfl, hr, hb2⟩))
  go_ret2
  exact ⟨b, rfl, hr, hb2⟩
set_option maxHeartbeats 1000000 in
theorem measure_one_v (m : Int) (c : UInt8) (a : Addr) (w : World) (v1 : w.cell? ⟨1, 0, none⟩ = some (.iface 118 (.pointer (some a)))) (hc : ((c.toNat : Int) != m) = false) :
    Calls Tryd.prog 35 #[.string (bs [c]), .int .u8 m] w fun e w' => ErrRet w w' e (.int .i64 0) a := by
  go_enter Tryd.func35, Tryd.ntmps35
  go_wp2_with (first | (go_at_call 31; refine (at_err _ _ _ _).mono ?_; rintro e w2 ⟨b, rfl, hr, hb2⟩))
  go_ret2
  exact ⟨b, rfl, hr, hb2⟩
set_option maxHeartbeats 1000000 in
theorem measure_short_v (m : Int) (c n : UInt8) (r : List UInt8) (a : Addr) (w : World) (v1 : w.cell? ⟨1, 0, none⟩ = some (.iface 118 (.pointer (some a)))) (hc : ((c.toNat : Int) != m) = false) (hr : r.length < n.toNat + 4) :
    Calls Tryd.prog 35 #[.string (bs (c :: n :: r)), .int .u8 m] w fun e w' => ErrRet w w' e (.int .i64 0) a := by
  have hn := n.toNat_lt
  have q0 : (0 : Int) < (r.length : Int) + 1 + 1 := by omega
  have q1 : (1 : Int) < (r.length : Int) + 1 + 1 := by omega
  go_enter Tryd.func35, Tryd.ntmps35
  go_wp2_with (first | (go_at_call 31; refine (at_err _ _ _ _).mono ?_; rintro e w2 ⟨b, rfl, hr, hb2⟩))
  go_ret2
  exact ⟨b, rfl, hr, hb2⟩
set_option maxRecDepth 100000 in
set_option maxHeartbeats 2000000 in
theorem open_bad_v (h s : List UInt8) (a : Addr) (w : World) (v4 : w.cell? ⟨4, 0, none⟩ = some (.iface 118 (.pointer (some a)))) (hs : s.length = 4) (hh : 2 ≤ h.length) (hl : h.length ≤ 300) (hne : sumL h ≠ s) :
    Calls Tryd.prog 36 #[.string (bs (h ++ s))] w fun e w' => ErrRet w w' e (.string (bs [])) a := by
  have q0 : (0 : Int) ≤ ((h ++ s).length : Int) - 4 := by simp; omega
  have e0 : ((h ++ s).length : Int) - 4 = (h.length : Int) := by simp [hs]
  have hle : (h.length : Int) ≤ ((h ++ s).length : Int) := by simp; omega
  have x1 : (bs (h ++ s)).extract 0 h.length = bs h := by rw [bs_extract]; simp
  have x2 : (bs (h ++ s)).extract h.length (h ++ s).length = bs s := by rw [bs_extract]; simp
  have x3 : (bs (h ++ s)).extract 2 h.length = bs (h.drop 2) := by rw [bs_extract, List.drop_append_of_le_length hh, List.take_append_of_le_length (by simp), List.take_of_length_le (by simp)]
  have q2 : (2 : Int) ≤ (h.length : Int) := by omega
  have hf : ((bs (sumL h)).toList == (bs s).toList) = false := by
    rw [beq_eq_false_iff_ne]
    intro e
    rw [bs_toList, bs_toList] at e
    exact hne e
  generalize h ++ s = L at *
  go_enter Tryd.func36, Tryd.ntmps36
  go_wp2
  go_region_with (go_at_call 44; refine (sumBytes_bs h _ (by unfold maxLen; omega)).mono ?_; rintro e w1 ⟨rfl, hb1⟩)
  have v4' : w1.cell? ⟨4, 0, none⟩ = some (.iface 118 (.pointer (some a))) := by rw [hb1.cell (p := ⟨4, 0, none⟩) (by simpa using cell_block v4)]; exact v4
  go_wp2_with (first | (go_at_call 31; refine (at_err _ _ _ _).mono ?_; rintro e w2 ⟨b, rfl, hr, hb2⟩))
  go_ret2
  exact ⟨b, rfl, hr, ((Below.refl _ w).drew.trans (hb1.mono (by simp))).trans (hb2.mono (by have := hb1.size; simpa using this))⟩
end Go.Proofs.YtfpojgljgbgkkaaDoor
