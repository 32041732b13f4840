/-
  wire.readRecordContent.
-/
import Derived.Test.YtfpojgljgbgkkaaDoorOpenV
import Derived.Test.YtfpojgljgbgkkaaDoorTx
import Derived.Test.YtfpojgljgbgkkaaDoorDec
namespace Go.Proofs.YtfpojgljgbgkkaaDoor
open Go.RowKit

attribute [local go_sem] bs_append bs_size nums_len sumL_len List.length_append List.length_cons List.length_nil bs_get0 bs_get1 bs_get2

theorem ErrAt.ne1 {w : World} {b n : Nat} {a : Addr} (h : ErrAt w b a) (hc : w.cell? ⟨n, 2, none⟩ = none) : n ≠ b := by
  rintro rfl
  unfold ErrAt at h
  rw [hc] at h
  cases h

set_option maxRecDepth 100000 in
set_option maxHeartbeats 2000000 in
theorem rec_empty (a : Addr) (w : World) (v5 : w.cell? ⟨6, 0, none⟩ = some (.iface 118 (.pointer (some a)))) :
    Calls Tryd.prog 48 #[.string (bs [])] w fun e w' => ErrRet w w' e (.agg #[.int .i64 0, .int .i64 0]) a := by
  have hg := cell_block v5
  simp at hg
  go_enter Tryd.func48, Tryd.ntmps48
  go_wp2_with fail
  refine (at_err _ _ _ _).mono ?_
  rintro e w2 ⟨b, rfl, hr, hb2⟩
  obtain ⟨hc2, hf2⟩ := bcell hb2
  have c0 : ∀ o, w2.cell? ⟨w.heap.size, o, none⟩ = (w.alloc (.cells #[.int .i64 0, .int .i64 0] 59)).cell? ⟨w.heap.size, o, none⟩ := fun o => hc2 _ _ (by simp)
  have f0 : ∀ o, w2.frozen? ⟨w.heap.size, o, none⟩ = false := fun o => by rw [hf2 _ _ (by simp)]; simp
  have hne := hr.ne1 (n := w.heap.size) (by rw [c0]; simp)
  clear hc2 hf2
  go_wp2_with fail
  exact bodyPost_ret (v := .tuple #[.agg #[.int .i64 0, .int .i64 0], .iface 91 (.pointer (some ⟨b, 0, none⟩))]) (by simp [results, Tryd.results48, go_sem, c0]) rfl ⟨b, rfl, (hr.setCell _ hne).setCell _ hne, ((((Below.refl _ _).alloc (Nat.le_refl _) _).trans (hb2.mono (by simp))).setCell (by simp) _).setCell (by simp) _⟩

def kindB (k : Int) : Bool := decide (1 ≤ k ∧ k ≤ 5)
set_option maxRecDepth 100000 in
set_option maxHeartbeats 2000000 in
theorem rec_kind (k : UInt8) (r : List UInt8) (a : Addr) (w : World) (v5 : w.cell? ⟨6, 0, none⟩ = some (.iface 118 (.pointer (some a)))) (hk : kindB (k.toNat : Int) = false) :
    Calls Tryd.prog 48 #[.string (bs (k :: r))] w fun e w' => ErrRet w w' e (.agg #[.int .i64 0, .int .i64 0]) a := by
  have hg := cell_block v5
  simp at hg
  have hb := k.toNat_lt
  have q0 : (0 : Int) < (r.length : Int) + 1 := by omega
  have q1 : ¬ ((r.length : Int) + 1 < 1) := by omega
  simp only [kindB, decide_eq_false_iff_not] at hk
  have fin : ∀ (w2 : World) (b : Nat), ErrAt w2 b a → Below (w.alloc (.cells #[.int .i64 0, .int .i64 0] 59)).heap.size (w.alloc (.cells #[.int .i64 0, .int .i64 0] 59)) w2 →
      (∀ o, w2.cell? ⟨w.heap.size, o, none⟩ = (w.alloc (.cells #[.int .i64 0, .int .i64 0] 59)).cell? ⟨w.heap.size, o, none⟩) ∧ (∀ o, w2.frozen? ⟨w.heap.size, o, none⟩ = false) ∧ w.heap.size ≠ b := by
    intro w2 b hr hb2
    obtain ⟨hc2, hf2⟩ := bcell hb2
    have c0 : ∀ o, w2.cell? ⟨w.heap.size, o, none⟩ = (w.alloc (.cells #[.int .i64 0, .int .i64 0] 59)).cell? ⟨w.heap.size, o, none⟩ := fun o => hc2 _ _ (by simp)
    exact ⟨c0, fun o => by rw [hf2 _ _ (by simp)]; simp, hr.ne1 (n := w.heap.size) (by rw [c0]; simp)⟩
  have FIN : Hid (∀ (w2 : World) (b : Nat), ErrAt w2 b a → Below (w.alloc (.cells #[.int .i64 0, .int .i64 0] 59)).heap.size (w.alloc (.cells #[.int .i64 0, .int .i64 0] 59)) w2 →
      (∀ o, w2.cell? ⟨w.heap.size, o, none⟩ = (w.alloc (.cells #[.int .i64 0, .int .i64 0] 59)).cell? ⟨w.heap.size, o, none⟩) ∧ (∀ o, w2.frozen? ⟨w.heap.size, o, none⟩ = false) ∧ w.heap.size ≠ b) := fin
  clear fin
  by_cases k1 : (k.toNat : Int) < 1
  · clear hk
    go_enter Tryd.func48, Tryd.ntmps48
    go_wp2_with fail
    refine (at_err _ _ _ _).mono ?_
    rintro e w2 ⟨b, rfl, hr, hb2⟩
    obtain ⟨c0, f0, hne⟩ := FIN.out w2 b hr hb2
    go_wp2_with fail
    exact bodyPost_ret (v := .tuple #[.agg #[.int .i64 0, .int .i64 0], .iface 91 (.pointer (some ⟨b, 0, none⟩))]) (by simp [results, Tryd.results48, go_sem, c0]) rfl ⟨b, rfl, (hr.setCell _ hne).setCell _ hne, ((((Below.refl _ _).alloc (Nat.le_refl _) _).trans (hb2.mono (by simp))).setCell (by simp) _).setCell (by simp) _⟩
  · have k5 : 5 < (k.toNat : Int) := by omega
    clear hk
    go_enter Tryd.func48, Tryd.ntmps48
    go_wp2_with fail
    refine (at_err _ _ _ _).mono ?_
    rintro e w2 ⟨b, rfl, hr, hb2⟩
    obtain ⟨c0, f0, hne⟩ := FIN.out w2 b hr hb2
    go_wp2_with fail
    exact bodyPost_ret (v := .tuple #[.agg #[.int .i64 0, .int .i64 0], .iface 91 (.pointer (some ⟨b, 0, none⟩))]) (by simp [results, Tryd.results48, go_sem, c0]) rfl ⟨b, rfl, (hr.setCell _ hne).setCell _ hne, ((((Below.refl _ _).alloc (Nat.le_refl _) _).trans (hb2.mono (by simp))).setCell (by simp) _).setCell (by simp) _⟩
end Go.Proofs.YtfpojgljgbgkkaaDoor
