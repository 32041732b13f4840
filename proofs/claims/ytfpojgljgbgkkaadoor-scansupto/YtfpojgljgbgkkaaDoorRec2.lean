/-
  wire.readRecordContent where the kind is right.
-/
import Derived.Test.YtfpojgljgbgkkaaDoorRec
namespace Go.Proofs.YtfpojgljgbgkkaaDoor
open Go.RowKit

attribute [local go_sem] bs_append bs_size nums_len sumL_len List.length_append List.length_cons List.length_nil bs_get0 bs_get1 bs_get2

set_option maxRecDepth 100000 in
set_option maxHeartbeats 2000000 in
theorem rec_tx (k : UInt8) (r : List UInt8) (a : Addr) (w : World) (v5 : w.cell? ⟨6, 0, none⟩ = some (.iface 118 (.pointer (some a)))) (hk : kindB (k.toNat : Int) = true) (hT : goodTx r = false) (hl : r.length ≤ 300) :
    Calls Tryd.prog 48 #[.string (bs (k :: r))] w fun e w' => ErrRet w w' e (.agg #[.int .i64 0, .int .i64 0]) a := by
  have hg := cell_block v5
  simp at hg
  have hb := k.toNat_lt
  have q0 : (0 : Int) < (r.length : Int) + 1 := by omega
  have q1 : ¬ ((r.length : Int) + 1 < 1) := by omega
  have q2 : (1 : Int) ≤ (r.length : Int) + 1 := by omega
  have x1 : (bs (k :: r)).extract 1 (r.length + 1) = bs r := by rw [bs_extract]; simp
  simp only [kindB, decide_eq_true_eq] at hk
  obtain ⟨k1, k5⟩ := hk
  go_enter Tryd.func48, Tryd.ntmps48
  go_wp2_with fail
  refine (readTx_any r _).mono ?_
  rintro e w1 ⟨rfl, hb1⟩
  obtain ⟨hc1, hf1⟩ := bcell hb1
  have hz1 : w.heap.size < w1.heap.size := by have := hb1.size; simp at this; omega
  have v5b : w1.cell? ⟨6, 0, none⟩ = some (.iface 118 (.pointer (some a))) := by
    rw [hc1 _ _ (by simp; omega), World.cell?_alloc_lt _ _ _ hg]; exact v5
  go_wp2_with fail
  refine (at_err _ _ _ _).mono ?_
  rintro e w2 ⟨b, rfl, hr, hb2⟩
  obtain ⟨hc2, hf2⟩ := bcell hb2
  have c0 : ∀ o, w2.cell? ⟨w.heap.size, o, none⟩ = (w.alloc (.cells #[.int .i64 0, .int .i64 0] 59)).cell? ⟨w.heap.size, o, none⟩ := fun o => by
    rw [hc2 _ _ hz1, hc1 _ _ (by simp)]
  have f0 : ∀ o, w2.frozen? ⟨w.heap.size, o, none⟩ = false := fun o => by rw [hf2 _ _ hz1, hf1 _ _ (by simp)]; simp
  have hne := hr.ne1 (n := w.heap.size) (by rw [c0]; simp)
  clear hc2 hf2 hc1 hf1
  go_wp2_with fail
  exact bodyPost_ret (v := .tuple #[.agg #[.int .i64 0, .int .i64 0], .iface 91 (.pointer (some ⟨b, 0, none⟩))]) (by simp [results, Tryd.results48, go_sem, c0]) rfl ⟨b, rfl, (hr.setCell _ hne).setCell _ hne, (((((Below.refl _ _).alloc (Nat.le_refl _) _).trans (hb1.mono (by simp))).trans (hb2.mono (by omega))).setCell (by simp) _).setCell (by simp) _⟩

set_option maxRecDepth 100000 in
set_option maxHeartbeats 2000000 in
theorem rec_good (k : UInt8) (r : List UInt8) (w : World) (hk : kindB (k.toNat : Int) = true) (hT : goodTx r = true) (hl : r.length ≤ 300) :
    Calls Tryd.prog 48 #[.string (bs (k :: r))] w fun e w' => e = .returned (.tuple #[.agg #[.int .i64 k.toNat, .int .i64 (pt r)], .nilIface]) ∧ Below w.heap.size w w' := by
  have hb := k.toNat_lt
  have q0 : (0 : Int) < (r.length : Int) + 1 := by omega
  have q1 : ¬ ((r.length : Int) + 1 < 1) := by omega
  have q2 : (1 : Int) ≤ (r.length : Int) + 1 := by omega
  have x1 : (bs (k :: r)).extract 1 (r.length + 1) = bs r := by rw [bs_extract]; simp
  simp only [kindB, decide_eq_true_eq] at hk
  obtain ⟨k1, k5⟩ := hk
  go_enter Tryd.func48, Tryd.ntmps48
  go_wp2_with fail
  refine (readTx_any r _).mono ?_
  rintro e w1 ⟨rfl, hb1⟩
  obtain ⟨hc1, hf1⟩ := bcell hb1
  have hz1 : w.heap.size < w1.heap.size := by have := hb1.size; simp at this; omega
  have c0 : ∀ o, w1.cell? ⟨w.heap.size, o, none⟩ = (w.alloc (.cells #[.int .i64 0, .int .i64 0] 59)).cell? ⟨w.heap.size, o, none⟩ := fun o => by
    rw [hc1 _ _ (by simp)]
  have f0 : ∀ o, w1.frozen? ⟨w.heap.size, o, none⟩ = false := fun o => by rw [hf1 _ _ (by simp)]; simp
  clear hc1 hf1
  go_wp2_with fail
  exact bodyPost_ret (v := .tuple #[.agg #[.int .i64 k.toNat, .int .i64 (pt r)], .nilIface]) (by simp [results, Tryd.results48, go_sem, c0]) rfl ⟨rfl, ((((Below.refl _ _).alloc (Nat.le_refl _) _).trans (hb1.mono (by simp))).setCell (by simp) _).setCell (by simp) _⟩
end Go.Proofs.YtfpojgljgbgkkaaDoor
