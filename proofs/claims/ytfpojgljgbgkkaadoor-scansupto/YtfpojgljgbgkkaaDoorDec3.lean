/-
  accord.Decode, over what the bytes say.
-/
import Derived.Test.YtfpojgljgbgkkaaDoorDec2
import Derived.Deep.DrawnRows
namespace Go.Proofs.YtfpojgljgbgkkaaDoor
open Go.RowKit

attribute [local go_sem] bs_append bs_size nums_len sumL_len List.length_append List.length_cons List.length_nil bs_get0 bs_get1 bs_get2
attribute [local go_sem ↓] Go.wp_at_zero Go.wp_at_succ

set_option maxRecDepth 100000 in
set_option maxHeartbeats 4000000 in
theorem decode_err (l : List UInt8) (i : Nat) (hi : i < 6) {a : Nat → Addr} (w : World) (hS : Sent w a)
    (hm : ∀ w1, Sent w1 a → Calls Tryd.prog 20 #[.string (bs l)] w1 fun e w' => ErrRet w1 w' e (.agg #[.int .i64 0, .int .i64 0, .int .i64 0, .int .i64 0]) (a i)) :
    Calls Tryd.prog 7 #[.string (bs l)] w fun e w' => e = .returned (.tuple #[.agg #[.int .i64 0, .int .i64 0, .int .i64 0, .int .i64 0], .int .i64 (errnoOf i)]) ∧ Below w.heap.size w w' := by
  have hS1 := hS.later ((Below.refl _ w).alloc (Nat.le_refl _) (.cells #[.int .i64 0, .int .i64 0, .int .i64 0, .int .i64 0] 23))
  have H := hm _ hS1
  have HM : Hid (Calls Tryd.prog 20 #[.string (bs l)] (w.alloc (.cells #[.int .i64 0, .int .i64 0, .int .i64 0, .int .i64 0] 23)) fun e w' => ErrRet (w.alloc (.cells #[.int .i64 0, .int .i64 0, .int .i64 0, .int .i64 0] 23)) w' e (.agg #[.int .i64 0, .int .i64 0, .int .i64 0, .int .i64 0]) (a i)) := H
  clear H hm hS
  go_enter Tryd.func7, Tryd.ntmps7
  go_wp2_with fail
  refine HM.out.mono ?_
  rintro e w2 ⟨b, rfl, hr, hb2⟩
  have hS2 := hS1.later hb2
  obtain ⟨hc2, hf2⟩ := bcell hb2
  have c0 : ∀ o, w2.cell? ⟨w.heap.size, o, none⟩ = (w.alloc (.cells #[.int .i64 0, .int .i64 0, .int .i64 0, .int .i64 0] 23)).cell? ⟨w.heap.size, o, none⟩ := fun o => by
    rw [hc2 _ _ (by simp)]
  have f0 : ∀ o, w2.frozen? ⟨w.heap.size, o, none⟩ = false := fun o => by
    rw [hf2 _ _ (by simp)]; simp
  have hz2 : w.heap.size < w2.heap.size := by have := hb2.size; simp at this; omega
  go_wp2_with fail
  have hbn := (((Below.refl _ w2).alloc (Nat.le_refl _) (.cells #[.int .i64 0, .int .i64 0, .int .i64 0, .int .i64 0] 23))).drew
  have K := errno_any (hS2.later hbn) i hi b (hr.later hbn)
  have HK : Hid (Calls Tryd.prog 19 #[.iface 91 (.pointer (some ⟨b, 0, none⟩))] (w2.alloc (.cells #[.int .i64 0, .int .i64 0, .int .i64 0, .int .i64 0] 23)).drew fun e w' => e = .returned (.int .i64 (errnoOf i)) ∧ (w2.alloc (.cells #[.int .i64 0, .int .i64 0, .int .i64 0, .int .i64 0] 23)).drew = w') := K
  clear K hbn hS1 hS2
  go_region_with (go_at_call 19; refine HK.out.mono ?_; rintro e w3 ⟨rfl, rfl⟩)
  all_goals go_wp2
  all_goals exact bodyPost_ret (v := .tuple #[.agg #[.int .i64 0, .int .i64 0, .int .i64 0, .int .i64 0], .int .i64 (errnoOf i)]) (by simp [results, Tryd.results7, go_sem, c0, hz2, World.cell?_alloc_lt]) rfl ⟨rfl, (((((((((Below.refl _ _).alloc (Nat.le_refl _) _).trans (hb2.mono (by simp))).setCell (by simp) _).setCell (by simp) _).setCell (by simp) _).setCell (by simp) _).alloc (by simp; omega) _).drew)⟩

set_option maxRecDepth 100000 in
set_option maxHeartbeats 4000000 in
theorem decode_ok (l : List UInt8) (k f t x : Int) {a : Nat → Addr} (w : World) (hS : Sent w a)
    (hm : ∀ w1, Sent w1 a → Calls Tryd.prog 20 #[.string (bs l)] w1 fun e w' => e = .returned (.tuple #[.agg #[.int .i64 k, .int .i64 f, .int .i64 t, .int .i64 x], .nilIface]) ∧ Below w1.heap.size w1 w') :
    Calls Tryd.prog 7 #[.string (bs l)] w fun e w' => e = .returned (.tuple #[.agg #[.int .i64 k, .int .i64 f, .int .i64 t, .int .i64 x], .int .i64 0]) ∧ Below w.heap.size w w' := by
  have hS1 := hS.later ((Below.refl _ w).alloc (Nat.le_refl _) (.cells #[.int .i64 0, .int .i64 0, .int .i64 0, .int .i64 0] 23))
  have H := hm _ hS1
  have HM : Hid (Calls Tryd.prog 20 #[.string (bs l)] (w.alloc (.cells #[.int .i64 0, .int .i64 0, .int .i64 0, .int .i64 0] 23)) fun e w' => e = .returned (.tuple #[.agg #[.int .i64 k, .int .i64 f, .int .i64 t, .int .i64 x], .nilIface]) ∧ Below (w.alloc (.cells #[.int .i64 0, .int .i64 0, .int .i64 0, .int .i64 0] 23)).heap.size (w.alloc (.cells #[.int .i64 0, .int .i64 0, .int .i64 0, .int .i64 0] 23)) w') := H
  clear H hm hS hS1
  go_enter Tryd.func7, Tryd.ntmps7
  go_wp2_with fail
  refine HM.out.mono ?_
  rintro e w2 ⟨rfl, hb2⟩
  obtain ⟨hc2, hf2⟩ := bcell hb2
  have c0 : ∀ o, w2.cell? ⟨w.heap.size, o, none⟩ = (w.alloc (.cells #[.int .i64 0, .int .i64 0, .int .i64 0, .int .i64 0] 23)).cell? ⟨w.heap.size, o, none⟩ := fun o => by
    rw [hc2 _ _ (by simp)]
  have f0 : ∀ o, w2.frozen? ⟨w.heap.size, o, none⟩ = false := fun o => by
    rw [hf2 _ _ (by simp)]; simp
  have hz2 : w.heap.size < w2.heap.size := by have := hb2.size; simp at this; omega
  go_wp2_with fail
  go_region_with (go_at_call 19; refine (errno_nil _).mono ?_; rintro e w3 ⟨rfl, rfl⟩)
  all_goals go_wp2
  all_goals exact bodyPost_ret (v := .tuple #[.agg #[.int .i64 k, .int .i64 f, .int .i64 t, .int .i64 x], .int .i64 (0)]) (by simp [results, Tryd.results7, go_sem, c0, hz2, World.cell?_alloc_lt]) rfl ⟨rfl, (((((((((Below.refl _ _).alloc (Nat.le_refl _) _).trans (hb2.mono (by simp))).setCell (by simp) _).setCell (by simp) _).setCell (by simp) _).setCell (by simp) _).alloc (by simp; omega) _).drew)⟩
end Go.Proofs.YtfpojgljgbgkkaaDoor
