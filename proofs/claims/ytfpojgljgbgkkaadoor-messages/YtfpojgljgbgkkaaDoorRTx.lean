/-
  The document's Decode: a content that is too small; accordref.tx, with its world.
-/
import Derived.Test.YtfpojgljgbgkkaaDoorRDec
namespace Go.Proofs.YtfpojgljgbgkkaaDoor
open Go.RowKit

attribute [local go_sem] bs_append bs_size nums_len sumL_len List.length_append List.length_cons List.length_nil bs_get0 bs_get1 bs_get2
attribute [local go_sem ↓] Go.wp_at_zero Go.wp_at_succ

set_option maxRecDepth 100000 in
set_option maxHeartbeats 2000000 in
theorem rdec_small (n : UInt8) (c s : List UInt8) (w : World) (hc : c.length = n.toNat) (hs : s.length = 4) (he : sumL (44 :: n :: c) = s) (h4 : c.length < 4) :
    Calls Tryd.prog 9 #[.string (bs (44 :: n :: (c ++ s)))] w fun e w' => Refused w w' e 7 := by
  have q : (bs (44 :: n :: (c ++ s))).toList.isEmpty = false := by rw [bs_toList]; rfl
  have hn := n.toNat_lt
  have g0 : ∀ i, (bs (44 :: n :: (c ++ s)))[0]'i = 44 := fun i => rfl
  have g1 : ∀ i, (bs (44 :: n :: (c ++ s)))[1]'i = n := fun i => rfl
  have x1 : (bs (44 :: n :: (c ++ s))).extract 0 (44 :: n :: c).length = bs (44 :: n :: c) := by
    rw [bs_extract, show 44 :: n :: (c ++ s) = (44 :: n :: c) ++ s from rfl]; simp
  have x2 : (bs (44 :: n :: (c ++ s))).extract (44 :: n :: c).length (44 :: n :: (c ++ s)).length = bs s := by
    rw [bs_extract, show 44 :: n :: (c ++ s) = (44 :: n :: c) ++ s from rfl]; simp
  have x3 : (bs (44 :: n :: (c ++ s))).extract 2 (44 :: n :: c).length = bs c := by
    rw [bs_extract, show 44 :: n :: (c ++ s) = [44, n] ++ (c ++ s) from rfl]; simp
  have e4 : ((44 :: n :: (c ++ s)).length : Int) - 4 = ((44 :: n :: c).length : Int) := by simp; omega
  have e5 : IntKind.i64.wrap ((44 :: n :: c).length : Int) = ((44 :: n :: c).length : Int) := by rw [IntKind.wrap_i64]; simp; omega
  have q0 : (0 : Int) < ((44 :: n :: (c ++ s)).length : Int) := by simp; omega
  have q1 : (1 : Int) < ((44 :: n :: (c ++ s)).length : Int) := by simp; omega
  have q2 : ¬ (((44 :: n :: (c ++ s)).length : Int) < 2) := by simp; omega
  have q3 : ¬ (((44 :: n :: (c ++ s)).length : Int) < 6 + (n.toNat : Int)) := by simp; omega
  have q4 : ¬ (6 + (n.toNat : Int) < ((44 :: n :: (c ++ s)).length : Int)) := by simp; omega
  have q5 : ((44 :: n :: c).length : Int) ≤ ((44 :: n :: (c ++ s)).length : Int) := by simp; omega
  have q6 : (2 : Int) ≤ ((44 :: n :: c).length : Int) := by simp; omega
  have hle : (44 :: n :: c).length ≤ 300 := by simp; omega
  have hf : ((bs (sumL (44 :: n :: c))).toList == (bs s).toList) = true := by rw [he]; simp
  clear he
  generalize 44 :: n :: c = h at *
  generalize 44 :: n :: (c ++ s) = L at *
  have q7 : (c.length : Int) < 4 := by omega
  clear hc
  go_enter Tryd.func9, Tryd.ntmps9
  go_wp2
  go_region_with (go_at_call 23; refine (refSum_bs h _ (by unfold maxLen; omega)).mono ?_; rintro e w1 ⟨rfl, hb1⟩)
  obtain ⟨hc1, hf1⟩ := bcell hb1
  have c0 : ∀ o, w1.cell? ⟨w.heap.size, o, none⟩ = (w.alloc (.cells #[.int .i64 0, .int .i64 0, .int .i64 0, .int .i64 0] 23)).cell? ⟨w.heap.size, o, none⟩ := fun o => by
    rw [hc1 _ _ (by simp)]; simp
  have f0 : ∀ o, w1.frozen? ⟨w.heap.size, o, none⟩ = false := fun o => by
    rw [hf1 _ _ (by simp)]; simp
  have hz1 : w.heap.size < w1.heap.size := by have := hb1.size; simp at this; omega
  clear hc1 hf1
  go_wp2_with fail
  exact bodyPost_ret (v := .tuple #[.agg #[.int .i64 0, .int .i64 0, .int .i64 0, .int .i64 0], .int .i64 7]) (by simp [results, Tryd.results9, go_sem, c0]) rfl ⟨rfl, ((((((Below.refl _ _).alloc (Nat.le_refl _) _).drew.trans (hb1.mono (by simp))).setCell (by simp) _).setCell (by simp) _).setCell (by simp) _).setCell (by simp) _⟩

theorem refTx_same (r : List UInt8) (w : World) (h2 : r.length ≠ 2) : Calls Tryd.prog 24 #[.string (bs r)] w fun e w' => e = .returned (.int .i64 (rt r)) ∧ w = w' := by
  match r, h2 with
  | [], _ =>
    go_enter Tryd.func24, Tryd.ntmps24
    go_wp2
    go_ret
    exact ⟨rfl, rfl⟩
  | [p], _ =>
    have hp := p.toNat_lt
    go_enter Tryd.func24, Tryd.ntmps24
    go_wp2
    go_ret
    exact ⟨rfl, rfl⟩
  | [p, q], h => exact absurd rfl h
  | p :: q :: s :: r, hl =>
    have q0 : (((r.length : Int) + 1 + 1 + 1) == 1) = false := by rw [beq_eq_false_iff_ne]; omega
    have q1 : (((r.length : Int) + 1 + 1 + 1) == 2) = false := by rw [beq_eq_false_iff_ne]; omega
    go_enter Tryd.func24, Tryd.ntmps24
    go_wp2
    go_ret
    exact ⟨rfl, rfl⟩
theorem wrap64' (x : Int) (h0 : 0 ≤ x) (h1 : x < 100000) : IntKind.i64.wrap x = x := by rw [IntKind.wrap_i64]; omega
theorem refTx_two (p q : UInt8) (w : World) : Calls Tryd.prog 24 #[.string (bs [p, q])] w fun e w' => e = .returned (.int .i64 (rt [p, q])) ∧ w' = w.drew := by
  have hp := p.toNat_lt
  have hq := q.toNat_lt
  go_enter Tryd.func24, Tryd.ntmps24
  go_wp2
  go_region
  go_wp2
  go_ret
  exact ⟨rfl, rfl⟩
end Go.Proofs.YtfpojgljgbgkkaaDoor
