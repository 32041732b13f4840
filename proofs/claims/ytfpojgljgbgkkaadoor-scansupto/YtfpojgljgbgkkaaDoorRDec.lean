/-
  The document's Decode.
-/
import Derived.Test.YtfpojgljgbgkkaaDoorDec3
import Derived.Test.YtfpojgljgbgkkaaDoorEnc
import Derived.Test.YtfpojgljgbgkkaaDoorEnc2
namespace Go.Proofs.YtfpojgljgbgkkaaDoor
open Go.RowKit

attribute [local go_sem] bs_append bs_size nums_len sumL_len List.length_append List.length_cons List.length_nil bs_get0 bs_get1 bs_get2
attribute [local go_sem ↓] Go.wp_at_zero Go.wp_at_succ

/-- What a refusal leaves: no message, an error's number, new memory alone. -/
def Refused (w w' : World) (e : Ending) (n : Int) : Prop := e = .returned (.tuple #[.agg #[.int .i64 0, .int .i64 0, .int .i64 0, .int .i64 0], .int .i64 n]) ∧ Below w.heap.size w w'

set_option maxRecDepth 100000 in
set_option maxHeartbeats 2000000 in
theorem rdec_empty (w : World) : Calls Tryd.prog 9 #[.string (bs [])] w fun e w' => Refused w w' e 4 := by
  have q : (bs []).toList.isEmpty = true := by rw [bs_toList]; rfl
  go_enter Tryd.func9, Tryd.ntmps9
  go_wp2
  exact bodyPost_ret (v := .tuple #[.agg #[.int .i64 0, .int .i64 0, .int .i64 0, .int .i64 0], .int .i64 4]) (by simp [results, Tryd.results9, go_sem]) rfl ⟨rfl, (Below.refl _ _).alloc (Nat.le_refl _) _⟩
set_option maxRecDepth 100000 in
set_option maxHeartbeats 2000000 in
theorem rdec_magic (c : UInt8) (r : List UInt8) (w : World) (hc : ((c.toNat : Int) != 44) = true) : Calls Tryd.prog 9 #[.string (bs (c :: r))] w fun e w' => Refused w w' e 5 := by
  have q : (bs (c :: r)).toList.isEmpty = false := by rw [bs_toList]; rfl
  have q0 : (0 : Int) < (r.length : Int) + 1 := by omega
  go_enter Tryd.func9, Tryd.ntmps9
  go_wp2
  exact bodyPost_ret (v := .tuple #[.agg #[.int .i64 0, .int .i64 0, .int .i64 0, .int .i64 0], .int .i64 5]) (by simp [results, Tryd.results9, go_sem]) rfl ⟨rfl, (Below.refl _ _).alloc (Nat.le_refl _) _⟩
set_option maxRecDepth 100000 in
set_option maxHeartbeats 2000000 in
theorem rdec_one (w : World) : Calls Tryd.prog 9 #[.string (bs [44])] w fun e w' => Refused w w' e 4 := by
  have q : (bs [44]).toList.isEmpty = false := by rw [bs_toList]; rfl
  go_enter Tryd.func9, Tryd.ntmps9
  go_wp2
  exact bodyPost_ret (v := .tuple #[.agg #[.int .i64 0, .int .i64 0, .int .i64 0, .int .i64 0], .int .i64 4]) (by simp [results, Tryd.results9, go_sem]) rfl ⟨rfl, (Below.refl _ _).alloc (Nat.le_refl _) _⟩
set_option maxRecDepth 100000 in
set_option maxHeartbeats 2000000 in
theorem rdec_short (n : UInt8) (r : List UInt8) (w : World) (hr : r.length < n.toNat + 4) : Calls Tryd.prog 9 #[.string (bs (44 :: n :: r))] w fun e w' => Refused w w' e 4 := by
  have q : (bs (44 :: n :: r)).toList.isEmpty = false := by rw [bs_toList]; rfl
  have hn := n.toNat_lt
  have q0 : (0 : Int) < (r.length : Int) + 1 + 1 := by omega
  have q1 : (1 : Int) < (r.length : Int) + 1 + 1 := by omega
  have q2 : ¬ ((r.length : Int) + 1 + 1 < 2) := by omega
  have q3 : (r.length : Int) + 1 + 1 < 6 + (n.toNat : Int) := by omega
  go_enter Tryd.func9, Tryd.ntmps9
  go_wp2
  exact bodyPost_ret (v := .tuple #[.agg #[.int .i64 0, .int .i64 0, .int .i64 0, .int .i64 0], .int .i64 4]) (by simp [results, Tryd.results9, go_sem]) rfl ⟨rfl, (Below.refl _ _).alloc (Nat.le_refl _) _⟩
set_option maxRecDepth 100000 in
set_option maxHeartbeats 2000000 in
theorem rdec_more (n : UInt8) (r : List UInt8) (w : World) (hr : n.toNat + 4 < r.length) : Calls Tryd.prog 9 #[.string (bs (44 :: n :: r))] w fun e w' => Refused w w' e 8 := by
  have q : (bs (44 :: n :: r)).toList.isEmpty = false := by rw [bs_toList]; rfl
  have hn := n.toNat_lt
  have q0 : (0 : Int) < (r.length : Int) + 1 + 1 := by omega
  have q1 : (1 : Int) < (r.length : Int) + 1 + 1 := by omega
  have q2 : ¬ ((r.length : Int) + 1 + 1 < 2) := by omega
  have q3 : ¬ ((r.length : Int) + 1 + 1 < 6 + (n.toNat : Int)) := by omega
  have q4 : 6 + (n.toNat : Int) < (r.length : Int) + 1 + 1 := by omega
  go_enter Tryd.func9, Tryd.ntmps9
  go_wp2
  exact bodyPost_ret (v := .tuple #[.agg #[.int .i64 0, .int .i64 0, .int .i64 0, .int .i64 0], .int .i64 8]) (by simp [results, Tryd.results9, go_sem]) rfl ⟨rfl, (Below.refl _ _).alloc (Nat.le_refl _) _⟩

theorem get_len (L : List UInt8) (n c : UInt8) (r : List UInt8) (h : c :: n :: r = L) (i : 1 < (bs L).size) : (bs L)[1]'i = n := by subst h; rfl

set_option maxRecDepth 100000 in
set_option maxHeartbeats 2000000 in
theorem rdec_sum (n : UInt8) (c s : List UInt8) (w : World) (hc : c.length = n.toNat) (hs : s.length = 4) (hne : sumL (44 :: n :: c) ≠ s) :
    Calls Tryd.prog 9 #[.string (bs (44 :: n :: (c ++ s)))] w fun e w' => Refused w w' e 6 := by
  have q : (bs (44 :: n :: (c ++ s))).toList.isEmpty = false := by rw [bs_toList]; rfl
  have hn := n.toNat_lt
  have g0 : ∀ i, (bs (44 :: n :: (c ++ s)))[0]'i = 44 := fun i => rfl
  have g1 : ∀ i, (bs (44 :: n :: (c ++ s)))[1]'i = n := fun i => rfl
  have x1 : (bs (44 :: n :: (c ++ s))).extract 0 (44 :: n :: c).length = bs (44 :: n :: c) := by
    rw [bs_extract, show 44 :: n :: (c ++ s) = (44 :: n :: c) ++ s from rfl]; simp
  have x2 : (bs (44 :: n :: (c ++ s))).extract (44 :: n :: c).length (44 :: n :: (c ++ s)).length = bs s := by
    rw [bs_extract, show 44 :: n :: (c ++ s) = (44 :: n :: c) ++ s from rfl]; simp
  have x3 : (bs (44 :: n :: (c ++ s))).extract 2 (44 :: n :: c).length = bs c := by
    rw [bs_extract, show 44 :: n :: (c ++ s) = [44, n] ++ (c ++ s) from rfl]; simp
  have e4 : ((44 :: n :: (c ++ s)).length : Int) - 4 = ((44 :: n :: c).length : Int) := by simp; omega
  have e5 : IntKind.i64.wrap ((44 :: n :: c).length : Int) = ((44 :: n :: c).length : Int) := by rw [IntKind.wrap_i64]; simp; omega
  have q0 : (0 : Int) < ((44 :: n :: (c ++ s)).length : Int) := by simp; omega
  have q1 : (1 : Int) < ((44 :: n :: (c ++ s)).length : Int) := by simp; omega
  have q2 : ¬ (((44 :: n :: (c ++ s)).length : Int) < 2) := by simp; omega
  have q3 : ¬ (((44 :: n :: (c ++ s)).length : Int) < 6 + (n.toNat : Int)) := by simp; omega
  have q4 : ¬ (6 + (n.toNat : Int) < ((44 :: n :: (c ++ s)).length : Int)) := by simp; omega
  have q5 : ((44 :: n :: c).length : Int) ≤ ((44 :: n :: (c ++ s)).length : Int) := by simp; omega
  have q6 : (2 : Int) ≤ ((44 :: n :: c).length : Int) := by simp; omega
  have hle : (44 :: n :: c).length ≤ 300 := by simp; omega
  have hf : ((bs (sumL (44 :: n :: c))).toList == (bs s).toList) = false := by
    rw [beq_eq_false_iff_ne]
    intro e
    rw [bs_toList, bs_toList] at e
    exact hne e
  generalize 44 :: n :: c = h at *
  generalize 44 :: n :: (c ++ s) = L at *
  go_enter Tryd.func9, Tryd.ntmps9
  go_wp2
  go_region_with (go_at_call 23; refine (refSum_bs h _ (by unfold maxLen; omega)).mono ?_; rintro e w1 ⟨rfl, hb1⟩)
  obtain ⟨hc1, hf1⟩ := bcell hb1
  have c0 : ∀ o, w1.cell? ⟨w.heap.size, o, none⟩ = (w.alloc (.cells #[.int .i64 0, .int .i64 0, .int .i64 0, .int .i64 0] 23)).cell? ⟨w.heap.size, o, none⟩ := fun o => by
    rw [hc1 _ _ (by simp)]; simp
  have f0 : ∀ o, w1.frozen? ⟨w.heap.size, o, none⟩ = false := fun o => by
    rw [hf1 _ _ (by simp)]; simp
  have hz1 : w.heap.size < w1.heap.size := by have := hb1.size; simp at this; omega
  clear hc1 hf1
  go_wp2_with fail
  exact bodyPost_ret (v := .tuple #[.agg #[.int .i64 0, .int .i64 0, .int .i64 0, .int .i64 0], .int .i64 6]) (by simp [results, Tryd.results9, go_sem, c0]) rfl ⟨rfl, ((((((Below.refl _ _).alloc (Nat.le_refl _) _).drew.trans (hb1.mono (by simp))).setCell (by simp) _).setCell (by simp) _).setCell (by simp) _).setCell (by simp) _⟩
end Go.Proofs.YtfpojgljgbgkkaaDoor
