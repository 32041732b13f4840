/-
  accordlaw.begun, accordlaw.pick.
-/
import Derived.Test.YtfpojgljgbgkkaaDoorRScan
import Derived.Test.YtfpojgljgbgkkaaDoorSameR
namespace Go.Proofs.YtfpojgljgbgkkaaDoor
open Go.RowKit

attribute [local go_sem] bs_append bs_size nums_len sumL_len List.length_append List.length_cons List.length_nil bs_get0 bs_get1 bs_get2

theorem begun_ends : Ends ([45, 2, 1, 1] ++ sumL [45, 2, 1, 1] ++ [45, 2]) [(1, 1)] 8 := by
  have e : ([45, 2, 1, 1] ++ sumL [45, 2, 1, 1] ++ [45, 2] : List UInt8) = 45 :: 2 :: ([1] ++ [1] ++ sumL [45, 2, 1, 1] ++ [45, 2]) := by simp
  have h1 : readR ([45, 2, 1, 1] ++ sumL [45, 2, 1, 1] ++ [45, 2]) = some (1, 1, 8) := by
    rw [e]
    have := readR_good 2 1 [1] (sumL [45, 2, 1, 1]) [45, 2] rfl rfl
    rw [if_pos ⟨rfl, by decide, by decide⟩] at this
    exact this
  refine ⟨1, stepsN_succ (m := 0) (l := []) (a := 0) rfl (by rw [List.drop_zero]; exact h1), ?_⟩
  exact readR_short _ (by simp [sumL_len])

theorem refSumUp (l : List UInt8) (w : World) (hs : l.length ≤ maxLen) :
    Calls Tryd.prog 25 #[.string (bs l)] w fun e w' => e = .returned (.string (bs (sumL l))) ∧ Below w.heap.size w w' := by
  go_enter Tryd.func25, Tryd.ntmps25
  go_wp2_with (go_at_call 23; refine (refSum_bs l _ hs).mono ?_; rintro e w' ⟨rfl, hb⟩)
  go_ret
  exact ⟨rfl, hb⟩

set_option maxRecDepth 100000 in
set_option maxHeartbeats 2000000 in
theorem begun_any (w : World) (hF : Five w) :
    Calls Tryd.prog 10 #[] w fun e w' => e = .returned (.bool true) ∧ Below w.heap.size w w' := by
  have hs : ({ data := #[45, 2, 1, 1] } : ByteArray) = bs [45, 2, 1, 1] := rfl
  have hs2 : ({ data := #[45, 2] } : ByteArray) = bs [45, 2] := rfl
  have HF : Hid (Five w) := hF
  have c59 := cellsRec
  clear hF
  go_enter Tryd.func10, Tryd.ntmps10
  go_wp2_with fail
  refine (refSumUp [45, 2, 1, 1] w (by simp [maxLen])).mono ?_
  rintro e w1 ⟨rfl, hb1⟩
  have hz1 := hb1.size
  go_wp2_with fail
  have hbe : ([45, 2, 1, 1] ++ sumL [45, 2, 1, 1] ++ [45, 2] : List UInt8) = 45 :: 2 :: 1 :: 1 :: (sumL [45, 2, 1, 1] ++ [45, 2]) := by simp
  refine (scan_any (45 :: 2 :: 1 :: 1 :: (sumL [45, 2, 1, 1] ++ [45, 2])) w1 (HF.out.later hb1) (by simp [sumL_len])).mono ?_
  rintro e w2 ⟨l, a, v, hE, hown, hb2, rfl⟩
  obtain ⟨rfl, rfl⟩ := (hbe ▸ begun_ends).same hE
  obtain ⟨g, cap, rfl, -, hlt⟩ := hown.form (by simp)
  have a0 : w2.cell? ⟨g, 0, none⟩ = some (.int .i64 1) := hown.cellAt 0 (by simp)
  have a1 : w2.cell? ⟨g, 1, none⟩ = some (.int .i64 1) := hown.cellAt 1 (by simp)
  have hbw : Below w.heap.size w w2 := hb1.trans (hb2.mono hz1)
  clear hE hown hbe hb1 hb2
  go_wp2_with fail
  go_ret
  exact ⟨rfl, hbw⟩

theorem lawPick_any (c n : Int) (w : World) (hc0 : -9223372036854775808 ≤ c) (hc1 : c ≤ 9223372036854775807) (hn : 0 < n) (hn1 : n ≤ 100000) :
    Calls Tryd.prog 12 #[.int .i64 c, .int .i64 n] w fun e w' => ∃ p : Nat, (p : Int) < n ∧ e = .returned (.int .i64 p) ∧ w = w' := by
  have q0 : (n == 0) = false := by rw [beq_eq_false_iff_ne]; omega
  by_cases h : c < 0
  · go_enter Tryd.func12, Tryd.ntmps12
    go_wp2
    go_ret
    refine ⟨((-(c + 1)) % n).toNat, ?_, ret_int ?_, rfl⟩
    · have := Int.emod_lt_of_pos (-(c + 1)) hn
      have := Int.emod_nonneg (-(c + 1)) (b := n) (by omega)
      omega
    · have := Int.emod_nonneg (-(c + 1)) (b := n) (by omega)
      rw [← Int.neg_tmod, Int.tmod_eq_emod_of_nonneg (by omega)]
      omega
  · go_enter Tryd.func12, Tryd.ntmps12
    go_wp2
    go_ret
    refine ⟨(c % n).toNat, ?_, ret_int ?_, rfl⟩
    · have := Int.emod_lt_of_pos c hn
      have := Int.emod_nonneg c (b := n) (by omega)
      omega
    · have := Int.emod_nonneg c (b := n) (by omega)
      omega
end Go.Proofs.YtfpojgljgbgkkaaDoor
