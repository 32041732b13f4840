/-
  wire.readRecord.
-/
import Derived.Test.YtfpojgljgbgkkaaDoorRec2
namespace Go.Proofs.YtfpojgljgbgkkaaDoor
open Go.RowKit

attribute [local go_sem] bs_append bs_size nums_len sumL_len List.length_append List.length_cons List.length_nil bs_get0 bs_get1 bs_get2

/-- An error of readRecord. -/
def ErrRet3 (w w' : World) (e : Ending) : Prop :=
  ∃ b, e = .returned (.tuple #[.agg #[.int .i64 0, .int .i64 0], .int .i64 0, .iface 91 (.pointer (some ⟨b, 0, none⟩))]) ∧ Below w.heap.size w w'

set_option maxRecDepth 100000 in
set_option maxHeartbeats 2000000 in
theorem rr_measure (l : List UInt8) (w : World)
    (hm : ∀ w1, Below w.heap.size w w1 → Calls Tryd.prog 35 #[.string (bs l), .int .u8 45] w1 fun e w' => ∃ a, ErrRet w1 w' e (.int .i64 0) a) :
    Calls Tryd.prog 38 #[.string (bs l)] w fun e w' => ErrRet3 w w' e := by
  have HM : Hid (Calls Tryd.prog 35 #[.string (bs l), .int .u8 45] (w.alloc (.cells #[.int .i64 0, .int .i64 0] 59)) fun e w' => ∃ a, ErrRet (w.alloc (.cells #[.int .i64 0, .int .i64 0] 59)) w' e (.int .i64 0) a) := hm _ ((Below.refl _ _).alloc (Nat.le_refl _) _)
  clear hm
  go_enter Tryd.func38, Tryd.ntmps38
  go_wp2_with fail
  refine HM.out.mono ?_
  rintro e w2 ⟨a, b, rfl, hr, hb2⟩
  obtain ⟨hc2, hf2⟩ := bcell hb2
  have c0 : ∀ o, w2.cell? ⟨w.heap.size, o, none⟩ = (w.alloc (.cells #[.int .i64 0, .int .i64 0] 59)).cell? ⟨w.heap.size, o, none⟩ := fun o => hc2 _ _ (by simp)
  have f0 : ∀ o, w2.frozen? ⟨w.heap.size, o, none⟩ = false := fun o => by rw [hf2 _ _ (by simp)]; simp
  clear hc2 hf2
  go_wp2_with fail
  exact bodyPost_ret (v := .tuple #[.agg #[.int .i64 0, .int .i64 0], .int .i64 0, .iface 91 (.pointer (some ⟨b, 0, none⟩))]) (by simp [results, Tryd.results38, go_sem, c0]) rfl ⟨b, rfl, ((((Below.refl _ _).alloc (Nat.le_refl _) _).trans (hb2.mono (by simp))).setCell (by simp) _).setCell (by simp) _⟩

set_option maxRecDepth 100000 in
set_option maxHeartbeats 2000000 in
theorem rr_sum (n : UInt8) (c s t : List UInt8) (a : Addr) (w : World) (v4 : w.cell? ⟨4, 0, none⟩ = some (.iface 118 (.pointer (some a)))) (hc : c.length = n.toNat) (hs : s.length = 4) (hne : sumL (45 :: n :: c) ≠ s) (hl : t.length ≤ 9000000000000000000) :
    Calls Tryd.prog 38 #[.string (bs (45 :: n :: (c ++ s ++ t)))] w fun e w' => ErrRet3 w w' e := by
  have hn := n.toNat_lt
  have HM : Hid (Calls Tryd.prog 35 #[.string (bs (45 :: n :: (c ++ s ++ t))), .int .u8 45] (w.alloc (.cells #[.int .i64 0, .int .i64 0] 59)) fun e w' => e = .returned (.tuple #[.int .i64 (2 + (n.toNat : Int) + 4), .nilIface]) ∧ (w.alloc (.cells #[.int .i64 0, .int .i64 0] 59)) = w') := measure_whole 45 45 n (c ++ s ++ t) _ (by decide) (by simp; omega) (by simp [maxLen]; omega)
  have v4' : (w.alloc (.cells #[.int .i64 0, .int .i64 0] 59)).cell? ⟨4, 0, none⟩ = some (.iface 118 (.pointer (some a))) := by rw [World.cell?_alloc_lt _ _ _ (cell_block v4)]; exact v4
  have HK : Hid (Calls Tryd.prog 36 #[.string (bs (45 :: n :: (c ++ s)))] (w.alloc (.cells #[.int .i64 0, .int .i64 0] 59)) fun e w' => ErrRet (w.alloc (.cells #[.int .i64 0, .int .i64 0] 59)) w' e (.string (bs [])) a) := open_bad_v (45 :: n :: c) s a _ v4' hs (by simp) (by simp; omega) hne
  have x1 : (bs (45 :: n :: (c ++ s ++ t))).extract 0 (2 + n.toNat + 4) = bs (45 :: n :: (c ++ s)) := by
    rw [bs_extract, show 45 :: n :: (c ++ s ++ t) = (45 :: n :: (c ++ s)) ++ t from rfl, List.drop_zero, List.take_append_of_le_length (by simp; omega), List.take_of_length_le (by simp; omega)]
  have q1 : 2 + (n.toNat : Int) + 4 ≤ ((45 :: n :: (c ++ s ++ t)).length : Int) := by simp; omega
  have q0 : (0 : Int) ≤ 2 + (n.toNat : Int) + 4 := by omega
  have tn : (2 + (n.toNat : Int) + 4).toNat = 2 + n.toNat + 4 := by omega
  clear v4 v4' hne
  generalize 45 :: n :: (c ++ s ++ t) = L at *
  generalize 45 :: n :: (c ++ s) = F at *
  go_enter Tryd.func38, Tryd.ntmps38
  go_wp2_with fail
  refine HM.out.mono ?_
  rintro e w1 ⟨rfl, rfl⟩
  go_wp2_with fail
  refine HK.out.mono ?_
  rintro e w2 ⟨b, rfl, hr, hb2⟩
  obtain ⟨hc2, hf2⟩ := bcell hb2
  have c0 : ∀ o, w2.cell? ⟨w.heap.size, o, none⟩ = (w.alloc (.cells #[.int .i64 0, .int .i64 0] 59)).cell? ⟨w.heap.size, o, none⟩ := fun o => hc2 _ _ (by simp)
  have f0 : ∀ o, w2.frozen? ⟨w.heap.size, o, none⟩ = false := fun o => by rw [hf2 _ _ (by simp)]; simp
  clear hc2 hf2
  go_wp2_with fail
  exact bodyPost_ret (v := .tuple #[.agg #[.int .i64 0, .int .i64 0], .int .i64 0, .iface 91 (.pointer (some ⟨b, 0, none⟩))]) (by simp [results, Tryd.results38, go_sem, c0]) rfl ⟨b, rfl, ((((Below.refl _ _).alloc (Nat.le_refl _) _).trans (hb2.mono (by simp))).setCell (by simp) _).setCell (by simp) _⟩
end Go.Proofs.YtfpojgljgbgkkaaDoor
