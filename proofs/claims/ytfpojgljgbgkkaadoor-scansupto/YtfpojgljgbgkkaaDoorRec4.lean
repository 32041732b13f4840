/-
  wire.readRecord where the sum is right.
-/
import Derived.Test.YtfpojgljgbgkkaaDoorRec3
namespace Go.Proofs.YtfpojgljgbgkkaaDoor
open Go.RowKit

attribute [local go_sem] bs_append bs_size nums_len sumL_len List.length_append List.length_cons List.length_nil bs_get0 bs_get1 bs_get2

set_option maxRecDepth 100000 in
set_option maxHeartbeats 2000000 in
theorem rr_form (n : UInt8) (c s t : List UInt8) (w : World) (hc : c.length = n.toNat) (hs : s.length = 4) (he : sumL (45 :: n :: c) = s) (hC : ∀ w1, Below w.heap.size w w1 → Calls Tryd.prog 48 #[.string (bs c)] w1 fun e w' => ∃ a, ErrRet w1 w' e (.agg #[.int .i64 0, .int .i64 0]) a) (hl : t.length ≤ 9000000000000000000) :
    Calls Tryd.prog 38 #[.string (bs (45 :: n :: (c ++ s ++ t)))] w fun e w' => ErrRet3 w w' e := by
  have hn := n.toNat_lt
  have HM : Hid (Calls Tryd.prog 35 #[.string (bs (45 :: n :: (c ++ s ++ t))), .int .u8 45] (w.alloc (.cells #[.int .i64 0, .int .i64 0] 59)) fun e w' => e = .returned (.tuple #[.int .i64 (2 + (n.toNat : Int) + 4), .nilIface]) ∧ (w.alloc (.cells #[.int .i64 0, .int .i64 0] 59)) = w') := measure_whole 45 45 n (c ++ s ++ t) _ (by decide) (by simp; omega) (by simp [maxLen]; omega)
  have HK : Hid (Calls Tryd.prog 36 #[.string (bs (45 :: n :: (c ++ s)))] (w.alloc (.cells #[.int .i64 0, .int .i64 0] 59)) fun e w' => e = .returned (.tuple #[.string (bs c), .nilIface]) ∧ Below (w.alloc (.cells #[.int .i64 0, .int .i64 0] 59)).heap.size (w.alloc (.cells #[.int .i64 0, .int .i64 0] 59)) w') := open_good (45 :: n :: c) s _ hs (by simp) (by simp; omega) he
  have x1 : (bs (45 :: n :: (c ++ s ++ t))).extract 0 (2 + n.toNat + 4) = bs (45 :: n :: (c ++ s)) := by
    rw [bs_extract, show 45 :: n :: (c ++ s ++ t) = (45 :: n :: (c ++ s)) ++ t from rfl, List.drop_zero, List.take_append_of_le_length (by simp; omega), List.take_of_length_le (by simp; omega)]
  have q1 : 2 + (n.toNat : Int) + 4 ≤ ((45 :: n :: (c ++ s ++ t)).length : Int) := by simp; omega
  have q0 : (0 : Int) ≤ 2 + (n.toNat : Int) + 4 := by omega
  have tn : (2 + (n.toNat : Int) + 4).toNat = 2 + n.toNat + 4 := by omega
  clear he
  have HC : Hid (∀ w1, Below w.heap.size w w1 → Calls Tryd.prog 48 #[.string (bs c)] w1 fun e w' => ∃ a, ErrRet w1 w' e (.agg #[.int .i64 0, .int .i64 0]) a) := hC
  clear hC
  generalize 45 :: n :: (c ++ s ++ t) = L at *
  generalize 45 :: n :: (c ++ s) = F at *
  go_enter Tryd.func38, Tryd.ntmps38
  go_wp2_with fail
  refine HM.out.mono ?_
  rintro e w1 ⟨rfl, rfl⟩
  go_wp2_with fail
  refine HK.out.mono ?_
  rintro e w2 ⟨rfl, hb2⟩
  obtain ⟨hc2, hf2⟩ := bcell hb2
  have hz2 : w.heap.size < w2.heap.size := by have := hb2.size; simp at this; omega
  go_wp2_with fail
  refine (HC.out w2 (((Below.refl _ _).alloc (Nat.le_refl _) _).trans (hb2.mono (by simp)))).mono ?_
  rintro e w3 ⟨a, b, rfl, hr, hb3⟩
  obtain ⟨hc3, hf3⟩ := bcell hb3
  have hz3 : w2.heap.size ≤ w3.heap.size := hb3.size
  have c0 : ∀ o, w3.cell? ⟨w.heap.size, o, none⟩ = (w.alloc (.cells #[.int .i64 0, .int .i64 0] 59)).cell? ⟨w.heap.size, o, none⟩ := fun o => by
    rw [hc3 _ _ hz2, hc2 _ _ (by simp)]
  have f0 : ∀ o, w3.frozen? ⟨w.heap.size, o, none⟩ = false := fun o => by rw [hf3 _ _ hz2, hf2 _ _ (by simp)]; simp
  have hz03 : w.heap.size < w3.heap.size := by omega
  clear hc2 hf2 hc3 hf3
  go_wp2_with fail
  exact bodyPost_ret (v := .tuple #[.agg #[.int .i64 0, .int .i64 0], .int .i64 0, .iface 91 (.pointer (some ⟨b, 0, none⟩))]) (by simp [results, Tryd.results38, go_sem, c0, hz03, World.cell?_alloc_lt]) rfl ⟨b, rfl, (((((((Below.refl _ _).alloc (Nat.le_refl _) _).trans (hb2.mono (by simp))).trans (hb3.mono (by omega))).setCell (by simp) _).setCell (by simp) _).alloc (by simp; omega) _)⟩

set_option maxRecDepth 100000 in
set_option maxHeartbeats 2000000 in
theorem rr_good (n : UInt8) (c s t : List UInt8) (w : World) (hc : c.length = n.toNat) (hs : s.length = 4) (he : sumL (45 :: n :: c) = s) (k x : Int) (hC : ∀ w1, Calls Tryd.prog 48 #[.string (bs c)] w1 fun e w' => e = .returned (.tuple #[.agg #[.int .i64 k, .int .i64 x], .nilIface]) ∧ Below w1.heap.size w1 w') (hl : t.length ≤ 9000000000000000000) :
    Calls Tryd.prog 38 #[.string (bs (45 :: n :: (c ++ s ++ t)))] w fun e w' => e = .returned (.tuple #[.agg #[.int .i64 k, .int .i64 x], .int .i64 (2 + (n.toNat : Int) + 4), .nilIface]) ∧ Below w.heap.size w w' := by
  have hn := n.toNat_lt
  have HM : Hid (Calls Tryd.prog 35 #[.string (bs (45 :: n :: (c ++ s ++ t))), .int .u8 45] (w.alloc (.cells #[.int .i64 0, .int .i64 0] 59)) fun e w' => e = .returned (.tuple #[.int .i64 (2 + (n.toNat : Int) + 4), .nilIface]) ∧ (w.alloc (.cells #[.int .i64 0, .int .i64 0] 59)) = w') := measure_whole 45 45 n (c ++ s ++ t) _ (by decide) (by simp; omega) (by simp [maxLen]; omega)
  have HK : Hid (Calls Tryd.prog 36 #[.string (bs (45 :: n :: (c ++ s)))] (w.alloc (.cells #[.int .i64 0, .int .i64 0] 59)) fun e w' => e = .returned (.tuple #[.string (bs c), .nilIface]) ∧ Below (w.alloc (.cells #[.int .i64 0, .int .i64 0] 59)).heap.size (w.alloc (.cells #[.int .i64 0, .int .i64 0] 59)) w') := open_good (45 :: n :: c) s _ hs (by simp) (by simp; omega) he
  have x1 : (bs (45 :: n :: (c ++ s ++ t))).extract 0 (2 + n.toNat + 4) = bs (45 :: n :: (c ++ s)) := by
    rw [bs_extract, show 45 :: n :: (c ++ s ++ t) = (45 :: n :: (c ++ s)) ++ t from rfl, List.drop_zero, List.take_append_of_le_length (by simp; omega), List.take_of_length_le (by simp; omega)]
  have q1 : 2 + (n.toNat : Int) + 4 ≤ ((45 :: n :: (c ++ s ++ t)).length : Int) := by simp; omega
  have q0 : (0 : Int) ≤ 2 + (n.toNat : Int) + 4 := by omega
  have tn : (2 + (n.toNat : Int) + 4).toNat = 2 + n.toNat + 4 := by omega
  clear he
  have HC : Hid (∀ w1, Calls Tryd.prog 48 #[.string (bs c)] w1 fun e w' => e = .returned (.tuple #[.agg #[.int .i64 k, .int .i64 x], .nilIface]) ∧ Below w1.heap.size w1 w') := hC
  clear hC
  generalize 45 :: n :: (c ++ s ++ t) = L at *
  generalize 45 :: n :: (c ++ s) = F at *
  go_enter Tryd.func38, Tryd.ntmps38
  go_wp2_with fail
  refine HM.out.mono ?_
  rintro e w1 ⟨rfl, rfl⟩
  go_wp2_with fail
  refine HK.out.mono ?_
  rintro e w2 ⟨rfl, hb2⟩
  obtain ⟨hc2, hf2⟩ := bcell hb2
  have hz2 : w.heap.size < w2.heap.size := by have := hb2.size; simp at this; omega
  go_wp2_with fail
  refine (HC.out w2).mono ?_
  rintro e w3 ⟨rfl, hb3⟩
  obtain ⟨hc3, hf3⟩ := bcell hb3
  have hz3 : w2.heap.size ≤ w3.heap.size := hb3.size
  have c0 : ∀ o, w3.cell? ⟨w.heap.size, o, none⟩ = (w.alloc (.cells #[.int .i64 0, .int .i64 0] 59)).cell? ⟨w.heap.size, o, none⟩ := fun o => by
    rw [hc3 _ _ hz2, hc2 _ _ (by simp)]
  have f0 : ∀ o, w3.frozen? ⟨w.heap.size, o, none⟩ = false := fun o => by rw [hf3 _ _ hz2, hf2 _ _ (by simp)]; simp
  have hz03 : w.heap.size < w3.heap.size := by omega
  clear hc2 hf2 hc3 hf3
  go_wp2_with fail
  exact bodyPost_ret (v := .tuple #[.agg #[.int .i64 k, .int .i64 x], .int .i64 (2 + (n.toNat : Int) + 4), .nilIface]) (by simp [results, Tryd.results38, go_sem, c0, hz03, World.cell?_alloc_lt]) rfl ⟨rfl, (((((((Below.refl _ _).alloc (Nat.le_refl _) _).trans (hb2.mono (by simp))).trans (hb3.mono (by omega))).setCell (by simp) _).setCell (by simp) _).alloc (by simp; omega) _)⟩
end Go.Proofs.YtfpojgljgbgkkaaDoor
