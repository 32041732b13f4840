/-
  wire.ReadMessage, accord.Decode, over what the bytes say.
-/
import Derived.Test.YtfpojgljgbgkkaaDoorDec
namespace Go.Proofs.YtfpojgljgbgkkaaDoor
open Go.RowKit

attribute [local go_sem] bs_append bs_size nums_len sumL_len List.length_append List.length_cons List.length_nil bs_get0 bs_get1 bs_get2

/-- Is this the content of a message? -/
def goodC : List UInt8 → Bool
  | k :: f :: t :: r => endsB (k.toNat : Int) (f.toNat : Int) (t.toNat : Int) && goodTx r
  | _ => false
def msgC : List UInt8 → Value
  | k :: f :: t :: r => .agg #[.int .i64 k.toNat, .int .i64 f.toNat, .int .i64 t.toNat, .int .i64 (pt r)]
  | _ => .agg #[.int .i64 0, .int .i64 0, .int .i64 0, .int .i64 0]

theorem content_bad (c : List UInt8) {a : Nat → Addr} (w : World) (hS : Sent w a) (hc : goodC c = false) (hl : c.length ≤ 300) :
    Calls Tryd.prog 37 #[.string (bs c)] w fun e w' => ErrRet w w' e (.agg #[.int .i64 0, .int .i64 0, .int .i64 0, .int .i64 0]) (a 5) := by
  match c, hc, hl with
  | [], _, _ => exact content_short [] w hS (by decide)
  | [x], _, _ => exact content_short [x] w hS (by simp)
  | [x, y], _, _ => exact content_short [x, y] w hS (by simp)
  | k :: f :: t :: r, hc, hl =>
    have hr : r.length ≤ 300 := by simp at hl; omega
    cases hE : endsB (k.toNat : Int) (f.toNat : Int) (t.toNat : Int)
    · exact content_ends k f t r w hS hE hr
    · simp only [goodC, hE, Bool.true_and] at hc
      exact content_tx k f t r w hS hE hc hr
theorem content_yes (c : List UInt8) {a : Nat → Addr} (w : World) (hS : Sent w a) (hc : goodC c = true) (hl : c.length ≤ 300) :
    Calls Tryd.prog 37 #[.string (bs c)] w fun e w' => e = .returned (.tuple #[msgC c, .nilIface]) ∧ Below w.heap.size w w' := by
  match c, hc, hl with
  | k :: f :: t :: r, hc, hl =>
    have hr : r.length ≤ 300 := by simp at hl; omega
    simp only [goodC, Bool.and_eq_true] at hc
    exact content_good k f t r w hS hc.1 hc.2 hr

set_option maxRecDepth 100000 in
set_option maxHeartbeats 2000000 in
/-- Where measure refuses, so does ReadMessage. -/
theorem read_measure (l : List UInt8) (i : Nat) {a : Nat → Addr} (w : World)
    (hm : ∀ w1, Below w.heap.size w w1 → Calls Tryd.prog 35 #[.string (bs l), .int .u8 44] w1 fun e w' => ErrRet w1 w' e (.int .i64 0) (a i)) :
    Calls Tryd.prog 20 #[.string (bs l)] w fun e w' => ErrRet w w' e (.agg #[.int .i64 0, .int .i64 0, .int .i64 0, .int .i64 0]) (a i) := by
  have H := hm (w.alloc (.cells #[.int .i64 0, .int .i64 0, .int .i64 0, .int .i64 0] 23)) ((Below.refl _ _).alloc (Nat.le_refl _) _)
  clear hm
  have HM : Hid (Calls Tryd.prog 35 #[.string (bs l), .int .u8 44] (w.alloc (.cells #[.int .i64 0, .int .i64 0, .int .i64 0, .int .i64 0] 23)) fun e w' => ErrRet (w.alloc (.cells #[.int .i64 0, .int .i64 0, .int .i64 0, .int .i64 0] 23)) w' e (.int .i64 0) (a i)) := H
  clear H
  go_enter Tryd.func20, Tryd.ntmps20
  go_wp2_with fail
  refine HM.out.mono ?_
  rintro e w2 ⟨b, rfl, hr, hb2⟩
  obtain ⟨hc2, hf2⟩ := bcell hb2
  have c0 : ∀ o, w2.cell? ⟨w.heap.size, o, none⟩ = (w.alloc (.cells #[.int .i64 0, .int .i64 0, .int .i64 0, .int .i64 0] 23)).cell? ⟨w.heap.size, o, none⟩ := fun o => by
    rw [hc2 _ _ (by simp)]
  have f0 : ∀ o, w2.frozen? ⟨w.heap.size, o, none⟩ = false := fun o => by
    rw [hf2 _ _ (by simp)]; simp
  have h2 : w2.cell? ⟨w.heap.size, 2, none⟩ = some (.int .i64 0) := by rw [c0]; simp
  have hne := hr.ne h2
  go_wp2_with fail
  exact bodyPost_ret (v := .tuple #[.agg #[.int .i64 0, .int .i64 0, .int .i64 0, .int .i64 0], .iface 91 (.pointer (some ⟨b, 0, none⟩))]) (by simp [results, Tryd.results20, go_sem, c0]) rfl ⟨b, rfl, (((hr.setCell _ hne).setCell _ hne).setCell _ hne).setCell _ hne, ((((((Below.refl _ _).alloc (Nat.le_refl _) _).trans (hb2.mono (by simp))).setCell (by simp) _).setCell (by simp) _).setCell (by simp) _).setCell (by simp) _⟩

set_option maxRecDepth 100000 in
set_option maxHeartbeats 2000000 in
theorem read_more (n : UInt8) (r : List UInt8) {a : Nat → Addr} (w : World) (hS : Sent w a) (hr : n.toNat + 4 < r.length) (hl : r.length ≤ maxLen - 2) :
    Calls Tryd.prog 20 #[.string (bs (44 :: n :: r))] w fun e w' => ErrRet w w' e (.agg #[.int .i64 0, .int .i64 0, .int .i64 0, .int .i64 0]) (a 3) := by
  have hS1 := hS.later ((Below.refl _ w).alloc (Nat.le_refl _) (.cells #[.int .i64 0, .int .i64 0, .int .i64 0, .int .i64 0] 23))
  have v3 := hS1.v3
  have H := measure_whole 44 44 n r (w.alloc (.cells #[.int .i64 0, .int .i64 0, .int .i64 0, .int .i64 0] 23)) (by decide) (by omega) hl
  have hn := n.toNat_lt
  unfold maxLen at hl
  clear hS hS1
  have HM : Hid (Calls Tryd.prog 35 #[.string (bs (44 :: n :: r)), .int .u8 44] (w.alloc (.cells #[.int .i64 0, .int .i64 0, .int .i64 0, .int .i64 0] 23)) fun e w' => e = .returned (.tuple #[.int .i64 (2 + (n.toNat : Int) + 4), .nilIface]) ∧ (w.alloc (.cells #[.int .i64 0, .int .i64 0, .int .i64 0, .int .i64 0] 23)) = w') := H
  clear H
  have q1 : 2 + (n.toNat : Int) + 4 < (r.length : Int) + 1 + 1 := by omega
  go_enter Tryd.func20, Tryd.ntmps20
  go_wp2_with fail
  refine HM.out.mono ?_
  rintro e w1 ⟨rfl, rfl⟩
  go_wp2_with fail
  refine (at_err _ _ _ _).mono ?_
  rintro e w2 ⟨b, rfl, hr, hb2⟩
  obtain ⟨hc2, hf2⟩ := bcell hb2
  have c0 : ∀ o, w2.cell? ⟨w.heap.size, o, none⟩ = (w.alloc (.cells #[.int .i64 0, .int .i64 0, .int .i64 0, .int .i64 0] 23)).cell? ⟨w.heap.size, o, none⟩ := fun o => by
    rw [hc2 _ _ (by simp)]
  have f0 : ∀ o, w2.frozen? ⟨w.heap.size, o, none⟩ = false := fun o => by
    rw [hf2 _ _ (by simp)]; simp
  have h2 : w2.cell? ⟨w.heap.size, 2, none⟩ = some (.int .i64 0) := by rw [c0]; simp
  have hne := hr.ne h2
  go_wp2_with fail
  exact bodyPost_ret (v := .tuple #[.agg #[.int .i64 0, .int .i64 0, .int .i64 0, .int .i64 0], .iface 91 (.pointer (some ⟨b, 0, none⟩))]) (by simp [results, Tryd.results20, go_sem, c0]) rfl ⟨b, rfl, (((hr.setCell _ hne).setCell _ hne).setCell _ hne).setCell _ hne, ((((((Below.refl _ _).alloc (Nat.le_refl _) _).trans (hb2.mono (by simp))).setCell (by simp) _).setCell (by simp) _).setCell (by simp) _).setCell (by simp) _⟩

set_option maxRecDepth 100000 in
set_option maxHeartbeats 2000000 in
theorem read_sum (n : UInt8) (c s : List UInt8) {a : Nat → Addr} (w : World) (hS : Sent w a) (hc : c.length = n.toNat) (hs : s.length = 4) (hne : sumL (44 :: n :: c) ≠ s) :
    Calls Tryd.prog 20 #[.string (bs (44 :: n :: (c ++ s)))] w fun e w' => ErrRet w w' e (.agg #[.int .i64 0, .int .i64 0, .int .i64 0, .int .i64 0]) (a 4) := by
  have hS1 := hS.later ((Below.refl _ w).alloc (Nat.le_refl _) (.cells #[.int .i64 0, .int .i64 0, .int .i64 0, .int .i64 0] 23))
  have hn := n.toNat_lt
  have H := measure_whole 44 44 n (c ++ s) (w.alloc (.cells #[.int .i64 0, .int .i64 0, .int .i64 0, .int .i64 0] 23)) (by decide) (by simp; omega) (by simp [maxLen]; omega)
  have HM : Hid (Calls Tryd.prog 35 #[.string (bs (44 :: n :: (c ++ s))), .int .u8 44] (w.alloc (.cells #[.int .i64 0, .int .i64 0, .int .i64 0, .int .i64 0] 23)) fun e w' => e = .returned (.tuple #[.int .i64 (2 + (n.toNat : Int) + 4), .nilIface]) ∧ (w.alloc (.cells #[.int .i64 0, .int .i64 0, .int .i64 0, .int .i64 0] 23)) = w') := H
  clear H
  have K := open_bad (44 :: n :: c) s (w.alloc (.cells #[.int .i64 0, .int .i64 0, .int .i64 0, .int .i64 0] 23)) hS1 hs (by simp) (by simp; omega) hne
  have HK : Hid (Calls Tryd.prog 36 #[.string (bs (44 :: n :: (c ++ s)))] (w.alloc (.cells #[.int .i64 0, .int .i64 0, .int .i64 0, .int .i64 0] 23)) fun e w' => ErrRet (w.alloc (.cells #[.int .i64 0, .int .i64 0, .int .i64 0, .int .i64 0] 23)) w' e (.string (bs [])) (a 4)) := K
  clear K hS hS1 hne
  have q1 : ¬ (2 + (n.toNat : Int) + 4 < ((44 :: n :: (c ++ s)).length : Int)) := by simp; omega
  generalize 44 :: n :: (c ++ s) = L at *
  go_enter Tryd.func20, Tryd.ntmps20
  go_wp2_with fail
  refine HM.out.mono ?_
  rintro e w1 ⟨rfl, rfl⟩
  go_wp2_with fail
  refine HK.out.mono ?_
  rintro e w2 ⟨b, rfl, hr, hb2⟩
  obtain ⟨hc2, hf2⟩ := bcell hb2
  have c0 : ∀ o, w2.cell? ⟨w.heap.size, o, none⟩ = (w.alloc (.cells #[.int .i64 0, .int .i64 0, .int .i64 0, .int .i64 0] 23)).cell? ⟨w.heap.size, o, none⟩ := fun o => by
    rw [hc2 _ _ (by simp)]
  have f0 : ∀ o, w2.frozen? ⟨w.heap.size, o, none⟩ = false := fun o => by
    rw [hf2 _ _ (by simp)]; simp
  have h2 : w2.cell? ⟨w.heap.size, 2, none⟩ = some (.int .i64 0) := by rw [c0]; simp
  have hne := hr.ne h2
  go_wp2_with fail
  exact bodyPost_ret (v := .tuple #[.agg #[.int .i64 0, .int .i64 0, .int .i64 0, .int .i64 0], .iface 91 (.pointer (some ⟨b, 0, none⟩))]) (by simp [results, Tryd.results20, go_sem, c0]) rfl ⟨b, rfl, (((hr.setCell _ hne).setCell _ hne).setCell _ hne).setCell _ hne, ((((((Below.refl _ _).alloc (Nat.le_refl _) _).trans (hb2.mono (by simp))).setCell (by simp) _).setCell (by simp) _).setCell (by simp) _).setCell (by simp) _⟩

set_option maxRecDepth 100000 in
set_option maxHeartbeats 2000000 in
theorem read_form (n : UInt8) (c s : List UInt8) {a : Nat → Addr} (w : World) (hS : Sent w a) (hc : c.length = n.toNat) (hs : s.length = 4) (hne : sumL (44 :: n :: c) = s) (hg : goodC c = false) :
    Calls Tryd.prog 20 #[.string (bs (44 :: n :: (c ++ s)))] w fun e w' => ErrRet w w' e (.agg #[.int .i64 0, .int .i64 0, .int .i64 0, .int .i64 0]) (a 5) := by
  have hS1 := hS.later ((Below.refl _ w).alloc (Nat.le_refl _) (.cells #[.int .i64 0, .int .i64 0, .int .i64 0, .int .i64 0] 23))
  have hn := n.toNat_lt
  have H := measure_whole 44 44 n (c ++ s) (w.alloc (.cells #[.int .i64 0, .int .i64 0, .int .i64 0, .int .i64 0] 23)) (by decide) (by simp at hc ⊢; omega) (by simp [maxLen] at hc ⊢; omega)
  have HM : Hid (Calls Tryd.prog 35 #[.string (bs (44 :: n :: (c ++ s))), .int .u8 44] (w.alloc (.cells #[.int .i64 0, .int .i64 0, .int .i64 0, .int .i64 0] 23)) fun e w' => e = .returned (.tuple #[.int .i64 (2 + (n.toNat : Int) + 4), .nilIface]) ∧ (w.alloc (.cells #[.int .i64 0, .int .i64 0, .int .i64 0, .int .i64 0] 23)) = w') := H
  clear H
  have K := open_good (44 :: n :: (c)) s (w.alloc (.cells #[.int .i64 0, .int .i64 0, .int .i64 0, .int .i64 0] 23)) hs (by simp) (by simp at hc ⊢; omega) hne
  have HK : Hid (Calls Tryd.prog 36 #[.string (bs (44 :: n :: (c ++ s)))] (w.alloc (.cells #[.int .i64 0, .int .i64 0, .int .i64 0, .int .i64 0] 23)) fun e w' => e = .returned (.tuple #[.string (bs (c)), .nilIface]) ∧ Below (w.alloc (.cells #[.int .i64 0, .int .i64 0, .int .i64 0, .int .i64 0] 23)).heap.size (w.alloc (.cells #[.int .i64 0, .int .i64 0, .int .i64 0, .int .i64 0] 23)) w') := K
  clear K
  have q1 : ¬ (2 + (n.toNat : Int) + 4 < ((44 :: n :: (c ++ s)).length : Int)) := by simp at hc ⊢; omega
  generalize 44 :: n :: (c ++ s) = L at *
  go_enter Tryd.func20, Tryd.ntmps20
  go_wp2_with fail
  refine HM.out.mono ?_
  rintro e w1 ⟨rfl, rfl⟩
  go_wp2_with fail
  refine HK.out.mono ?_
  rintro e w2 ⟨rfl, hb2⟩
  have hS2 := hS1.later hb2
  obtain ⟨hc2, hf2⟩ := bcell hb2
  have hz2 : w.heap.size < w2.heap.size := by have := hb2.size; simp at this; omega
  go_wp2_with fail
  refine (content_bad c _ hS2 hg (by omega)).mono ?_
  rintro e w3 ⟨b, rfl, hr, hb3⟩
  obtain ⟨hc3, hf3⟩ := bcell hb3
  have c0 : ∀ o, w3.cell? ⟨w.heap.size, o, none⟩ = (w.alloc (.cells #[.int .i64 0, .int .i64 0, .int .i64 0, .int .i64 0] 23)).cell? ⟨w.heap.size, o, none⟩ := fun o => by
    rw [hc3 _ _ hz2, hc2 _ _ (by simp)]
  have f0 : ∀ o, w3.frozen? ⟨w.heap.size, o, none⟩ = false := fun o => by
    rw [hf3 _ _ hz2, hf2 _ _ (by simp)]; simp
  have h2 : w3.cell? ⟨w.heap.size, 2, none⟩ = some (.int .i64 0) := by rw [c0]; simp
  have hne := hr.ne h2
  go_wp2_with fail
  exact bodyPost_ret (v := .tuple #[.agg #[.int .i64 0, .int .i64 0, .int .i64 0, .int .i64 0], .iface 91 (.pointer (some ⟨b, 0, none⟩))]) (by simp [results, Tryd.results20, go_sem, c0]) rfl ⟨b, rfl, (((hr.setCell _ hne).setCell _ hne).setCell _ hne).setCell _ hne, (((((((Below.refl _ _).alloc (Nat.le_refl _) _).trans (hb2.mono (by simp))).trans (hb3.mono (by omega))).setCell (by simp) _).setCell (by simp) _).setCell (by simp) _).setCell (by simp) _⟩

set_option maxRecDepth 100000 in
set_option maxHeartbeats 2000000 in
theorem read_good (n k f t : UInt8) (r s : List UInt8) {a : Nat → Addr} (w : World) (hS : Sent w a) (hc : (k :: f :: t :: r).length = n.toNat) (hs : s.length = 4) (hne : sumL (44 :: n :: k :: f :: t :: r) = s) (hg : goodC (k :: f :: t :: r) = true) :
    Calls Tryd.prog 20 #[.string (bs (44 :: n :: (k :: f :: t :: r ++ s)))] w fun e w' => e = .returned (.tuple #[.agg #[.int .i64 k.toNat, .int .i64 f.toNat, .int .i64 t.toNat, .int .i64 (pt r)], .nilIface]) ∧ Below w.heap.size w w' := by
  have hS1 := hS.later ((Below.refl _ w).alloc (Nat.le_refl _) (.cells #[.int .i64 0, .int .i64 0, .int .i64 0, .int .i64 0] 23))
  have hn := n.toNat_lt
  have H := measure_whole 44 44 n (k :: f :: t :: r ++ s) (w.alloc (.cells #[.int .i64 0, .int .i64 0, .int .i64 0, .int .i64 0] 23)) (by decide) (by simp at hc ⊢; omega) (by simp [maxLen] at hc ⊢; omega)
  have HM : Hid (Calls Tryd.prog 35 #[.string (bs (44 :: n :: (k :: f :: t :: r ++ s))), .int .u8 44] (w.alloc (.cells #[.int .i64 0, .int .i64 0, .int .i64 0, .int .i64 0] 23)) fun e w' => e = .returned (.tuple #[.int .i64 (2 + (n.toNat : Int) + 4), .nilIface]) ∧ (w.alloc (.cells #[.int .i64 0, .int .i64 0, .int .i64 0, .int .i64 0] 23)) = w') := H
  clear H
  have K := open_good (44 :: n :: (k :: f :: t :: r)) s (w.alloc (.cells #[.int .i64 0, .int .i64 0, .int .i64 0, .int .i64 0] 23)) hs (by simp) (by simp at hc ⊢; omega) hne
  have HK : Hid (Calls Tryd.prog 36 #[.string (bs (44 :: n :: (k :: f :: t :: r ++ s)))] (w.alloc (.cells #[.int .i64 0, .int .i64 0, .int .i64 0, .int .i64 0] 23)) fun e w' => e = .returned (.tuple #[.string (bs (k :: f :: t :: r)), .nilIface]) ∧ Below (w.alloc (.cells #[.int .i64 0, .int .i64 0, .int .i64 0, .int .i64 0] 23)).heap.size (w.alloc (.cells #[.int .i64 0, .int .i64 0, .int .i64 0, .int .i64 0] 23)) w') := K
  clear K
  have q1 : ¬ (2 + (n.toNat : Int) + 4 < ((44 :: n :: (k :: f :: t :: r ++ s)).length : Int)) := by simp at hc ⊢; omega
  generalize 44 :: n :: (k :: f :: t :: r ++ s) = L at *
  go_enter Tryd.func20, Tryd.ntmps20
  go_wp2_with fail
  refine HM.out.mono ?_
  rintro e w1 ⟨rfl, rfl⟩
  go_wp2_with fail
  refine HK.out.mono ?_
  rintro e w2 ⟨rfl, hb2⟩
  have hS2 := hS1.later hb2
  obtain ⟨hc2, hf2⟩ := bcell hb2
  have hz2 : w.heap.size < w2.heap.size := by have := hb2.size; simp at this; omega
  go_wp2_with fail
  refine (content_yes (k :: f :: t :: r) _ hS2 hg (by omega)).mono ?_
  rintro e w3 ⟨rfl, hb3⟩
  obtain ⟨hc3, hf3⟩ := bcell hb3
  have c0 : ∀ o, w3.cell? ⟨w.heap.size, o, none⟩ = (w.alloc (.cells #[.int .i64 0, .int .i64 0, .int .i64 0, .int .i64 0] 23)).cell? ⟨w.heap.size, o, none⟩ := fun o => by
    rw [hc3 _ _ hz2, hc2 _ _ (by simp)]
  have f0 : ∀ o, w3.frozen? ⟨w.heap.size, o, none⟩ = false := fun o => by
    rw [hf3 _ _ hz2, hf2 _ _ (by simp)]; simp
  simp only [msgC]
  go_wp2_with fail
  exact bodyPost_ret (v := .tuple #[.agg #[.int .i64 k.toNat, .int .i64 f.toNat, .int .i64 t.toNat, .int .i64 (pt r)], .nilIface]) (by simp [results, Tryd.results20, go_sem, c0]) rfl ⟨rfl, (((((((Below.refl _ _).alloc (Nat.le_refl _) _).trans (hb2.mono (by simp))).trans (hb3.mono (by omega))).setCell (by simp) _).setCell (by simp) _).setCell (by simp) _).setCell (by simp) _⟩
end Go.Proofs.YtfpojgljgbgkkaaDoor
