/-
  The law Messages, walked.
-/
import Derived.Test.YtfpojgljgbgkkaaDoorPair
import Derived.Test.YtfpojgljgbgkkaaDoorBack
namespace Go.Proofs.YtfpojgljgbgkkaaDoor
open Go.RowKit

attribute [local go_sem] bs_append bs_size nums_len sumL_len List.length_append List.length_cons List.length_nil bs_get0 bs_get1 bs_get2

theorem first_len : (msgL 1 0 2 5).length = 10 := by rw [msgL, frame_len]; rfl
theorem first_head : (bs (msgL 1 0 2 5)).extract 0 6 = bs [44, 4, 1, 0, 2, 5] := by rw [msg_form, bs_extract]; rfl

set_option maxRecDepth 100000 in
set_option maxHeartbeats 8000000 in
theorem messages_walk (k f t x : Int) (b : ByteArray) (hb : b.size ≤ maxLen) {a : Nat → Addr} (w : World) (hS : Sent w a) :
    Calls Tryd.prog 3 #[.agg #[.int .i64 k, .int .i64 f, .int .i64 t, .int .i64 x], .string b] w fun e w' => e = .returned (.bool true) ∧ Below w.heap.size w w' := by
  obtain ⟨m, n, hEnc⟩ := enc_both k f t x
  obtain ⟨k', f', t', x', n', hDec⟩ := dec_both b.data.toList hb
  rw [show b = bs b.data.toList from rfl]
  generalize b.data.toList = l at *
  have HE : Hid (EncBoth k f t x m n) := hEnc
  have HD : Hid (DecBoth l k' f' t' x' n') := hDec
  clear hEnc hDec hb
  have e1 := first_len
  have e2 := first_head
  have E0 := encode_yes 1 0 2 5 (w.alloc (.cells #[.int .i64 k, .int .i64 f, .int .i64 t, .int .i64 x] 23)) (hS.later ((Below.refl _ _).alloc (Nat.le_refl _) _)) (by decide) (by decide)
  have H0 : Hid (Calls Tryd.prog 6 #[.agg #[.int .i64 1, .int .i64 0, .int .i64 2, .int .i64 5]] (w.alloc (.cells #[.int .i64 k, .int .i64 f, .int .i64 t, .int .i64 x] 23)) fun e w' => e = .returned (.tuple #[.string (bs (msgL 1 0 2 5)), .int .i64 0]) ∧ Below (w.alloc (.cells #[.int .i64 k, .int .i64 f, .int .i64 t, .int .i64 x] 23)).heap.size (w.alloc (.cells #[.int .i64 k, .int .i64 f, .int .i64 t, .int .i64 x] 23)) w') := E0
  clear E0
  generalize hM : msgL 1 0 2 5 = M at *
  have HM : Hid (msgL 1 0 2 5 = M) := hM
  clear hM
  have hcmp : ((bs [44, 4, 1, 0, 2, 5]).toList == [44, 4, 1, 0, 2, 5]) = true := by rw [bs_toList]; rfl
  go_enter Tryd.func3, Tryd.ntmps3
  go_wp2_with fail
  refine H0.out.mono ?_
  rintro e w1 ⟨rfl, hb1⟩
  go_wp2_with fail
  have hz1 : w.heap.size < w1.heap.size := by have := hb1.size; simp at this; omega
  have hS1 := (hS.later ((Below.refl _ w).alloc (Nat.le_refl _) (.cells #[.int .i64 k, .int .i64 f, .int .i64 t, .int .i64 x] 23))).later hb1
  have c1 : ∀ o, w1.cell? ⟨w.heap.size, o, none⟩ = (w.alloc (.cells #[.int .i64 k, .int .i64 f, .int .i64 t, .int .i64 x] 23)).cell? ⟨w.heap.size, o, none⟩ := fun o => (bcell hb1).1 _ _ (by simp)
  rw [← HM.out]
  refine (decode_msg 1 0 2 5 (by decide) (by decide) w1 a hS1).mono ?_
  rintro e w2 ⟨rfl, hb2⟩
  rw [HM.out]
  have hz2 : w.heap.size < w2.heap.size := by have := hb2.size; omega
  have hS2 := hS1.later hb2
  have c2 : ∀ o, w2.cell? ⟨w.heap.size, o, none⟩ = (w.alloc (.cells #[.int .i64 k, .int .i64 f, .int .i64 t, .int .i64 x] 23)).cell? ⟨w.heap.size, o, none⟩ := fun o => ((bcell hb2).1 _ _ hz1).trans (c1 o)
  go_wp2_with fail
  refine (HE.out.prog _ a (hS2.later ((Below.refl _ w2).alloc (Nat.le_refl _) (.cells #[.int .i64 1, .int .i64 0, .int .i64 2, .int .i64 5] 23)))).mono ?_
  rintro e w3 ⟨rfl, hb3⟩
  have hz3 : w2.heap.size < w3.heap.size := by have := hb3.size; simp at this; omega
  have c3 : ∀ o, w3.cell? ⟨w.heap.size, o, none⟩ = (w.alloc (.cells #[.int .i64 k, .int .i64 f, .int .i64 t, .int .i64 x] 23)).cell? ⟨w.heap.size, o, none⟩ := fun o => by
    rw [(bcell hb3).1 _ _ (by simp; omega), World.cell?_alloc_lt _ _ _ hz2, c2]
  have d3 : ∀ o, w3.cell? ⟨w2.heap.size, o, none⟩ = (w2.alloc (.cells #[.int .i64 1, .int .i64 0, .int .i64 2, .int .i64 5] 23)).cell? ⟨w2.heap.size, o, none⟩ := fun o => (bcell hb3).1 _ _ (by simp)
  have hS3 := (hS2.later ((Below.refl _ w2).alloc (Nat.le_refl _) (.cells #[.int .i64 1, .int .i64 0, .int .i64 2, .int .i64 5] 23))).later hb3
  go_wp2_with fail
  refine (HE.out.doc _).mono ?_
  rintro e w4 ⟨rfl, hb4⟩
  have hz4 : w2.heap.size < w4.heap.size := by have := hb4.size; omega
  have d4 : ∀ o, w4.cell? ⟨w2.heap.size, o, none⟩ = (w2.alloc (.cells #[.int .i64 1, .int .i64 0, .int .i64 2, .int .i64 5] 23)).cell? ⟨w2.heap.size, o, none⟩ := fun o => ((bcell hb4).1 _ _ hz3).trans (d3 o)
  have hS4 := hS3.later hb4
  go_wp2_with fail
  refine (HD.out.prog _ a hS4).mono ?_
  rintro e w5 ⟨rfl, hb5⟩
  have hz5 : w2.heap.size < w5.heap.size := by have := hb5.size; omega
  have d5 : ∀ o, w5.cell? ⟨w2.heap.size, o, none⟩ = (w2.alloc (.cells #[.int .i64 1, .int .i64 0, .int .i64 2, .int .i64 5] 23)).cell? ⟨w2.heap.size, o, none⟩ := fun o => ((bcell hb5).1 _ _ hz4).trans (d4 o)
  go_wp2_with fail
  refine (HD.out.doc _).mono ?_
  rintro e w6 ⟨rfl, hb6⟩
  have hz6 : w5.heap.size < w6.heap.size := by have := hb6.size; simp at this; omega
  have d6 : ∀ o, w6.cell? ⟨w2.heap.size, o, none⟩ = (w2.alloc (.cells #[.int .i64 1, .int .i64 0, .int .i64 2, .int .i64 5] 23)).cell? ⟨w2.heap.size, o, none⟩ := fun o => by
    rw [(bcell hb6).1 _ _ (by simp; omega), World.cell?_alloc_lt _ _ _ hz5, d5]
  have g6 : ∀ o, w6.cell? ⟨w5.heap.size, o, none⟩ = (w5.alloc (.cells #[.int .i64 k', .int .i64 f', .int .i64 t', .int .i64 x'] 23)).cell? ⟨w5.heap.size, o, none⟩ := fun o => (bcell hb6).1 _ _ (by simp)
  have hz26 : w2.heap.size < w6.heap.size := by omega
  clear c1 c2 c3 d3 d4 d5
  go_wp2_with fail
  go_ret
  refine ⟨rfl, ?_⟩
  have b2 : Below w.heap.size w w2 := (((Below.refl _ _).alloc (Nat.le_refl _) _).trans (hb1.mono (by simp))).trans (hb2.mono (by omega))
  have b5 : Below w.heap.size w w5 := (((b2.alloc (by omega) _).trans (hb3.mono (by simp; omega))).trans (hb4.mono (by omega))).trans (hb5.mono (by omega))
  exact ((b5.alloc (by omega) _).trans (hb6.mono (by simp; omega))).alloc (by omega) _
end Go.Proofs.YtfpojgljgbgkkaaDoor
