/-
  The document's Encode, the program's Encode.
-/
import Derived.Test.YtfpojgljgbgkkaaDoorLeaf
import Derived.Deep.RegionHeld3
import Derived.Deep.DrawnRows
namespace Go.Proofs.YtfpojgljgbgkkaaDoor
open Go.RowKit

attribute [local go_sem] bs_append bs_size nums_len sumL_len List.length_append List.length_cons List.length_nil
attribute [local go_sem ↓] Go.wp_at_zero Go.wp_at_succ

theorem conv3_at (W : World) (n : Nat) (hn : n = W.heap.size) (a b c : Int) : (convert 45 9 (.slice (some ⟨n, 0, none⟩) 3 3)).run Tryd.prog (W.alloc (.cells #[.int .u8 a, .int .u8 b, .int .u8 c] 5)).drew = .ok (.string (bs (nums [a, b, c]))) (W.alloc (.cells #[.int .u8 a, .int .u8 b, .int .u8 c] 5)).drew := by
  subst hn
  have h := run_convert_bytes_arg (P := Tryd.prog) (W.alloc (.cells #[.int .u8 a, .int .u8 b, .int .u8 c] 5)).drew 45 5 Tryd.underlying45 Tryd.underlying5 W.heap.size 0 3 3 [a, b, c] rfl
    (fun i hi => by
      simp only [World.cell?_drew]
      rw [World.cell?_alloc_at _ _ _ _ rfl]
      match i, hi with
      | 0, _ => rfl
      | 1, _ => rfl
      | 2, _ => rfl) 9 Tryd.underlying9
  exact h
theorem conv3_below {w w2 : World} {B : Array Value} {a b c : Int} (hb : Below ((w.alloc (.cells B 23)).alloc (.cells #[.int .u8 a, .int .u8 b, .int .u8 c] 5)).drew.heap.size ((w.alloc (.cells B 23)).alloc (.cells #[.int .u8 a, .int .u8 b, .int .u8 c] 5)).drew w2) :
    (convert 45 9 (.slice (some ⟨w.heap.size + 1, 0, none⟩) 3 3)).run Tryd.prog w2 = .ok (.string (bs (nums [a, b, c]))) w2 := by
  have h := run_convert_bytes_arg (P := Tryd.prog) w2 45 5 Tryd.underlying45 Tryd.underlying5 (w.heap.size + 1) 0 3 3 [a, b, c] rfl
    (fun i hi => by
      rw [hb.cell (by simp)]
      simp only [World.cell?_drew]
      rw [World.cell?_alloc_at _ _ _ _ (by simp)]
      match i, hi with
      | 0, _ => rfl
      | 1, _ => rfl
      | 2, _ => rfl) 9 Tryd.underlying9
  exact h
theorem wrap8 (k : Int) (h0 : 0 ≤ k) (h1 : k < 256) : IntKind.u8.wrap k = k := by rw [IntKind.wrap_u8]; omega

set_option maxRecDepth 100000 in
set_option maxHeartbeats 10000000 in
theorem refEncode_yes (k f t x : Int) (w : World) (h : endsB k f t = true) (hx : rightTxB x = true) :
    Calls Tryd.prog 8 #[.agg #[.int .i64 k, .int .i64 f, .int .i64 t, .int .i64 x]] w fun e w' => e = .returned (.tuple #[.string (bs (msgL k f t x)), .int .i64 0]) ∧ Below w.heap.size w w' := by
  have k3g := conv3
  have k3 := fun a b c => conv3_at (w.alloc (.cells #[.int .i64 k, .int .i64 f, .int .i64 t, .int .i64 x] 23)) (w.heap.size + 1) (by simp) a b c
  simp only [rightTxB, decide_eq_true_eq] at hx
  obtain ⟨hx1, hx2⟩ := hx
  simp only [endsB, rightNodeB, Bool.and_eq_true, decide_eq_true_eq] at h
  obtain ⟨⟨⟨hk1, hk2⟩, hf1, hf2⟩, ht1, ht2⟩ := h
  have hlen := (txL_len x).2
  have hcat : ¬ 9223372036854775807 < 3 + (txL x).length := by omega
  have e1 := wrap8 k (by omega) (by omega)
  have e2 := wrap8 f (by omega) (by omega)
  have e3 := wrap8 t (by omega) (by omega)
  have HF : Hid (bs (msgL k f t x) = bs (frame 44 (nums [k, f, t] ++ txL x))) := rfl
  go_enter Tryd.func8, Tryd.ntmps8
  go_wp2
  refine wp_region_held_drew (S := fun w' => w'.cell? ⟨w.heap.size, 0, none⟩ = some (.int .i64 k) ∧ w'.cell? ⟨w.heap.size, 1, none⟩ = some (.int .i64 f) ∧ w'.cell? ⟨w.heap.size, 2, none⟩ = some (.int .i64 t) ∧ w'.cell? ⟨w.heap.size, 3, none⟩ = some (.int .i64 x)) (by kernel_rfl) ?_ (fun hHeld => ?_)
  · simp
  refine wpAnyH_take (i := 0) (v := .pointer (some ⟨w.heap.size, 0, none⟩)) rfl (by kernel_rfl) (by kernel_rfl) (by kernel_rfl) (fun _ _ _ h => h) (Or.inl ⟨by rfl, ?_⟩) (by assumption) ?_
  · intro w hSw; go_simp
  simp only [Act.put]
  refine wpAnyH_take (i := 1) (v := .int .i64 k) rfl (by kernel_rfl) (by kernel_rfl) (by kernel_rfl) (fun _ _ _ h => h) (Or.inl ⟨by rfl, ?_⟩) (by assumption) ?_
  · intro w hSw; go_simp
  simp only [Act.put]
  refine wpAnyH_take (i := 2) (v := .int .u8 k) rfl (by kernel_rfl) (by kernel_rfl) (by kernel_rfl) (fun _ _ _ h => h) (Or.inl ⟨by rfl, ?_⟩) (by assumption) ?_
  · intro w hSw; go_simp
  simp only [Act.put]
  refine wpAnyH_take (i := 3) (v := .pointer (some ⟨w.heap.size, 1, none⟩)) rfl (by kernel_rfl) (by kernel_rfl) (by kernel_rfl) (fun _ _ _ h => h) (Or.inl ⟨by rfl, ?_⟩) (by assumption) ?_
  · intro w hSw; go_simp
  simp only [Act.put]
  refine wpAnyH_take (i := 4) (v := .int .i64 f) rfl (by kernel_rfl) (by kernel_rfl) (by kernel_rfl) (fun _ _ _ h => h) (Or.inl ⟨by rfl, ?_⟩) (by assumption) ?_
  · intro w hSw; go_simp
  simp only [Act.put]
  refine wpAnyH_take (i := 5) (v := .int .u8 f) rfl (by kernel_rfl) (by kernel_rfl) (by kernel_rfl) (fun _ _ _ h => h) (Or.inl ⟨by rfl, ?_⟩) (by assumption) ?_
  · intro w hSw; go_simp
  simp only [Act.put]
  refine wpAnyH_take (i := 6) (v := .pointer (some ⟨w.heap.size, 2, none⟩)) rfl (by kernel_rfl) (by kernel_rfl) (by kernel_rfl) (fun _ _ _ h => h) (Or.inl ⟨by rfl, ?_⟩) (by assumption) ?_
  · intro w hSw; go_simp
  simp only [Act.put]
  refine wpAnyH_take (i := 7) (v := .int .i64 t) rfl (by kernel_rfl) (by kernel_rfl) (by kernel_rfl) (fun _ _ _ h => h) (Or.inl ⟨by rfl, ?_⟩) (by assumption) ?_
  · intro w hSw; go_simp
  simp only [Act.put]
  refine wpAnyH_take (i := 8) (v := .int .u8 t) rfl (by kernel_rfl) (by kernel_rfl) (by kernel_rfl) (fun _ _ _ h => h) (Or.inl ⟨by rfl, ?_⟩) (by assumption) ?_
  · intro w hSw; go_simp
  simp only [Act.put]
  refine wpAnyH_take (i := 11) (v := .pointer (some ⟨w.heap.size, 3, none⟩)) rfl (by kernel_rfl) (by kernel_rfl) (by kernel_rfl) (fun _ _ _ h => h) (Or.inl ⟨by rfl, ?_⟩) (by assumption) ?_
  · intro w hSw; go_simp
  simp only [Act.put]
  refine wpAnyH_take (i := 12) (v := .int .i64 x) rfl (by kernel_rfl) (by kernel_rfl) (by kernel_rfl) (fun _ _ _ h => h) (Or.inl ⟨by rfl, ?_⟩) (by assumption) ?_
  · intro w hSw; go_simp
  simp only [Act.put]
  refine wpAnyH_ready (rs := [9, 13]) (by kernel_rfl) (by simp) ?_
  refine AllReadyH.cons rfl (fun K hK => ?_) (AllReadyH.cons rfl (fun K hK => ?_) AllReadyH.nil)
  · go_simp
    refine hK.out _ _ ?_ (fun hHeld => ?_)
    · simp
    clear hK K
    refine wpAnyH_ready (rs := [10, 13]) (by kernel_rfl) (by simp) ?_
    refine (AllReadyH.cons rfl (fun K hK => ?_) (AllReadyH.cons rfl (fun K hK => ?_) AllReadyH.nil))
    · go_simp
      refine hK.out _ _ ?_ (fun hHeld => ?_)
      · simp
      clear hK K
      refine wpAnyH_ready (rs := [13]) (by kernel_rfl) (by simp) ?_
      refine (AllReadyH.cons rfl (fun K hK => ?_) AllReadyH.nil)
      go_simp
      refine (number_any x _ hx1 hx2).mono ?_
      rintro e w2 ⟨rfl, hb2⟩
      obtain ⟨hc2, -⟩ := bcell hb2
      have hz2 : w.heap.size < w2.heap.size := by have := hb2.size; simp at this; omega
      go_wp2_with fail
      refine hK.out _ _ ?_ (fun hHeld => ?_)
      · refine ⟨?_, ?_, ?_, ?_⟩ <;> (rw [hc2 _ _ (by simp; try omega)]; simp)
      clear hK K
      refine wpAnyH_ready (rs := [14]) (by kernel_rfl) (by simp) ?_
      refine (AllReadyH.cons rfl (fun K hK => ?_) AllReadyH.nil)
      go_simp
      refine hK.out _ _ ?_ (fun hHeld => ?_)
      · refine ⟨?_, ?_, ?_, ?_⟩ <;> (rw [hc2 _ _ (by simp; try omega)]; simp)
      clear hK K
      refine wpAnyH_ready (rs := [15]) (by kernel_rfl) (by simp) ?_
      refine (AllReadyH.cons rfl (fun K hK => ?_) AllReadyH.nil)
      go_simp
      refine (framed_any 44 _ _ (by decide) (by simp [nums_len]; omega)).mono ?_
      rintro e w3 ⟨rfl, hb3⟩
      obtain ⟨hc3, -⟩ := bcell hb3
      go_wp2_with fail
      refine hK.out _ _ ?_ (fun hHeld => ?_)
      · refine ⟨?_, ?_, ?_, ?_⟩ <;> (rw [hc3 _ _ (by omega), hc2 _ _ (by simp; try omega)]; simp)
      clear hK K
      refine wpAnyH_ready (rs := [16]) (by kernel_rfl) (by simp) ?_
      refine (AllReadyH.cons rfl (fun K hK => ?_) AllReadyH.nil)
      go_simp
      refine hK.out _ _ ?_ (fun hHeld => ?_)
      · refine ⟨?_, ?_, ?_, ?_⟩ <;> (rw [hc3 _ _ (by omega), hc2 _ _ (by simp; try omega)]; simp)
      clear hK K
      refine wpAnyH_ready (rs := [17]) (by kernel_rfl) (by simp) ?_
      refine (AllReadyH.cons rfl (fun K hK => ?_) AllReadyH.nil)
      go_simp
      refine hK.out _ _ ?_ (fun hHeld => ?_)
      · refine ⟨?_, ?_, ?_, ?_⟩ <;> (rw [hc3 _ _ (by omega), hc2 _ _ (by simp; try omega)]; simp)
      clear hK K
      refine wpAnyH_done (by kernel_rfl) ?_ _
      go_wp2
      go_ret2
      refine ⟨by rw [HF.out]; rfl, ?_⟩
      exact (((Below.refl _ _).alloc (Nat.le_refl _) _).alloc (by simp) _).drew.trans ((hb2.mono (by simp; omega)).trans (hb3.mono (by omega)))
    · go_simp
      refine (number_any x _ hx1 hx2).mono ?_
      rintro e w2 ⟨rfl, hb2⟩
      obtain ⟨hc2, -⟩ := bcell hb2
      have hz2 : w.heap.size < w2.heap.size := by have := hb2.size; simp at this; omega
      go_wp2_with fail
      refine hK.out _ _ ?_ (fun hHeld => ?_)
      · refine ⟨?_, ?_, ?_, ?_⟩ <;> (rw [hc2 _ _ (by simp; try omega)]; simp)
      clear hK K
      have kk := conv3_below hb2
      refine wpAnyH_ready (rs := [10]) (by kernel_rfl) (by simp) ?_
      refine (AllReadyH.cons rfl (fun K hK => ?_) AllReadyH.nil)
      go_simp
      refine hK.out _ _ ?_ (fun hHeld => ?_)
      · refine ⟨?_, ?_, ?_, ?_⟩ <;> (rw [hc2 _ _ (by simp; try omega)]; simp)
      clear hK K
      refine wpAnyH_ready (rs := [14]) (by kernel_rfl) (by simp) ?_
      refine (AllReadyH.cons rfl (fun K hK => ?_) AllReadyH.nil)
      go_simp
      refine hK.out _ _ ?_ (fun hHeld => ?_)
      · refine ⟨?_, ?_, ?_, ?_⟩ <;> (rw [hc2 _ _ (by simp; try omega)]; simp)
      clear hK K
      refine wpAnyH_ready (rs := [15]) (by kernel_rfl) (by simp) ?_
      refine (AllReadyH.cons rfl (fun K hK => ?_) AllReadyH.nil)
      go_simp
      refine (framed_any 44 _ _ (by decide) (by simp [nums_len]; omega)).mono ?_
      rintro e w3 ⟨rfl, hb3⟩
      obtain ⟨hc3, -⟩ := bcell hb3
      go_wp2_with fail
      refine hK.out _ _ ?_ (fun hHeld => ?_)
      · refine ⟨?_, ?_, ?_, ?_⟩ <;> (rw [hc3 _ _ (by omega), hc2 _ _ (by simp; try omega)]; simp)
      clear hK K
      refine wpAnyH_ready (rs := [16]) (by kernel_rfl) (by simp) ?_
      refine (AllReadyH.cons rfl (fun K hK => ?_) AllReadyH.nil)
      go_simp
      refine hK.out _ _ ?_ (fun hHeld => ?_)
      · refine ⟨?_, ?_, ?_, ?_⟩ <;> (rw [hc3 _ _ (by omega), hc2 _ _ (by simp; try omega)]; simp)
      clear hK K
      refine wpAnyH_ready (rs := [17]) (by kernel_rfl) (by simp) ?_
      refine (AllReadyH.cons rfl (fun K hK => ?_) AllReadyH.nil)
      go_simp
      refine hK.out _ _ ?_ (fun hHeld => ?_)
      · refine ⟨?_, ?_, ?_, ?_⟩ <;> (rw [hc3 _ _ (by omega), hc2 _ _ (by simp; try omega)]; simp)
      clear hK K
      refine wpAnyH_done (by kernel_rfl) ?_ _
      go_wp2
      go_ret2
      refine ⟨by rw [HF.out]; rfl, ?_⟩
      exact (((Below.refl _ _).alloc (Nat.le_refl _) _).alloc (by simp) _).drew.trans ((hb2.mono (by simp; omega)).trans (hb3.mono (by omega)))
  · go_simp
    refine (number_any x _ hx1 hx2).mono ?_
    rintro e w2 ⟨rfl, hb2⟩
    obtain ⟨hc2, -⟩ := bcell hb2
    have hz2 : w.heap.size < w2.heap.size := by have := hb2.size; simp at this; omega
    go_wp2_with fail
    refine hK.out _ _ ?_ (fun hHeld => ?_)
    · refine ⟨?_, ?_, ?_, ?_⟩ <;> (rw [hc2 _ _ (by simp; try omega)]; simp)
    clear hK K
    refine wpAnyH_ready (rs := [9]) (by kernel_rfl) (by simp) ?_
    refine (AllReadyH.cons rfl (fun K hK => ?_) AllReadyH.nil)
    go_simp
    refine hK.out _ _ ?_ (fun hHeld => ?_)
    · refine ⟨?_, ?_, ?_, ?_⟩ <;> (rw [World.cell?_alloc_lt _ _ _ (by simp; omega), hc2 _ _ (by simp; try omega)]; simp)
    clear hK K
    refine wpAnyH_ready (rs := [10]) (by kernel_rfl) (by simp) ?_
    refine (AllReadyH.cons rfl (fun K hK => ?_) AllReadyH.nil)
    go_simp
    refine hK.out _ _ ?_ (fun hHeld => ?_)
    · refine ⟨?_, ?_, ?_, ?_⟩ <;> (rw [World.cell?_alloc_lt _ _ _ (by simp; omega), hc2 _ _ (by simp; try omega)]; simp)
    clear hK K
    refine wpAnyH_ready (rs := [14]) (by kernel_rfl) (by simp) ?_
    refine (AllReadyH.cons rfl (fun K hK => ?_) AllReadyH.nil)
    go_simp
    refine hK.out _ _ ?_ (fun hHeld => ?_)
    · refine ⟨?_, ?_, ?_, ?_⟩ <;> (rw [World.cell?_alloc_lt _ _ _ (by simp; omega), hc2 _ _ (by simp; try omega)]; simp)
    clear hK K
    refine wpAnyH_ready (rs := [15]) (by kernel_rfl) (by simp) ?_
    refine (AllReadyH.cons rfl (fun K hK => ?_) AllReadyH.nil)
    go_simp
    refine (framed_any 44 _ _ (by decide) (by simp [nums_len]; omega)).mono ?_
    rintro e w3 ⟨rfl, hb3⟩
    obtain ⟨hc3, -⟩ := bcell hb3
    go_wp2_with fail
    refine hK.out _ _ ?_ (fun hHeld => ?_)
    · refine ⟨?_, ?_, ?_, ?_⟩ <;> (rw [hc3 _ _ (by simp; omega), World.cell?_alloc_lt _ _ _ (by simp; omega), hc2 _ _ (by simp; try omega)]; simp)
    clear hK K
    refine wpAnyH_ready (rs := [16]) (by kernel_rfl) (by simp) ?_
    refine (AllReadyH.cons rfl (fun K hK => ?_) AllReadyH.nil)
    go_simp
    refine hK.out _ _ ?_ (fun hHeld => ?_)
    · refine ⟨?_, ?_, ?_, ?_⟩ <;> (rw [hc3 _ _ (by simp; omega), World.cell?_alloc_lt _ _ _ (by simp; omega), hc2 _ _ (by simp; try omega)]; simp)
    clear hK K
    refine wpAnyH_ready (rs := [17]) (by kernel_rfl) (by simp) ?_
    refine (AllReadyH.cons rfl (fun K hK => ?_) AllReadyH.nil)
    go_simp
    refine hK.out _ _ ?_ (fun hHeld => ?_)
    · refine ⟨?_, ?_, ?_, ?_⟩ <;> (rw [hc3 _ _ (by simp; omega), World.cell?_alloc_lt _ _ _ (by simp; omega), hc2 _ _ (by simp; try omega)]; simp)
    clear hK K
    refine wpAnyH_done (by kernel_rfl) ?_ _
    go_wp2
    go_ret2
    refine ⟨by rw [HF.out]; rfl, ?_⟩
    exact (((Below.refl _ _).alloc (Nat.le_refl _) _).drew.trans (hb2.mono (by simp))).alloc (by omega) _ |>.trans (hb3.mono (by simp; omega))
end Go.Proofs.YtfpojgljgbgkkaaDoor
