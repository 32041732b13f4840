/-
  accordref.written.
-/
import Derived.Test.YtfpojgljgbgkkaaDoorEnc
namespace Go.Proofs.YtfpojgljgbgkkaaDoor
open Go.RowKit

attribute [local go_sem] bs_append bs_size nums_len sumL_len List.length_append List.length_cons List.length_nil
attribute [local go_sem ↓] Go.wp_at_zero Go.wp_at_succ

theorem conv1_at (W : World) (n : Nat) (hn : n = W.heap.size) (a : Int) : (convert 45 9 (.slice (some ⟨n, 0, none⟩) 1 1)).run Tryd.prog (W.alloc (.cells #[.int .u8 a] 5)).drew = .ok (.string (bs (nums [a]))) (W.alloc (.cells #[.int .u8 a] 5)).drew := by
  subst hn
  have h := run_convert_bytes_arg (P := Tryd.prog) (W.alloc (.cells #[.int .u8 a] 5)).drew 45 5 Tryd.underlying45 Tryd.underlying5 W.heap.size 0 1 1 [a] rfl
    (fun i hi => by
      simp only [World.cell?_drew]
      rw [World.cell?_alloc_at _ _ _ _ rfl]
      match i, hi with
      | 0, _ => rfl) 9 Tryd.underlying9
  exact h
theorem conv1_below {w w2 : World} {B : Array Value} {a : Int} (hb : Below ((w.alloc (.cells B 59)).alloc (.cells #[.int .u8 a] 5)).drew.heap.size ((w.alloc (.cells B 59)).alloc (.cells #[.int .u8 a] 5)).drew w2) :
    (convert 45 9 (.slice (some ⟨w.heap.size + 1, 0, none⟩) 1 1)).run Tryd.prog w2 = .ok (.string (bs (nums [a]))) w2 := by
  have h := run_convert_bytes_arg (P := Tryd.prog) w2 45 5 Tryd.underlying45 Tryd.underlying5 (w.heap.size + 1) 0 1 1 [a] rfl
    (fun i hi => by
      rw [hb.cell (by simp)]
      simp only [World.cell?_drew]
      rw [World.cell?_alloc_at _ _ _ _ (by simp)]
      match i, hi with
      | 0, _ => rfl) 9 Tryd.underlying9
  exact h

/-- A record in bytes. -/
def recL (k x : Int) : List UInt8 := frame 45 (nums [k] ++ txL x)

set_option maxRecDepth 100000 in
set_option maxHeartbeats 10000000 in
theorem written_any (k x : Int) (w : World) (hk1 : 1 ≤ k) (hk2 : k ≤ 5) (hx1 : 1 ≤ x) (hx2 : x ≤ 16383) :
    Calls Tryd.prog 26 #[.agg #[.int .i64 k, .int .i64 x]] w fun e w' => e = .returned (.string (bs (recL k x))) ∧ Below w.heap.size w w' := by
  have k1g := conv1
  have k1 := fun a => conv1_at (w.alloc (.cells #[.int .i64 k, .int .i64 x] 59)) (w.heap.size + 1) (by simp) a
  have hlen := (txL_len x).2
  have hcat : ¬ 9223372036854775807 < 1 + (txL x).length := by omega
  have e1 := wrap8 k (by omega) (by omega)
  have HF : Hid (bs (recL k x) = bs (frame 45 (nums [k] ++ txL x))) := rfl
  go_enter Tryd.func26, Tryd.ntmps26
  go_wp2
  refine wp_region_held_drew (S := fun w' => w'.cell? ⟨w.heap.size, 0, none⟩ = some (.int .i64 k) ∧ w'.cell? ⟨w.heap.size, 1, none⟩ = some (.int .i64 x)) (by kernel_rfl) ?_ (fun hHeld => ?_)
  · simp
  refine wpAnyH_take (i := 0) (v := .pointer (some ⟨w.heap.size, 0, none⟩)) rfl (by kernel_rfl) (by kernel_rfl) (by kernel_rfl) (fun _ _ _ h => h) (Or.inl ⟨by rfl, ?_⟩) (by assumption) ?_
  · intro w hSw; go_simp
  simp only [Act.put]
  refine wpAnyH_take (i := 1) (v := .int .i64 k) rfl (by kernel_rfl) (by kernel_rfl) (by kernel_rfl) (fun _ _ _ h => h) (Or.inl ⟨by rfl, ?_⟩) (by assumption) ?_
  · intro w hSw; go_simp
  simp only [Act.put]
  refine wpAnyH_take (i := 2) (v := .int .u8 k) rfl (by kernel_rfl) (by kernel_rfl) (by kernel_rfl) (fun _ _ _ h => h) (Or.inl ⟨by rfl, ?_⟩) (by assumption) ?_
  · intro w hSw; go_simp
  simp only [Act.put]
  refine wpAnyH_take (i := 5) (v := .pointer (some ⟨w.heap.size, 1, none⟩)) rfl (by kernel_rfl) (by kernel_rfl) (by kernel_rfl) (fun _ _ _ h => h) (Or.inl ⟨by rfl, ?_⟩) (by assumption) ?_
  · intro w hSw; go_simp
  simp only [Act.put]
  refine wpAnyH_take (i := 6) (v := .int .i64 x) rfl (by kernel_rfl) (by kernel_rfl) (by kernel_rfl) (fun _ _ _ h => h) (Or.inl ⟨by rfl, ?_⟩) (by assumption) ?_
  · intro w hSw; go_simp
  simp only [Act.put]
  refine wpAnyH_ready (rs := [3, 7]) (by kernel_rfl) (by simp) ?_
  refine AllReadyH.cons rfl (fun K hK => ?_) (AllReadyH.cons rfl (fun K hK => ?_) AllReadyH.nil)
  · go_simp
    refine hK.out _ _ ?_ (fun hHeld => ?_)
    · simp
    clear hK K
    refine wpAnyH_ready (rs := [4, 7]) (by kernel_rfl) (by simp) ?_
    refine (AllReadyH.cons rfl (fun K hK => ?_) (AllReadyH.cons rfl (fun K hK => ?_) AllReadyH.nil))
    · go_simp
      refine hK.out _ _ ?_ (fun hHeld => ?_)
      · simp
      clear hK K
      refine wpAnyH_ready (rs := [7]) (by kernel_rfl) (by simp) ?_
      refine (AllReadyH.cons rfl (fun K hK => ?_) AllReadyH.nil)
      go_simp
      refine (number_any x _ hx1 hx2).mono ?_
      rintro e w2 ⟨rfl, hb2⟩
      obtain ⟨hc2, -⟩ := bcell hb2
      have hz2 : w.heap.size < w2.heap.size := by have := hb2.size; simp at this; omega
      go_wp2_with fail
      refine hK.out _ _ ?_ (fun hHeld => ?_)
      · refine ⟨?_, ?_⟩ <;> (rw [hc2 _ _ (by simp; try omega)]; simp)
      clear hK K
      refine wpAnyH_ready (rs := [8]) (by kernel_rfl) (by simp) ?_
      refine (AllReadyH.cons rfl (fun K hK => ?_) AllReadyH.nil)
      go_simp
      refine hK.out _ _ ?_ (fun hHeld => ?_)
      · refine ⟨?_, ?_⟩ <;> (rw [hc2 _ _ (by simp; try omega)]; simp)
      clear hK K
      refine wpAnyH_ready (rs := [9]) (by kernel_rfl) (by simp) ?_
      refine (AllReadyH.cons rfl (fun K hK => ?_) AllReadyH.nil)
      go_simp
      refine (framed_any 45 _ _ (by decide) (by simp [nums_len]; omega)).mono ?_
      rintro e w3 ⟨rfl, hb3⟩
      obtain ⟨hc3, -⟩ := bcell hb3
      go_wp2_with fail
      refine hK.out _ _ ?_ (fun hHeld => ?_)
      · refine ⟨?_, ?_⟩ <;> (rw [hc3 _ _ (by omega), hc2 _ _ (by simp; try omega)]; simp)
      clear hK K
      refine wpAnyH_ready (rs := [10]) (by kernel_rfl) (by simp) ?_
      refine (AllReadyH.cons rfl (fun K hK => ?_) AllReadyH.nil)
      go_simp
      refine hK.out _ _ ?_ (fun hHeld => ?_)
      · refine ⟨?_, ?_⟩ <;> (rw [hc3 _ _ (by omega), hc2 _ _ (by simp; try omega)]; simp)
      clear hK K
      refine wpAnyH_done (by kernel_rfl) ?_ _
      go_wp2
      go_ret
      refine ⟨by rw [HF.out]; rfl, ?_⟩
      exact (((Below.refl _ _).alloc (Nat.le_refl _) _).alloc (by simp) _).drew.trans ((hb2.mono (by simp; omega)).trans (hb3.mono (by omega)))
    · go_simp
      refine (number_any x _ hx1 hx2).mono ?_
      rintro e w2 ⟨rfl, hb2⟩
      obtain ⟨hc2, -⟩ := bcell hb2
      have hz2 : w.heap.size < w2.heap.size := by have := hb2.size; simp at this; omega
      go_wp2_with fail
      refine hK.out _ _ ?_ (fun hHeld => ?_)
      · refine ⟨?_, ?_⟩ <;> (rw [hc2 _ _ (by simp; try omega)]; simp)
      clear hK K
      have kk := conv1_below hb2
      refine wpAnyH_ready (rs := [4]) (by kernel_rfl) (by simp) ?_
      refine (AllReadyH.cons rfl (fun K hK => ?_) AllReadyH.nil)
      go_simp
      refine hK.out _ _ ?_ (fun hHeld => ?_)
      · refine ⟨?_, ?_⟩ <;> (rw [hc2 _ _ (by simp; try omega)]; simp)
      clear hK K
      refine wpAnyH_ready (rs := [8]) (by kernel_rfl) (by simp) ?_
      refine (AllReadyH.cons rfl (fun K hK => ?_) AllReadyH.nil)
      go_simp
      refine hK.out _ _ ?_ (fun hHeld => ?_)
      · refine ⟨?_, ?_⟩ <;> (rw [hc2 _ _ (by simp; try omega)]; simp)
      clear hK K
      refine wpAnyH_ready (rs := [9]) (by kernel_rfl) (by simp) ?_
      refine (AllReadyH.cons rfl (fun K hK => ?_) AllReadyH.nil)
      go_simp
      refine (framed_any 45 _ _ (by decide) (by simp [nums_len]; omega)).mono ?_
      rintro e w3 ⟨rfl, hb3⟩
      obtain ⟨hc3, -⟩ := bcell hb3
      go_wp2_with fail
      refine hK.out _ _ ?_ (fun hHeld => ?_)
      · refine ⟨?_, ?_⟩ <;> (rw [hc3 _ _ (by omega), hc2 _ _ (by simp; try omega)]; simp)
      clear hK K
      refine wpAnyH_ready (rs := [10]) (by kernel_rfl) (by simp) ?_
      refine (AllReadyH.cons rfl (fun K hK => ?_) AllReadyH.nil)
      go_simp
      refine hK.out _ _ ?_ (fun hHeld => ?_)
      · refine ⟨?_, ?_⟩ <;> (rw [hc3 _ _ (by omega), hc2 _ _ (by simp; try omega)]; simp)
      clear hK K
      refine wpAnyH_done (by kernel_rfl) ?_ _
      go_wp2
      go_ret
      refine ⟨by rw [HF.out]; rfl, ?_⟩
      exact (((Below.refl _ _).alloc (Nat.le_refl _) _).alloc (by simp) _).drew.trans ((hb2.mono (by simp; omega)).trans (hb3.mono (by omega)))
  · go_simp
    refine (number_any x _ hx1 hx2).mono ?_
    rintro e w2 ⟨rfl, hb2⟩
    obtain ⟨hc2, -⟩ := bcell hb2
    have hz2 : w.heap.size < w2.heap.size := by have := hb2.size; simp at this; omega
    go_wp2_with fail
    refine hK.out _ _ ?_ (fun hHeld => ?_)
    · refine ⟨?_, ?_⟩ <;> (rw [hc2 _ _ (by simp; try omega)]; simp)
    clear hK K
    refine wpAnyH_ready (rs := [3]) (by kernel_rfl) (by simp) ?_
    refine (AllReadyH.cons rfl (fun K hK => ?_) AllReadyH.nil)
    go_simp
    refine hK.out _ _ ?_ (fun hHeld => ?_)
    · refine ⟨?_, ?_⟩ <;> (rw [World.cell?_alloc_lt _ _ _ (by simp; omega), hc2 _ _ (by simp; try omega)]; simp)
    clear hK K
    refine wpAnyH_ready (rs := [4]) (by kernel_rfl) (by simp) ?_
    refine (AllReadyH.cons rfl (fun K hK => ?_) AllReadyH.nil)
    go_simp
    refine hK.out _ _ ?_ (fun hHeld => ?_)
    · refine ⟨?_, ?_⟩ <;> (rw [World.cell?_alloc_lt _ _ _ (by simp; omega), hc2 _ _ (by simp; try omega)]; simp)
    clear hK K
    refine wpAnyH_ready (rs := [8]) (by kernel_rfl) (by simp) ?_
    refine (AllReadyH.cons rfl (fun K hK => ?_) AllReadyH.nil)
    go_simp
    refine hK.out _ _ ?_ (fun hHeld => ?_)
    · refine ⟨?_, ?_⟩ <;> (rw [World.cell?_alloc_lt _ _ _ (by simp; omega), hc2 _ _ (by simp; try omega)]; simp)
    clear hK K
    refine wpAnyH_ready (rs := [9]) (by kernel_rfl) (by simp) ?_
    refine (AllReadyH.cons rfl (fun K hK => ?_) AllReadyH.nil)
    go_simp
    refine (framed_any 45 _ _ (by decide) (by simp [nums_len]; omega)).mono ?_
    rintro e w3 ⟨rfl, hb3⟩
    obtain ⟨hc3, -⟩ := bcell hb3
    go_wp2_with fail
    refine hK.out _ _ ?_ (fun hHeld => ?_)
    · refine ⟨?_, ?_⟩ <;> (rw [hc3 _ _ (by simp; omega), World.cell?_alloc_lt _ _ _ (by simp; omega), hc2 _ _ (by simp; try omega)]; simp)
    clear hK K
    refine wpAnyH_ready (rs := [10]) (by kernel_rfl) (by simp) ?_
    refine (AllReadyH.cons rfl (fun K hK => ?_) AllReadyH.nil)
    go_simp
    refine hK.out _ _ ?_ (fun hHeld => ?_)
    · refine ⟨?_, ?_⟩ <;> (rw [hc3 _ _ (by simp; omega), World.cell?_alloc_lt _ _ _ (by simp; omega), hc2 _ _ (by simp; try omega)]; simp)
    clear hK K
    refine wpAnyH_done (by kernel_rfl) ?_ _
    go_wp2
    go_ret
    refine ⟨by rw [HF.out]; rfl, ?_⟩
    exact (((Below.refl _ _).alloc (Nat.le_refl _) _).drew.trans (hb2.mono (by simp))).alloc (by omega) _ |>.trans (hb3.mono (by simp; omega))
end Go.Proofs.YtfpojgljgbgkkaaDoor
