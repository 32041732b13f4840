import Derived.Test.YtfpojgljgbgkkaaGreatDoorPA
import Derived.Deep.RegionHeld3
import Derived.Deep.DrawnRows
/-
  The document's Encode, the program's Encode.
-/
namespace Go.Proofs.YtfpojgljgbgkkaaGreatDoor
open Go.RowKit

attribute [local go_sem] bs_append bs_size nums_len sumL_len List.length_append List.length_cons List.length_nil
attribute [local go_sem ↓] Go.wp_at_zero Go.wp_at_succ

theorem conv3_at (W : World) (n : Nat) (hn : n = W.heap.size) (a b c : Int) : (convert 238 9 (.slice (some ⟨n, 0, none⟩) 3 3)).run Tryz.prog (W.alloc (.cells #[.int .u8 a, .int .u8 b, .int .u8 c] 5)).drew = .ok (.string (bs (nums [a, b, c]))) (W.alloc (.cells #[.int .u8 a, .int .u8 b, .int .u8 c] 5)).drew := by
  subst hn
  have h := run_convert_bytes_arg (P := Tryz.prog) (W.alloc (.cells #[.int .u8 a, .int .u8 b, .int .u8 c] 5)).drew 238 5 Tryz.underlying238 Tryz.underlying5 W.heap.size 0 3 3 [a, b, c] rfl
    (fun i hi => by
      simp only [World.cell?_drew]
      rw [World.cell?_alloc_at _ _ _ _ rfl]
      match i, hi with
      | 0, _ => rfl
      | 1, _ => rfl
      | 2, _ => rfl) 9 Tryz.underlying9
  exact h
theorem conv3_below {w w2 : World} {B : Array Value} {a b c : Int} (hb : Below ((w.alloc (.cells B 64)).alloc (.cells #[.int .u8 a, .int .u8 b, .int .u8 c] 5)).drew.heap.size ((w.alloc (.cells B 64)).alloc (.cells #[.int .u8 a, .int .u8 b, .int .u8 c] 5)).drew w2) :
    (convert 238 9 (.slice (some ⟨w.heap.size + 1, 0, none⟩) 3 3)).run Tryz.prog w2 = .ok (.string (bs (nums [a, b, c]))) w2 := by
  have h := run_convert_bytes_arg (P := Tryz.prog) w2 238 5 Tryz.underlying238 Tryz.underlying5 (w.heap.size + 1) 0 3 3 [a, b, c] rfl
    (fun i hi => by
      rw [hb.cell (by simp)]
      simp only [World.cell?_drew]
      rw [World.cell?_alloc_at _ _ _ _ (by simp)]
      match i, hi with
      | 0, _ => rfl
      | 1, _ => rfl
      | 2, _ => rfl) 9 Tryz.underlying9
  exact h
theorem wrap8 (k : Int) (h0 : 0 ≤ k) (h1 : k < 256) : IntKind.u8.wrap k = k := by rw [IntKind.wrap_u8]; omega

set_option maxRecDepth 100000 in
set_option maxHeartbeats 10000000 in
theorem refEncode_yes (k f t x : Int) (w : World) (h : endsB k f t = true) (hx : rightTxB x = true) :
    Calls Tryz.prog 157 #[.agg #[.int .i64 k, .int .i64 f, .int .i64 t, .int .i64 x]] w fun e w' => e = .returned (.tuple #[.string (bs (msgL k f t x)), .int .i64 0]) ∧ Below w.heap.size w w' := by
  have k3g := conv3
  have k3 := fun a b c => conv3_at (w.alloc (.cells #[.int .i64 k, .int .i64 f, .int .i64 t, .int .i64 x] 64)) (w.heap.size + 1) (by simp) a b c
  simp only [rightTxB, decide_eq_true_eq] at hx
  obtain ⟨hx1, hx2⟩ := hx
  simp only [endsB, rightNodeB, Bool.and_eq_true, decide_eq_true_eq] at h
  obtain ⟨⟨⟨hk1, hk2⟩, hf1, hf2⟩, ht1, ht2⟩ := h
  have hlen := (txL_len x).2
  have hcat : ¬ 9223372036854775807 < 3 + (txL x).length := by omega
  have e1 := wrap8 k (by omega) (by omega)
  have e2 := wrap8 f (by omega) (by omega)
  have e3 := wrap8 t (by omega) (by omega)
  have HF : Hid (bs (msgL k f t x) = bs (frame 44 (nums [k, f, t] ++ txL x))) := rfl
  go_enter Tryz.func157, Tryz.ntmps157
  go_wp2
  refine wp_region_held_drew (S := fun w' => w'.cell? ⟨w.heap.size, 0, none⟩ = some (.int .i64 k) ∧ w'.cell? ⟨w.heap.size, 1, none⟩ = some (.int .i64 f) ∧ w'.cell? ⟨w.heap.size, 2, none⟩ = some (.int .i64 t) ∧ w'.cell? ⟨w.heap.size, 3, none⟩ = some (.int .i64 x)) (by kernel_rfl) ?_ (fun hHeld => ?_)
  · simp
  refine wpAnyH_take (i := 0) (v := .pointer (some ⟨w.heap.size, 0, none⟩)) rfl (by kernel_rfl) (by kernel_rfl) (by kernel_rfl) (fun _ _ _ h => h) (Or.inl ⟨by rfl, ?_⟩) (by assumption) ?_
  · intro w hSw; go_simp
  simp only [Act.put]
  refine wpAnyH_take (i := 1) (v := .int .i64 k) rfl (by kernel_rfl) (by kernel_rfl) (by kernel_rfl) (fun _ _ _ h => h) (Or.inl ⟨by rfl, ?_⟩) (by assumption) ?_
  · intro w hSw; go_simp
  simp only [Act.put]
  refine wpAnyH_take (i := 2) (v := .int .u8 k) rfl (by kernel_rfl) (by kernel_rfl) (by kernel_rfl) (fun _ _ _ h => h) (Or.inl ⟨by rfl, ?_⟩) (by assumption) ?_
  · intro w hSw; go_simp
  simp only [Act.put]
  refine wpAnyH_take (i := 3) (v := .pointer (some ⟨w.heap.size, 1, none⟩)) rfl (by kernel_rfl) (by kernel_rfl) (by kernel_rfl) (fun _ _ _ h => h) (Or.inl ⟨by rfl, ?_⟩) (by assumption) ?_
  · intro w hSw; go_simp
  simp only [Act.put]
  refine wpAnyH_take (i := 4) (v := .int .i64 f) rfl (by kernel_rfl) (by kernel_rfl) (by kernel_rfl) (fun _ _ _ h => h) (Or.inl ⟨by rfl, ?_⟩) (by assumption) ?_
  · intro w hSw; go_simp
  simp only [Act.put]
  refine wpAnyH_take (i := 5) (v := .int .u8 f) rfl (by kernel_rfl) (by kernel_rfl) (by kernel_rfl) (fun _ _ _ h => h) (Or.inl ⟨by rfl, ?_⟩) (by assumption) ?_
  · intro w hSw; go_simp
  simp only [Act.put]
  refine wpAnyH_take (i := 6) (v := .pointer (some ⟨w.heap.size, 2, none⟩)) rfl (by kernel_rfl) (by kernel_rfl) (by kernel_rfl) (fun _ _ _ h => h) (Or.inl ⟨by rfl, ?_⟩) (by assumption) ?_
  · intro w hSw; go_simp
  simp only [Act.put]
  refine wpAnyH_take (i := 7) (v := .int .i64 t) rfl (by kernel_rfl) (by kernel_rfl) (by kernel_rfl) (fun _ _ _ h => h) (Or.inl ⟨by rfl, ?_⟩) (by assumption) ?_
  · intro w hSw; go_simp
  simp only [Act.put]
  refine wpAnyH_take (i := 8) (v := .int .u8 t) rfl (by kernel_rfl) (by kernel_rfl) (by kernel_rfl) (fun _ _ _ h => h) (Or.inl ⟨by rfl, ?_⟩) (by assumption) ?_
  · intro w hSw; go_simp
  simp only [Act.put]
  refine wpAnyH_take (i := 11) (v := .pointer (some ⟨w.heap.size, 3, none⟩)) rfl (by kernel_rfl) (by kernel_rfl) (by kernel_rfl) (fun _ _ _ h => h) (Or.inl ⟨by rfl, ?_⟩) (by assumption) ?_
  · intro w hSw; go_simp
  simp only [Act.put]
  refine wpAnyH_take (i := 12) (v := .int .i64 x) rfl (by kernel_rfl) (by kernel_rfl) (by kernel_rfl) (fun _ _ _ h => h) (Or.inl ⟨by rfl, ?_⟩) (by assumption) ?_
  · intro w hSw; go_simp
  simp only [Act.put]
  refine wpAnyH_ready (rs := [9, 13]) (by kernel_rfl) (by simp) ?_
  refine AllReadyH.cons rfl (fun K hK => ?_) (AllReadyH.cons rfl (fun K hK => ?_) AllReadyH.nil)
  · go_simp
    refine hK.out _ _ ?_ (fun hHeld => ?_)
    · simp
    clear hK K
    refine wpAnyH_ready (rs := [10, 13]) (by kernel_rfl) (by simp) ?_
    refine (AllReadyH.cons rfl (fun K hK => ?_) (AllReadyH.cons rfl (fun K hK => ?_) AllReadyH.nil))
    · go_simp
      refine hK.out _ _ ?_ (fun hHeld => ?_)
      · simp
      clear hK K
      refine wpAnyH_ready (rs := [13]) (by kernel_rfl) (by simp) ?_
      refine (AllReadyH.cons rfl (fun K hK => ?_) AllReadyH.nil)
      go_simp
      refine (number_any x _ hx1 hx2).mono ?_
      rintro e w2 ⟨rfl, hb2⟩
      obtain ⟨hc2, -⟩ := bcell hb2
      have hz2 : w.heap.size < w2.heap.size := by have := hb2.size; simp at this; omega
      go_wp2_with fail
      refine hK.out _ _ ?_ (fun hHeld => ?_)
      · refine ⟨?_, ?_, ?_, ?_⟩ <;> (rw [hc2 _ _ (by simp; try omega)]; simp)
      clear hK K
      refine wpAnyH_ready (rs := [14]) (by kernel_rfl) (by simp) ?_
      refine (AllReadyH.cons rfl (fun K hK => ?_) AllReadyH.nil)
      go_simp
      refine hK.out _ _ ?_ (fun hHeld => ?_)
      · refine ⟨?_, ?_, ?_, ?_⟩ <;> (rw [hc2 _ _ (by simp; try omega)]; simp)
      clear hK K
      refine wpAnyH_ready (rs := [15]) (by kernel_rfl) (by simp) ?_
      refine (AllReadyH.cons rfl (fun K hK => ?_) AllReadyH.nil)
      go_simp
      refine (framed_any 44 _ _ (by decide) (by simp [nums_len]; omega)).mono ?_
      rintro e w3 ⟨rfl, hb3⟩
      obtain ⟨hc3, -⟩ := bcell hb3
      go_wp2_with fail
      refine hK.out _ _ ?_ (fun hHeld => ?_)
      · refine ⟨?_, ?_, ?_, ?_⟩ <;> (rw [hc3 _ _ (by omega), hc2 _ _ (by simp; try omega)]; simp)
      clear hK K
      refine wpAnyH_ready (rs := [16]) (by kernel_rfl) (by simp) ?_
      refine (AllReadyH.cons rfl (fun K hK => ?_) AllReadyH.nil)
      go_simp
      refine hK.out _ _ ?_ (fun hHeld => ?_)
      · refine ⟨?_, ?_, ?_, ?_⟩ <;> (rw [hc3 _ _ (by omega), hc2 _ _ (by simp; try omega)]; simp)
      clear hK K
      refine wpAnyH_ready (rs := [17]) (by kernel_rfl) (by simp) ?_
      refine (AllReadyH.cons rfl (fun K hK => ?_) AllReadyH.nil)
      go_simp
      refine hK.out _ _ ?_ (fun hHeld => ?_)
      · refine ⟨?_, ?_, ?_, ?_⟩ <;> (rw [hc3 _ _ (by omega), hc2 _ _ (by simp; try omega)]; simp)
      clear hK K
      refine wpAnyH_done (by kernel_rfl) ?_ _
      go_wp2
      go_ret2
      refine ⟨by rw [HF.out]; rfl, ?_⟩
      exact (((Below.refl _ _).alloc (Nat.le_refl _) _).alloc (by simp) _).drew.trans ((hb2.mono (by simp; omega)).trans (hb3.mono (by omega)))
    · go_simp
      refine (number_any x _ hx1 hx2).mono ?_
      rintro e w2 ⟨rfl, hb2⟩
      obtain ⟨hc2, -⟩ := bcell hb2
      have hz2 : w.heap.size < w2.heap.size := by have := hb2.size; simp at this; omega
      go_wp2_with fail
      refine hK.out _ _ ?_ (fun hHeld => ?_)
      · refine ⟨?_, ?_, ?_, ?_⟩ <;> (rw [hc2 _ _ (by simp; try omega)]; simp)
      clear hK K
      have kk := conv3_below hb2
      refine wpAnyH_ready (rs := [10]) (by kernel_rfl) (by simp) ?_
      refine (AllReadyH.cons rfl (fun K hK => ?_) AllReadyH.nil)
      go_simp
      refine hK.out _ _ ?_ (fun hHeld => ?_)
      · refine ⟨?_, ?_, ?_, ?_⟩ <;> (rw [hc2 _ _ (by simp; try omega)]; simp)
      clear hK K
      refine wpAnyH_ready (rs := [14]) (by kernel_rfl) (by simp) ?_
      refine (AllReadyH.cons rfl (fun K hK => ?_) AllReadyH.nil)
      go_simp
      refine hK.out _ _ ?_ (fun hHeld => ?_)
      · refine ⟨?_, ?_, ?_, ?_⟩ <;> (rw [hc2 _ _ (by simp; try omega)]; simp)
      clear hK K
      refine wpAnyH_ready (rs := [15]) (by kernel_rfl) (by simp) ?_
      refine (AllReadyH.cons rfl (fun K hK => ?_) AllReadyH.nil)
      go_simp
      refine (framed_any 44 _ _ (by decide) (by simp [nums_len]; omega)).mono ?_
      rintro e w3 ⟨rfl, hb3⟩
      obtain ⟨hc3, -⟩ := bcell hb3
      go_wp2_with fail
      refine hK.out _ _ ?_ (fun hHeld => ?_)
      · refine ⟨?_, ?_, ?_, ?_⟩ <;> (rw [hc3 _ _ (by omega), hc2 _ _ (by simp; try omega)]; simp)
      clear hK K
      refine wpAnyH_ready (rs := [16]) (by kernel_rfl) (by simp) ?_
      refine (AllReadyH.cons rfl (fun K hK => ?_) AllReadyH.nil)
      go_simp
      refine hK.out _ _ ?_ (fun hHeld => ?_)
      · refine ⟨?_, ?_, ?_, ?_⟩ <;> (rw [hc3 _ _ (by omega), hc2 _ _ (by simp; try omega)]; simp)
      clear hK K
      refine wpAnyH_ready (rs := [17]) (by kernel_rfl) (by simp) ?_
      refine (AllReadyH.cons rfl (fun K hK => ?_) AllReadyH.nil)
      go_simp
      refine hK.out _ _ ?_ (fun hHeld => ?_)
      · refine ⟨?_, ?_, ?_, ?_⟩ <;> (rw [hc3 _ _ (by omega), hc2 _ _ (by simp; try omega)]; simp)
      clear hK K
      refine wpAnyH_done (by kernel_rfl) ?_ _
      go_wp2
      go_ret2
      refine ⟨by rw [HF.out]; rfl, ?_⟩
      exact (((Below.refl _ _).alloc (Nat.le_refl _) _).alloc (by simp) _).drew.trans ((hb2.mono (by simp; omega)).trans (hb3.mono (by omega)))
  · go_simp
    refine (number_any x _ hx1 hx2).mono ?_
    rintro e w2 ⟨rfl, hb2⟩
    obtain ⟨hc2, -⟩ := bcell hb2
    have hz2 : w.heap.size < w2.heap.size := by have := hb2.size; simp at this; omega
    go_wp2_with fail
    refine hK.out _ _ ?_ (fun hHeld => ?_)
    · refine ⟨?_, ?_, ?_, ?_⟩ <;> (rw [hc2 _ _ (by simp; try omega)]; simp)
    clear hK K
    refine wpAnyH_ready (rs := [9]) (by kernel_rfl) (by simp) ?_
    refine (AllReadyH.cons rfl (fun K hK => ?_) AllReadyH.nil)
    go_simp
    refine hK.out _ _ ?_ (fun hHeld => ?_)
    · refine ⟨?_, ?_, ?_, ?_⟩ <;> (rw [World.cell?_alloc_lt _ _ _ (by simp; omega), hc2 _ _ (by simp; try omega)]; simp)
    clear hK K
    refine wpAnyH_ready (rs := [10]) (by kernel_rfl) (by simp) ?_
    refine (AllReadyH.cons rfl (fun K hK => ?_) AllReadyH.nil)
    go_simp
    refine hK.out _ _ ?_ (fun hHeld => ?_)
    · refine ⟨?_, ?_, ?_, ?_⟩ <;> (rw [World.cell?_alloc_lt _ _ _ (by simp; omega), hc2 _ _ (by simp; try omega)]; simp)
    clear hK K
    refine wpAnyH_ready (rs := [14]) (by kernel_rfl) (by simp) ?_
    refine (AllReadyH.cons rfl (fun K hK => ?_) AllReadyH.nil)
    go_simp
    refine hK.out _ _ ?_ (fun hHeld => ?_)
    · refine ⟨?_, ?_, ?_, ?_⟩ <;> (rw [World.cell?_alloc_lt _ _ _ (by simp; omega), hc2 _ _ (by simp; try omega)]; simp)
    clear hK K
    refine wpAnyH_ready (rs := [15]) (by kernel_rfl) (by simp) ?_
    refine (AllReadyH.cons rfl (fun K hK => ?_) AllReadyH.nil)
    go_simp
    refine (framed_any 44 _ _ (by decide) (by simp [nums_len]; omega)).mono ?_
    rintro e w3 ⟨rfl, hb3⟩
    obtain ⟨hc3, -⟩ := bcell hb3
    go_wp2_with fail
    refine hK.out _ _ ?_ (fun hHeld => ?_)
    · refine ⟨?_, ?_, ?_, ?_⟩ <;> (rw [hc3 _ _ (by simp; omega), World.cell?_alloc_lt _ _ _ (by simp; omega), hc2 _ _ (by simp; try omega)]; simp)
    clear hK K
    refine wpAnyH_ready (rs := [16]) (by kernel_rfl) (by simp) ?_
    refine (AllReadyH.cons rfl (fun K hK => ?_) AllReadyH.nil)
    go_simp
    refine hK.out _ _ ?_ (fun hHeld => ?_)
    · refine ⟨?_, ?_, ?_, ?_⟩ <;> (rw [hc3 _ _ (by simp; omega), World.cell?_alloc_lt _ _ _ (by simp; omega), hc2 _ _ (by simp; try omega)]; simp)
    clear hK K
    refine wpAnyH_ready (rs := [17]) (by kernel_rfl) (by simp) ?_
    refine (AllReadyH.cons rfl (fun K hK => ?_) AllReadyH.nil)
    go_simp
    refine hK.out _ _ ?_ (fun hHeld => ?_)
    · refine ⟨?_, ?_, ?_, ?_⟩ <;> (rw [hc3 _ _ (by simp; omega), World.cell?_alloc_lt _ _ _ (by simp; omega), hc2 _ _ (by simp; try omega)]; simp)
    clear hK K
    refine wpAnyH_done (by kernel_rfl) ?_ _
    go_wp2
    go_ret2
    refine ⟨by rw [HF.out]; rfl, ?_⟩
    exact (((Below.refl _ _).alloc (Nat.le_refl _) _).drew.trans (hb2.mono (by simp))).alloc (by omega) _ |>.trans (hb3.mono (by simp; omega))
end Go.Proofs.YtfpojgljgbgkkaaGreatDoor

/-
  accordref.written.
-/
namespace Go.Proofs.YtfpojgljgbgkkaaGreatDoor
open Go.RowKit

attribute [local go_sem] bs_append bs_size nums_len sumL_len List.length_append List.length_cons List.length_nil
attribute [local go_sem ↓] Go.wp_at_zero Go.wp_at_succ

theorem conv1_at (W : World) (n : Nat) (hn : n = W.heap.size) (a : Int) : (convert 238 9 (.slice (some ⟨n, 0, none⟩) 1 1)).run Tryz.prog (W.alloc (.cells #[.int .u8 a] 5)).drew = .ok (.string (bs (nums [a]))) (W.alloc (.cells #[.int .u8 a] 5)).drew := by
  subst hn
  have h := run_convert_bytes_arg (P := Tryz.prog) (W.alloc (.cells #[.int .u8 a] 5)).drew 238 5 Tryz.underlying238 Tryz.underlying5 W.heap.size 0 1 1 [a] rfl
    (fun i hi => by
      simp only [World.cell?_drew]
      rw [World.cell?_alloc_at _ _ _ _ rfl]
      match i, hi with
      | 0, _ => rfl) 9 Tryz.underlying9
  exact h
theorem conv1_below {w w2 : World} {B : Array Value} {a : Int} (hb : Below ((w.alloc (.cells B 146)).alloc (.cells #[.int .u8 a] 5)).drew.heap.size ((w.alloc (.cells B 146)).alloc (.cells #[.int .u8 a] 5)).drew w2) :
    (convert 238 9 (.slice (some ⟨w.heap.size + 1, 0, none⟩) 1 1)).run Tryz.prog w2 = .ok (.string (bs (nums [a]))) w2 := by
  have h := run_convert_bytes_arg (P := Tryz.prog) w2 238 5 Tryz.underlying238 Tryz.underlying5 (w.heap.size + 1) 0 1 1 [a] rfl
    (fun i hi => by
      rw [hb.cell (by simp)]
      simp only [World.cell?_drew]
      rw [World.cell?_alloc_at _ _ _ _ (by simp)]
      match i, hi with
      | 0, _ => rfl) 9 Tryz.underlying9
  exact h

/-- A record in bytes. -/
def recL (k x : Int) : List UInt8 := frame 45 (nums [k] ++ txL x)

set_option maxRecDepth 100000 in
set_option maxHeartbeats 10000000 in
theorem written_any (k x : Int) (w : World) (hk1 : 1 ≤ k) (hk2 : k ≤ 5) (hx1 : 1 ≤ x) (hx2 : x ≤ 16383) :
    Calls Tryz.prog 153 #[.agg #[.int .i64 k, .int .i64 x]] w fun e w' => e = .returned (.string (bs (recL k x))) ∧ Below w.heap.size w w' := by
  have k1g := conv1
  have k1 := fun a => conv1_at (w.alloc (.cells #[.int .i64 k, .int .i64 x] 146)) (w.heap.size + 1) (by simp) a
  have hlen := (txL_len x).2
  have hcat : ¬ 9223372036854775807 < 1 + (txL x).length := by omega
  have e1 := wrap8 k (by omega) (by omega)
  have HF : Hid (bs (recL k x) = bs (frame 45 (nums [k] ++ txL x))) := rfl
  go_enter Tryz.func153, Tryz.ntmps153
  go_wp2
  refine wp_region_held_drew (S := fun w' => w'.cell? ⟨w.heap.size, 0, none⟩ = some (.int .i64 k) ∧ w'.cell? ⟨w.heap.size, 1, none⟩ = some (.int .i64 x)) (by kernel_rfl) ?_ (fun hHeld => ?_)
  · simp
  refine wpAnyH_take (i := 0) (v := .pointer (some ⟨w.heap.size, 0, none⟩)) rfl (by kernel_rfl) (by kernel_rfl) (by kernel_rfl) (fun _ _ _ h => h) (Or.inl ⟨by rfl, ?_⟩) (by assumption) ?_
  · intro w hSw; go_simp
  simp only [Act.put]
  refine wpAnyH_take (i := 1) (v := .int .i64 k) rfl (by kernel_rfl) (by kernel_rfl) (by kernel_rfl) (fun _ _ _ h => h) (Or.inl ⟨by rfl, ?_⟩) (by assumption) ?_
  · intro w hSw; go_simp
  simp only [Act.put]
  refine wpAnyH_take (i := 2) (v := .int .u8 k) rfl (by kernel_rfl) (by kernel_rfl) (by kernel_rfl) (fun _ _ _ h => h) (Or.inl ⟨by rfl, ?_⟩) (by assumption) ?_
  · intro w hSw; go_simp
  simp only [Act.put]
  refine wpAnyH_take (i := 5) (v := .pointer (some ⟨w.heap.size, 1, none⟩)) rfl (by kernel_rfl) (by kernel_rfl) (by kernel_rfl) (fun _ _ _ h => h) (Or.inl ⟨by rfl, ?_⟩) (by assumption) ?_
  · intro w hSw; go_simp
  simp only [Act.put]
  refine wpAnyH_take (i := 6) (v := .int .i64 x) rfl (by kernel_rfl) (by kernel_rfl) (by kernel_rfl) (fun _ _ _ h => h) (Or.inl ⟨by rfl, ?_⟩) (by assumption) ?_
  · intro w hSw; go_simp
  simp only [Act.put]
  refine wpAnyH_ready (rs := [3, 7]) (by kernel_rfl) (by simp) ?_
  refine AllReadyH.cons rfl (fun K hK => ?_) (AllReadyH.cons rfl (fun K hK => ?_) AllReadyH.nil)
  · go_simp
    refine hK.out _ _ ?_ (fun hHeld => ?_)
    · simp
    clear hK K
    refine wpAnyH_ready (rs := [4, 7]) (by kernel_rfl) (by simp) ?_
    refine (AllReadyH.cons rfl (fun K hK => ?_) (AllReadyH.cons rfl (fun K hK => ?_) AllReadyH.nil))
    · go_simp
      refine hK.out _ _ ?_ (fun hHeld => ?_)
      · simp
      clear hK K
      refine wpAnyH_ready (rs := [7]) (by kernel_rfl) (by simp) ?_
      refine (AllReadyH.cons rfl (fun K hK => ?_) AllReadyH.nil)
      go_simp
      refine (number_any x _ hx1 hx2).mono ?_
      rintro e w2 ⟨rfl, hb2⟩
      obtain ⟨hc2, -⟩ := bcell hb2
      have hz2 : w.heap.size < w2.heap.size := by have := hb2.size; simp at this; omega
      go_wp2_with fail
      refine hK.out _ _ ?_ (fun hHeld => ?_)
      · refine ⟨?_, ?_⟩ <;> (rw [hc2 _ _ (by simp; try omega)]; simp)
      clear hK K
      refine wpAnyH_ready (rs := [8]) (by kernel_rfl) (by simp) ?_
      refine (AllReadyH.cons rfl (fun K hK => ?_) AllReadyH.nil)
      go_simp
      refine hK.out _ _ ?_ (fun hHeld => ?_)
      · refine ⟨?_, ?_⟩ <;> (rw [hc2 _ _ (by simp; try omega)]; simp)
      clear hK K
      refine wpAnyH_ready (rs := [9]) (by kernel_rfl) (by simp) ?_
      refine (AllReadyH.cons rfl (fun K hK => ?_) AllReadyH.nil)
      go_simp
      refine (framed_any 45 _ _ (by decide) (by simp [nums_len]; omega)).mono ?_
      rintro e w3 ⟨rfl, hb3⟩
      obtain ⟨hc3, -⟩ := bcell hb3
      go_wp2_with fail
      refine hK.out _ _ ?_ (fun hHeld => ?_)
      · refine ⟨?_, ?_⟩ <;> (rw [hc3 _ _ (by omega), hc2 _ _ (by simp; try omega)]; simp)
      clear hK K
      refine wpAnyH_ready (rs := [10]) (by kernel_rfl) (by simp) ?_
      refine (AllReadyH.cons rfl (fun K hK => ?_) AllReadyH.nil)
      go_simp
      refine hK.out _ _ ?_ (fun hHeld => ?_)
      · refine ⟨?_, ?_⟩ <;> (rw [hc3 _ _ (by omega), hc2 _ _ (by simp; try omega)]; simp)
      clear hK K
      refine wpAnyH_done (by kernel_rfl) ?_ _
      go_wp2
      go_ret
      refine ⟨by rw [HF.out]; rfl, ?_⟩
      exact (((Below.refl _ _).alloc (Nat.le_refl _) _).alloc (by simp) _).drew.trans ((hb2.mono (by simp; omega)).trans (hb3.mono (by omega)))
    · go_simp
      refine (number_any x _ hx1 hx2).mono ?_
      rintro e w2 ⟨rfl, hb2⟩
      obtain ⟨hc2, -⟩ := bcell hb2
      have hz2 : w.heap.size < w2.heap.size := by have := hb2.size; simp at this; omega
      go_wp2_with fail
      refine hK.out _ _ ?_ (fun hHeld => ?_)
      · refine ⟨?_, ?_⟩ <;> (rw [hc2 _ _ (by simp; try omega)]; simp)
      clear hK K
      have kk := conv1_below hb2
      refine wpAnyH_ready (rs := [4]) (by kernel_rfl) (by simp) ?_
      refine (AllReadyH.cons rfl (fun K hK => ?_) AllReadyH.nil)
      go_simp
      refine hK.out _ _ ?_ (fun hHeld => ?_)
      · refine ⟨?_, ?_⟩ <;> (rw [hc2 _ _ (by simp; try omega)]; simp)
      clear hK K
      refine wpAnyH_ready (rs := [8]) (by kernel_rfl) (by simp) ?_
      refine (AllReadyH.cons rfl (fun K hK => ?_) AllReadyH.nil)
      go_simp
      refine hK.out _ _ ?_ (fun hHeld => ?_)
      · refine ⟨?_, ?_⟩ <;> (rw [hc2 _ _ (by simp; try omega)]; simp)
      clear hK K
      refine wpAnyH_ready (rs := [9]) (by kernel_rfl) (by simp) ?_
      refine (AllReadyH.cons rfl (fun K hK => ?_) AllReadyH.nil)
      go_simp
      refine (framed_any 45 _ _ (by decide) (by simp [nums_len]; omega)).mono ?_
      rintro e w3 ⟨rfl, hb3⟩
      obtain ⟨hc3, -⟩ := bcell hb3
      go_wp2_with fail
      refine hK.out _ _ ?_ (fun hHeld => ?_)
      · refine ⟨?_, ?_⟩ <;> (rw [hc3 _ _ (by omega), hc2 _ _ (by simp; try omega)]; simp)
      clear hK K
      refine wpAnyH_ready (rs := [10]) (by kernel_rfl) (by simp) ?_
      refine (AllReadyH.cons rfl (fun K hK => ?_) AllReadyH.nil)
      go_simp
      refine hK.out _ _ ?_ (fun hHeld => ?_)
      · refine ⟨?_, ?_⟩ <;> (rw [hc3 _ _ (by omega), hc2 _ _ (by simp; try omega)]; simp)
      clear hK K
      refine wpAnyH_done (by kernel_rfl) ?_ _
      go_wp2
      go_ret
      refine ⟨by rw [HF.out]; rfl, ?_⟩
      exact (((Below.refl _ _).alloc (Nat.le_refl _) _).alloc (by simp) _).drew.trans ((hb2.mono (by simp; omega)).trans (hb3.mono (by omega)))
  · go_simp
    refine (number_any x _ hx1 hx2).mono ?_
    rintro e w2 ⟨rfl, hb2⟩
    obtain ⟨hc2, -⟩ := bcell hb2
    have hz2 : w.heap.size < w2.heap.size := by have := hb2.size; simp at this; omega
    go_wp2_with fail
    refine hK.out _ _ ?_ (fun hHeld => ?_)
    · refine ⟨?_, ?_⟩ <;> (rw [hc2 _ _ (by simp; try omega)]; simp)
    clear hK K
    refine wpAnyH_ready (rs := [3]) (by kernel_rfl) (by simp) ?_
    refine (AllReadyH.cons rfl (fun K hK => ?_) AllReadyH.nil)
    go_simp
    refine hK.out _ _ ?_ (fun hHeld => ?_)
    · refine ⟨?_, ?_⟩ <;> (rw [World.cell?_alloc_lt _ _ _ (by simp; omega), hc2 _ _ (by simp; try omega)]; simp)
    clear hK K
    refine wpAnyH_ready (rs := [4]) (by kernel_rfl) (by simp) ?_
    refine (AllReadyH.cons rfl (fun K hK => ?_) AllReadyH.nil)
    go_simp
    refine hK.out _ _ ?_ (fun hHeld => ?_)
    · refine ⟨?_, ?_⟩ <;> (rw [World.cell?_alloc_lt _ _ _ (by simp; omega), hc2 _ _ (by simp; try omega)]; simp)
    clear hK K
    refine wpAnyH_ready (rs := [8]) (by kernel_rfl) (by simp) ?_
    refine (AllReadyH.cons rfl (fun K hK => ?_) AllReadyH.nil)
    go_simp
    refine hK.out _ _ ?_ (fun hHeld => ?_)
    · refine ⟨?_, ?_⟩ <;> (rw [World.cell?_alloc_lt _ _ _ (by simp; omega), hc2 _ _ (by simp; try omega)]; simp)
    clear hK K
    refine wpAnyH_ready (rs := [9]) (by kernel_rfl) (by simp) ?_
    refine (AllReadyH.cons rfl (fun K hK => ?_) AllReadyH.nil)
    go_simp
    refine (framed_any 45 _ _ (by decide) (by simp [nums_len]; omega)).mono ?_
    rintro e w3 ⟨rfl, hb3⟩
    obtain ⟨hc3, -⟩ := bcell hb3
    go_wp2_with fail
    refine hK.out _ _ ?_ (fun hHeld => ?_)
    · refine ⟨?_, ?_⟩ <;> (rw [hc3 _ _ (by simp; omega), World.cell?_alloc_lt _ _ _ (by simp; omega), hc2 _ _ (by simp; try omega)]; simp)
    clear hK K
    refine wpAnyH_ready (rs := [10]) (by kernel_rfl) (by simp) ?_
    refine (AllReadyH.cons rfl (fun K hK => ?_) AllReadyH.nil)
    go_simp
    refine hK.out _ _ ?_ (fun hHeld => ?_)
    · refine ⟨?_, ?_⟩ <;> (rw [hc3 _ _ (by simp; omega), World.cell?_alloc_lt _ _ _ (by simp; omega), hc2 _ _ (by simp; try omega)]; simp)
    clear hK K
    refine wpAnyH_done (by kernel_rfl) ?_ _
    go_wp2
    go_ret
    refine ⟨by rw [HF.out]; rfl, ?_⟩
    exact (((Below.refl _ _).alloc (Nat.le_refl _) _).drew.trans (hb2.mono (by simp))).alloc (by omega) _ |>.trans (hb3.mono (by simp; omega))
end Go.Proofs.YtfpojgljgbgkkaaGreatDoor

/-
  wire.WriteRecord.
-/
namespace Go.Proofs.YtfpojgljgbgkkaaGreatDoor
open Go.RowKit

attribute [local go_sem] bs_append bs_size nums_len sumL_len List.length_append List.length_cons List.length_nil
attribute [local go_sem ↓] Go.wp_at_zero Go.wp_at_succ

set_option maxRecDepth 100000 in
set_option maxHeartbeats 10000000 in
theorem writeRecord_any (k x : Int) (w : World) (hk1 : 1 ≤ k) (hk2 : k ≤ 5) (hx1 : 1 ≤ x) (hx2 : x ≤ 16383) :
    Calls Tryz.prog 163 #[.agg #[.int .i64 k, .int .i64 x]] w fun e w' => e = .returned (.string (bs (recL k x))) ∧ Below w.heap.size w w' := by
  have k1g := conv1
  have k1 := fun a => conv1_at (w.alloc (.cells #[.int .i64 k, .int .i64 x] 146)) (w.heap.size + 1) (by simp) a
  have hlen := (txL_len x).2
  have hcat : ¬ 9223372036854775807 < 1 + (txL x).length := by omega
  have e1 := wrap8 k (by omega) (by omega)
  have HF : Hid (bs (recL k x) = bs (frame 45 (nums [k] ++ txL x))) := rfl
  go_enter Tryz.func163, Tryz.ntmps163
  go_wp2
  refine wp_region_held_drew (S := fun w' => w'.cell? ⟨w.heap.size, 0, none⟩ = some (.int .i64 k) ∧ w'.cell? ⟨w.heap.size, 1, none⟩ = some (.int .i64 x)) (by kernel_rfl) ?_ (fun hHeld => ?_)
  · simp
  refine wpAnyH_take (i := 0) (v := .pointer (some ⟨w.heap.size, 0, none⟩)) rfl (by kernel_rfl) (by kernel_rfl) (by kernel_rfl) (fun _ _ _ h => h) (Or.inl ⟨by rfl, ?_⟩) (by assumption) ?_
  · intro w hSw; go_simp
  simp only [Act.put]
  refine wpAnyH_take (i := 1) (v := .int .i64 k) rfl (by kernel_rfl) (by kernel_rfl) (by kernel_rfl) (fun _ _ _ h => h) (Or.inl ⟨by rfl, ?_⟩) (by assumption) ?_
  · intro w hSw; go_simp
  simp only [Act.put]
  refine wpAnyH_take (i := 2) (v := .int .u8 k) rfl (by kernel_rfl) (by kernel_rfl) (by kernel_rfl) (fun _ _ _ h => h) (Or.inl ⟨by rfl, ?_⟩) (by assumption) ?_
  · intro w hSw; go_simp
  simp only [Act.put]
  refine wpAnyH_take (i := 5) (v := .pointer (some ⟨w.heap.size, 1, none⟩)) rfl (by kernel_rfl) (by kernel_rfl) (by kernel_rfl) (fun _ _ _ h => h) (Or.inl ⟨by rfl, ?_⟩) (by assumption) ?_
  · intro w hSw; go_simp
  simp only [Act.put]
  refine wpAnyH_take (i := 6) (v := .int .i64 x) rfl (by kernel_rfl) (by kernel_rfl) (by kernel_rfl) (fun _ _ _ h => h) (Or.inl ⟨by rfl, ?_⟩) (by assumption) ?_
  · intro w hSw; go_simp
  simp only [Act.put]
  refine wpAnyH_ready (rs := [3, 7]) (by kernel_rfl) (by simp) ?_
  refine AllReadyH.cons rfl (fun K hK => ?_) (AllReadyH.cons rfl (fun K hK => ?_) AllReadyH.nil)
  · go_simp
    refine hK.out _ _ ?_ (fun hHeld => ?_)
    · simp
    clear hK K
    refine wpAnyH_ready (rs := [4, 7]) (by kernel_rfl) (by simp) ?_
    refine (AllReadyH.cons rfl (fun K hK => ?_) (AllReadyH.cons rfl (fun K hK => ?_) AllReadyH.nil))
    · go_simp
      refine hK.out _ _ ?_ (fun hHeld => ?_)
      · simp
      clear hK K
      refine wpAnyH_ready (rs := [7]) (by kernel_rfl) (by simp) ?_
      refine (AllReadyH.cons rfl (fun K hK => ?_) AllReadyH.nil)
      go_simp
      refine (writeTx_any x _ hx1 hx2).mono ?_
      rintro e w2 ⟨rfl, hb2⟩
      obtain ⟨hc2, -⟩ := bcell hb2
      have hz2 : w.heap.size < w2.heap.size := by have := hb2.size; simp at this; omega
      go_wp2_with fail
      refine hK.out _ _ ?_ (fun hHeld => ?_)
      · refine ⟨?_, ?_⟩ <;> (rw [hc2 _ _ (by simp; try omega)]; simp)
      clear hK K
      refine wpAnyH_ready (rs := [8]) (by kernel_rfl) (by simp) ?_
      refine (AllReadyH.cons rfl (fun K hK => ?_) AllReadyH.nil)
      go_simp
      refine hK.out _ _ ?_ (fun hHeld => ?_)
      · refine ⟨?_, ?_⟩ <;> (rw [hc2 _ _ (by simp; try omega)]; simp)
      clear hK K
      refine wpAnyH_ready (rs := [9]) (by kernel_rfl) (by simp) ?_
      refine (AllReadyH.cons rfl (fun K hK => ?_) AllReadyH.nil)
      go_simp
      refine (seal_any 45 _ _ (by decide) (by simp [nums_len]; omega)).mono ?_
      rintro e w3 ⟨rfl, hb3⟩
      obtain ⟨hc3, -⟩ := bcell hb3
      go_wp2_with fail
      refine hK.out _ _ ?_ (fun hHeld => ?_)
      · refine ⟨?_, ?_⟩ <;> (rw [hc3 _ _ (by omega), hc2 _ _ (by simp; try omega)]; simp)
      clear hK K
      refine wpAnyH_ready (rs := [10]) (by kernel_rfl) (by simp) ?_
      refine (AllReadyH.cons rfl (fun K hK => ?_) AllReadyH.nil)
      go_simp
      refine hK.out _ _ ?_ (fun hHeld => ?_)
      · refine ⟨?_, ?_⟩ <;> (rw [hc3 _ _ (by omega), hc2 _ _ (by simp; try omega)]; simp)
      clear hK K
      refine wpAnyH_done (by kernel_rfl) ?_ _
      go_wp2
      go_ret
      refine ⟨by rw [HF.out]; rfl, ?_⟩
      exact (((Below.refl _ _).alloc (Nat.le_refl _) _).alloc (by simp) _).drew.trans ((hb2.mono (by simp; omega)).trans (hb3.mono (by omega)))
    · go_simp
      refine (writeTx_any x _ hx1 hx2).mono ?_
      rintro e w2 ⟨rfl, hb2⟩
      obtain ⟨hc2, -⟩ := bcell hb2
      have hz2 : w.heap.size < w2.heap.size := by have := hb2.size; simp at this; omega
      go_wp2_with fail
      refine hK.out _ _ ?_ (fun hHeld => ?_)
      · refine ⟨?_, ?_⟩ <;> (rw [hc2 _ _ (by simp; try omega)]; simp)
      clear hK K
      have kk := conv1_below hb2
      refine wpAnyH_ready (rs := [4]) (by kernel_rfl) (by simp) ?_
      refine (AllReadyH.cons rfl (fun K hK => ?_) AllReadyH.nil)
      go_simp
      refine hK.out _ _ ?_ (fun hHeld => ?_)
      · refine ⟨?_, ?_⟩ <;> (rw [hc2 _ _ (by simp; try omega)]; simp)
      clear hK K
      refine wpAnyH_ready (rs := [8]) (by kernel_rfl) (by simp) ?_
      refine (AllReadyH.cons rfl (fun K hK => ?_) AllReadyH.nil)
      go_simp
      refine hK.out _ _ ?_ (fun hHeld => ?_)
      · refine ⟨?_, ?_⟩ <;> (rw [hc2 _ _ (by simp; try omega)]; simp)
      clear hK K
      refine wpAnyH_ready (rs := [9]) (by kernel_rfl) (by simp) ?_
      refine (AllReadyH.cons rfl (fun K hK => ?_) AllReadyH.nil)
      go_simp
      refine (seal_any 45 _ _ (by decide) (by simp [nums_len]; omega)).mono ?_
      rintro e w3 ⟨rfl, hb3⟩
      obtain ⟨hc3, -⟩ := bcell hb3
      go_wp2_with fail
      refine hK.out _ _ ?_ (fun hHeld => ?_)
      · refine ⟨?_, ?_⟩ <;> (rw [hc3 _ _ (by omega), hc2 _ _ (by simp; try omega)]; simp)
      clear hK K
      refine wpAnyH_ready (rs := [10]) (by kernel_rfl) (by simp) ?_
      refine (AllReadyH.cons rfl (fun K hK => ?_) AllReadyH.nil)
      go_simp
      refine hK.out _ _ ?_ (fun hHeld => ?_)
      · refine ⟨?_, ?_⟩ <;> (rw [hc3 _ _ (by omega), hc2 _ _ (by simp; try omega)]; simp)
      clear hK K
      refine wpAnyH_done (by kernel_rfl) ?_ _
      go_wp2
      go_ret
      refine ⟨by rw [HF.out]; rfl, ?_⟩
      exact (((Below.refl _ _).alloc (Nat.le_refl _) _).alloc (by simp) _).drew.trans ((hb2.mono (by simp; omega)).trans (hb3.mono (by omega)))
  · go_simp
    refine (writeTx_any x _ hx1 hx2).mono ?_
    rintro e w2 ⟨rfl, hb2⟩
    obtain ⟨hc2, -⟩ := bcell hb2
    have hz2 : w.heap.size < w2.heap.size := by have := hb2.size; simp at this; omega
    go_wp2_with fail
    refine hK.out _ _ ?_ (fun hHeld => ?_)
    · refine ⟨?_, ?_⟩ <;> (rw [hc2 _ _ (by simp; try omega)]; simp)
    clear hK K
    refine wpAnyH_ready (rs := [3]) (by kernel_rfl) (by simp) ?_
    refine (AllReadyH.cons rfl (fun K hK => ?_) AllReadyH.nil)
    go_simp
    refine hK.out _ _ ?_ (fun hHeld => ?_)
    · refine ⟨?_, ?_⟩ <;> (rw [World.cell?_alloc_lt _ _ _ (by simp; omega), hc2 _ _ (by simp; try omega)]; simp)
    clear hK K
    refine wpAnyH_ready (rs := [4]) (by kernel_rfl) (by simp) ?_
    refine (AllReadyH.cons rfl (fun K hK => ?_) AllReadyH.nil)
    go_simp
    refine hK.out _ _ ?_ (fun hHeld => ?_)
    · refine ⟨?_, ?_⟩ <;> (rw [World.cell?_alloc_lt _ _ _ (by simp; omega), hc2 _ _ (by simp; try omega)]; simp)
    clear hK K
    refine wpAnyH_ready (rs := [8]) (by kernel_rfl) (by simp) ?_
    refine (AllReadyH.cons rfl (fun K hK => ?_) AllReadyH.nil)
    go_simp
    refine hK.out _ _ ?_ (fun hHeld => ?_)
    · refine ⟨?_, ?_⟩ <;> (rw [World.cell?_alloc_lt _ _ _ (by simp; omega), hc2 _ _ (by simp; try omega)]; simp)
    clear hK K
    refine wpAnyH_ready (rs := [9]) (by kernel_rfl) (by simp) ?_
    refine (AllReadyH.cons rfl (fun K hK => ?_) AllReadyH.nil)
    go_simp
    refine (seal_any 45 _ _ (by decide) (by simp [nums_len]; omega)).mono ?_
    rintro e w3 ⟨rfl, hb3⟩
    obtain ⟨hc3, -⟩ := bcell hb3
    go_wp2_with fail
    refine hK.out _ _ ?_ (fun hHeld => ?_)
    · refine ⟨?_, ?_⟩ <;> (rw [hc3 _ _ (by simp; omega), World.cell?_alloc_lt _ _ _ (by simp; omega), hc2 _ _ (by simp; try omega)]; simp)
    clear hK K
    refine wpAnyH_ready (rs := [10]) (by kernel_rfl) (by simp) ?_
    refine (AllReadyH.cons rfl (fun K hK => ?_) AllReadyH.nil)
    go_simp
    refine hK.out _ _ ?_ (fun hHeld => ?_)
    · refine ⟨?_, ?_⟩ <;> (rw [hc3 _ _ (by simp; omega), World.cell?_alloc_lt _ _ _ (by simp; omega), hc2 _ _ (by simp; try omega)]; simp)
    clear hK K
    refine wpAnyH_done (by kernel_rfl) ?_ _
    go_wp2
    go_ret
    refine ⟨by rw [HF.out]; rfl, ?_⟩
    exact (((Below.refl _ _).alloc (Nat.le_refl _) _).drew.trans (hb2.mono (by simp))).alloc (by omega) _ |>.trans (hb3.mono (by simp; omega))
end Go.Proofs.YtfpojgljgbgkkaaGreatDoor

/-
  accord.Encode; the document's Encode of a message that is not right.
-/
namespace Go.Proofs.YtfpojgljgbgkkaaGreatDoor
open Go.RowKit

attribute [local go_sem] bs_append bs_size nums_len sumL_len List.length_append List.length_cons List.length_nil

set_option maxHeartbeats 1000000 in
theorem encode_yes (k f t x : Int) {a : Nat → Addr} (w : World) (hS : Sent w a) (h : endsB k f t = true) (hx : rightTxB x = true) :
    Calls Tryz.prog 52 #[.agg #[.int .i64 k, .int .i64 f, .int .i64 t, .int .i64 x]] w fun e w' => e = .returned (.tuple #[.string (bs (msgL k f t x)), .int .i64 0]) ∧ Below w.heap.size w w' := by
  have v0 := (hS.later ((Below.refl _ w).alloc (Nat.le_refl _) (.cells #[.int .i64 k, .int .i64 f, .int .i64 t, .int .i64 x] 64))).v0
  clear hS
  go_enter Tryz.func52, Tryz.ntmps52
  go_wp2_with fail
  refine (writeMessage_yes k f t x (a 0) _ v0 h hx).mono ?_
  rintro e w1 ⟨rfl, hb1⟩
  go_wp2_with (go_at_call 54; refine (errno_nil _).mono ?_; rintro e w' ⟨rfl, rfl⟩)
  go_ret2
  exact ⟨rfl, ((Below.refl _ _).alloc (Nat.le_refl _) _).trans (hb1.mono (by simp))⟩

set_option maxHeartbeats 1000000 in
theorem encode_no (k f t x : Int) {a : Nat → Addr} (w : World) (hS : Sent w a) (h : (endsB k f t && rightTxB x) = false) :
    Calls Tryz.prog 52 #[.agg #[.int .i64 k, .int .i64 f, .int .i64 t, .int .i64 x]] w fun e w' => e = .returned (.tuple #[.string (bs []), .int .i64 3]) ∧ Below w.heap.size w w' := by
  have hS1 := hS.later ((Below.refl _ w).alloc (Nat.le_refl _) (.cells #[.int .i64 k, .int .i64 f, .int .i64 t, .int .i64 x] 64))
  have v0 := hS1.v0
  go_enter Tryz.func52, Tryz.ntmps52
  go_wp2_with fail
  refine (writeMessage_no k f t x (a 0) _ v0 h).mono ?_
  rintro e w1 ⟨b, rfl, hr, hb1⟩
  have hS2 := hS1.later hb1
  go_wp2_with (go_at_call 54; refine (errno_any hS2 0 (by decide) b hr).mono ?_; rintro e w' ⟨rfl, rfl⟩)
  go_ret2
  exact ⟨rfl, ((Below.refl _ _).alloc (Nat.le_refl _) _).trans (hb1.mono (by simp))⟩

set_option maxHeartbeats 4000000 in
theorem refEncode_no (k f t x : Int) (w : World) (h : (endsB k f t && rightTxB x) = false) :
    Calls Tryz.prog 157 #[.agg #[.int .i64 k, .int .i64 f, .int .i64 t, .int .i64 x]] w fun e w' => e = .returned (.tuple #[.string (bs []), .int .i64 3]) ∧ Below w.heap.size w w' := by
  by_cases k1 : k < 1
  · clear h
    go_enter Tryz.func157, Tryz.ntmps157
    go_wp2
    go_ret2
    exact ⟨rfl, (Below.refl _ _).alloc (Nat.le_refl _) _⟩
  by_cases k7 : 7 < k
  · clear h
    go_enter Tryz.func157, Tryz.ntmps157
    go_wp2
    go_ret2
    exact ⟨rfl, (Below.refl _ _).alloc (Nat.le_refl _) _⟩
  by_cases f1 : f < 0
  · clear h
    go_enter Tryz.func157, Tryz.ntmps157
    go_wp2
    go_ret2
    exact ⟨rfl, (Below.refl _ _).alloc (Nat.le_refl _) _⟩
  by_cases f7 : 6 < f
  · clear h
    go_enter Tryz.func157, Tryz.ntmps157
    go_wp2
    go_ret2
    exact ⟨rfl, (Below.refl _ _).alloc (Nat.le_refl _) _⟩
  by_cases t1 : t < 0
  · clear h
    go_enter Tryz.func157, Tryz.ntmps157
    go_wp2
    go_ret2
    exact ⟨rfl, (Below.refl _ _).alloc (Nat.le_refl _) _⟩
  by_cases t7 : 6 < t
  · clear h
    go_enter Tryz.func157, Tryz.ntmps157
    go_wp2
    go_ret2
    exact ⟨rfl, (Below.refl _ _).alloc (Nat.le_refl _) _⟩
  by_cases x1 : x < 1
  · clear h
    go_enter Tryz.func157, Tryz.ntmps157
    go_wp2
    go_ret2
    exact ⟨rfl, (Below.refl _ _).alloc (Nat.le_refl _) _⟩
  by_cases x7 : 16383 < x
  · clear h
    go_enter Tryz.func157, Tryz.ntmps157
    go_wp2
    go_ret2
    exact ⟨rfl, (Below.refl _ _).alloc (Nat.le_refl _) _⟩
  exfalso
  have e1 : endsB k f t = true := by simp [endsB, rightNodeB]; omega
  have e2 : rightTxB x = true := by simp [rightTxB]; omega
  simp [e1, e2] at h
end Go.Proofs.YtfpojgljgbgkkaaGreatDoor

/-
  wire.measure, wire.open.
-/
namespace Go.Proofs.YtfpojgljgbgkkaaGreatDoor
open Go.RowKit

theorem bs_get (l : List UInt8) (i : Nat) (h : i < (bs l).size) : (bs l)[i]'h = l[i]'h := rfl
theorem bs_get0 (c : UInt8) (l : List UInt8) (h : 0 < (bs (c :: l)).size) : (bs (c :: l))[0]'h = c := rfl
theorem bs_get1 (c d : UInt8) (l : List UInt8) (h : 1 < (bs (c :: d :: l)).size) : (bs (c :: d :: l))[1]'h = d := rfl
theorem bs_get2 (c d e : UInt8) (l : List UInt8) (h : 2 < (bs (c :: d :: e :: l)).size) : (bs (c :: d :: e :: l))[2]'h = e := rfl
theorem bs_extract (l : List UInt8) (i j : Nat) : (bs l).extract i j = bs ((l.drop i).take (j - i)) := by
  have h := ByteArray.data_extract (a := bs l) (b := i) (e := j)
  apply ByteArray.ext
  rw [h]
  apply Array.ext'
  simp [bs, List.extract_eq_take_drop]
attribute [local go_sem] bs_append bs_size nums_len sumL_len List.length_append List.length_cons List.length_nil bs_get0 bs_get1 bs_get2

theorem bs_toList (l : List UInt8) : (bs l).toList = l := (Go.ByteArray.toList_eq (bs l)).trans rfl

/-- What measure answers in error, the i-th sentinel. -/
def ErrRet (w w' : World) (e : Ending) (pre : Value) (a : Addr) : Prop :=
  ∃ b, e = .returned (.tuple #[pre, .iface 241 (.pointer (some ⟨b, 0, none⟩))]) ∧ ErrAt w' b a ∧ Below w.heap.size w w'

set_option maxHeartbeats 1000000 in
theorem measure_empty (m : Int) {a : Nat → Addr} (w : World) (hS : Sent w a) :
    Calls Tryz.prog 99 #[.string (bs []), .int .u8 m] w fun e w' => ErrRet w w' e (.int .i64 0) (a 1) := by
  have v1 := hS.v1
  clear hS
  go_enter Tryz.func99, Tryz.ntmps99
  go_wp2_with (first | (go_at_call 100; refine (at_err _ _ _ _).mono ?_; rintro e w2 ⟨b, rfl, hr, hb2⟩))
  go_ret2
  exact ⟨b, rfl, hr, hb2⟩
set_option maxHeartbeats 1000000 in
theorem measure_magic (m : Int) (c : UInt8) (r : List UInt8) {a : Nat → Addr} (w : World) (hS : Sent w a) (hc : ((c.toNat : Int) != m) = true) :
    Calls Tryz.prog 99 #[.string (bs (c :: r)), .int .u8 m] w fun e w' => ErrRet w w' e (.int .i64 0) (a 2) := by
  have v2 := hS.v2
  clear hS
  go_enter Tryz.func99, Tryz.ntmps99
  go_wp2_with (first | (go_at_call 100; refine (at_err _ _ _ _).mono ?_; rintro e w2 ⟨b, rfl, hr, hb2⟩))
  go_ret2
  exact ⟨b, rfl, hr, hb2⟩
set_option maxHeartbeats 1000000 in
theorem measure_one (m : Int) (c : UInt8) {a : Nat → Addr} (w : World) (hS : Sent w a) (hc : ((c.toNat : Int) != m) = false) :
    Calls Tryz.prog 99 #[.string (bs [c]), .int .u8 m] w fun e w' => ErrRet w w' e (.int .i64 0) (a 1) := by
  have v1 := hS.v1
  clear hS
  go_enter Tryz.func99, Tryz.ntmps99
  go_wp2_with (first | (go_at_call 100; refine (at_err _ _ _ _).mono ?_; rintro e w2 ⟨b, rfl, hr, hb2⟩))
  go_ret2
  exact ⟨b, rfl, hr, hb2⟩
set_option maxHeartbeats 1000000 in
theorem measure_short (m : Int) (c n : UInt8) (r : List UInt8) {a : Nat → Addr} (w : World) (hS : Sent w a) (hc : ((c.toNat : Int) != m) = false) (hr : r.length < n.toNat + 4) :
    Calls Tryz.prog 99 #[.string (bs (c :: n :: r)), .int .u8 m] w fun e w' => ErrRet w w' e (.int .i64 0) (a 1) := by
  have v1 := hS.v1
  have hn := n.toNat_lt
  have q0 : (0 : Int) < (r.length : Int) + 1 + 1 := by omega
  have q1 : (1 : Int) < (r.length : Int) + 1 + 1 := by omega
  clear hS
  go_enter Tryz.func99, Tryz.ntmps99
  go_wp2_with (first | (go_at_call 100; refine (at_err _ _ _ _).mono ?_; rintro e w2 ⟨b, rfl, hr, hb2⟩))
  go_ret2
  exact ⟨b, rfl, hr, hb2⟩
set_option maxHeartbeats 1000000 in
theorem measure_whole (m : Int) (c n : UInt8) (r : List UInt8) (w : World) (hc : ((c.toNat : Int) != m) = false) (hr : n.toNat + 4 ≤ r.length) (hl : r.length ≤ maxLen - 2) :
    Calls Tryz.prog 99 #[.string (bs (c :: n :: r)), .int .u8 m] w fun e w' => e = .returned (.tuple #[.int .i64 (2 + (n.toNat : Int) + 4), .nilIface]) ∧ w = w' := by
  have hn := n.toNat_lt
  have q0 : (0 : Int) < (r.length : Int) + 1 + 1 := by omega
  have q1 : (1 : Int) < (r.length : Int) + 1 + 1 := by omega
  unfold maxLen at hl
  go_enter Tryz.func99, Tryz.ntmps99
  go_wp2_with fail
  go_ret2
  exact ⟨rfl, rfl⟩

theorem drop_len (h s : List UInt8) : (h ++ s).drop h.length = s := by simp
theorem take_len (h s : List UInt8) : (h ++ s).take h.length = h := by simp

set_option maxRecDepth 100000 in
set_option maxHeartbeats 2000000 in
theorem open_bad (h s : List UInt8) {a : Nat → Addr} (w : World) (hS : Sent w a) (hs : s.length = 4) (hh : 2 ≤ h.length) (hl : h.length ≤ 300) (hne : sumL h ≠ s) :
    Calls Tryz.prog 101 #[.string (bs (h ++ s))] w fun e w' => ErrRet w w' e (.string (bs [])) (a 4) := by
  have q0 : (0 : Int) ≤ ((h ++ s).length : Int) - 4 := by simp; omega
  have e0 : ((h ++ s).length : Int) - 4 = (h.length : Int) := by simp [hs]
  have hle : (h.length : Int) ≤ ((h ++ s).length : Int) := by simp; omega
  have x1 : (bs (h ++ s)).extract 0 h.length = bs h := by rw [bs_extract]; simp
  have x2 : (bs (h ++ s)).extract h.length (h ++ s).length = bs s := by rw [bs_extract]; simp
  have x3 : (bs (h ++ s)).extract 2 h.length = bs (h.drop 2) := by rw [bs_extract, List.drop_append_of_le_length hh, List.take_append_of_le_length (by simp), List.take_of_length_le (by simp)]
  have q2 : (2 : Int) ≤ (h.length : Int) := by omega
  have hf : ((bs (sumL h)).toList == (bs s).toList) = false := by
    rw [beq_eq_false_iff_ne]
    intro e
    rw [bs_toList, bs_toList] at e
    exact hne e
  generalize h ++ s = L at *
  go_enter Tryz.func101, Tryz.ntmps101
  go_wp2
  go_region_with (go_at_call 142; refine (sumBytes_bs h _ (by unfold maxLen; omega)).mono ?_; rintro e w1 ⟨rfl, hb1⟩)
  have v4 := (hS.later ((Below.refl _ w).drew.trans (hb1.mono (by simp)))).v4
  go_wp2_with (first | (go_at_call 100; refine (at_err _ _ _ _).mono ?_; rintro e w2 ⟨b, rfl, hr, hb2⟩))
  go_ret2
  exact ⟨b, rfl, hr, ((Below.refl _ w).drew.trans (hb1.mono (by simp))).trans (hb2.mono (by have := hb1.size; simpa using this))⟩
set_option maxRecDepth 100000 in
set_option maxHeartbeats 2000000 in
theorem open_good (h s : List UInt8) (w : World) (hs : s.length = 4) (hh : 2 ≤ h.length) (hl : h.length ≤ 300) (he : sumL h = s) :
    Calls Tryz.prog 101 #[.string (bs (h ++ s))] w fun e w' => e = .returned (.tuple #[.string (bs (h.drop 2)), .nilIface]) ∧ Below w.heap.size w w' := by
  have q0 : (0 : Int) ≤ ((h ++ s).length : Int) - 4 := by simp; omega
  have e0 : ((h ++ s).length : Int) - 4 = (h.length : Int) := by simp [hs]
  have hle : (h.length : Int) ≤ ((h ++ s).length : Int) := by simp; omega
  have x1 : (bs (h ++ s)).extract 0 h.length = bs h := by rw [bs_extract]; simp
  have x2 : (bs (h ++ s)).extract h.length (h ++ s).length = bs s := by rw [bs_extract]; simp
  have x3 : (bs (h ++ s)).extract 2 h.length = bs (h.drop 2) := by rw [bs_extract, List.drop_append_of_le_length hh, List.take_append_of_le_length (by simp), List.take_of_length_le (by simp)]
  have q2 : (2 : Int) ≤ (h.length : Int) := by omega
  have hf : ((bs (sumL h)).toList == (bs s).toList) = true := by rw [he]; simp
  clear he
  generalize h ++ s = L at *
  go_enter Tryz.func101, Tryz.ntmps101
  go_wp2
  go_region_with (go_at_call 142; refine (sumBytes_bs h _ (by unfold maxLen; omega)).mono ?_; rintro e w1 ⟨rfl, hb1⟩)
  go_wp2
  go_ret2
  exact ⟨rfl, (Below.refl _ w).drew.trans (hb1.mono (by simp))⟩
end Go.Proofs.YtfpojgljgbgkkaaGreatDoor

/-
  wire.readTx, accordref.tx.
-/
namespace Go.Proofs.YtfpojgljgbgkkaaGreatDoor
open Go.RowKit

attribute [local go_sem] bs_append bs_size nums_len sumL_len List.length_append List.length_cons List.length_nil bs_get0 bs_get1 bs_get2

/-- The number that one byte or two say to the program. -/
def pt : List UInt8 → Int
  | [p] => (p.toNat : Int) % 128
  | [p, q] => (p.toNat : Int) % 128 + (q.toNat : Int) * 128
  | _ => 0
def goodTx (r : List UInt8) : Bool := rightTxB (pt r) && decide (txL (pt r) = r)
theorem str_eq (a b : List UInt8) : ((bs a).toList == (bs b).toList) = decide (a = b) := by
  rw [bs_toList, bs_toList]
  by_cases h : a = b <;> simp [h]

theorem readTx_none (w : World) : Calls Tryz.prog 143 #[.string (bs [])] w fun e w' => e = .returned (.tuple #[.int .i64 (pt []), .bool (goodTx [])]) ∧ Below w.heap.size w w' := by
  go_enter Tryz.func143, Tryz.ntmps143
  go_wp2
  go_ret2
  exact ⟨rfl, Below.refl _ _⟩
theorem readTx_many (p q s : UInt8) (r : List UInt8) (w : World) : Calls Tryz.prog 143 #[.string (bs (p :: q :: s :: r))] w fun e w' => e = .returned (.tuple #[.int .i64 (pt (p :: q :: s :: r)), .bool (goodTx (p :: q :: s :: r))]) ∧ Below w.heap.size w w' := by
  have q0 : ¬ ((r.length : Int) + 1 + 1 + 1 < 1) := by omega
  have q1 : (2 : Int) < (r.length : Int) + 1 + 1 + 1 := by omega
  go_enter Tryz.func143, Tryz.ntmps143
  go_wp2
  go_ret2
  exact ⟨rfl, Below.refl _ _⟩
theorem goodTx_no (r : List UInt8) (h : rightTxB (pt r) = false) : goodTx r = false := by simp [goodTx, h]
theorem goodTx_yes (r : List UInt8) (h : rightTxB (pt r) = true) : goodTx r = decide (txL (pt r) = r) := by simp [goodTx, h]
theorem rightTx_of {x : Int} (h : rightTxB x = true) : 1 ≤ x ∧ x ≤ 16383 := by simpa [rightTxB] using h

set_option maxRecDepth 100000 in
set_option maxHeartbeats 1000000 in
theorem readTx_one (p : UInt8) (w : World) : Calls Tryz.prog 143 #[.string (bs [p])] w fun e w' => e = .returned (.tuple #[.int .i64 (pt [p]), .bool (goodTx [p])]) ∧ Below w.heap.size w w' := by
  have hp := p.toNat_lt
  cases hr : rightTxB (pt [p])
  · have hg := goodTx_no [p] hr
    have HG : Hid (goodTx [p] = false) := hg
    clear hg
    simp only [pt] at hr
    go_enter Tryz.func143, Tryz.ntmps143
    go_wp2_with (first | (go_at_call 139; refine (rightTx_any _ _).mono ?_; rintro e w' ⟨rfl, rfl⟩))
    go_ret2
    exact ⟨by rw [HG.out]; rfl, Below.refl _ _⟩
  · have HG : Hid (goodTx [p] = decide (txL (pt [p]) = [p])) := goodTx_yes [p] hr
    obtain ⟨h1, h2⟩ := rightTx_of hr
    have HE := str_eq (txL (pt [p])) [p]
    simp only [pt] at hr h1 h2 HE
    go_enter Tryz.func143, Tryz.ntmps143
    go_wp2_with (first | (go_at_call 139; refine (rightTx_any _ _).mono ?_; rintro e w' ⟨rfl, rfl⟩) | (go_at_call 141; refine (writeTx_any _ _ h1 h2).mono ?_; rintro e w1 ⟨rfl, hb1⟩))
    go_ret2
    exact ⟨by rw [HG.out]; rfl, hb1⟩
set_option maxRecDepth 100000 in
set_option maxHeartbeats 1000000 in
theorem readTx_two (p q : UInt8) (w : World) : Calls Tryz.prog 143 #[.string (bs [p, q])] w fun e w' => e = .returned (.tuple #[.int .i64 (pt [p, q]), .bool (goodTx [p, q])]) ∧ Below w.heap.size w w' := by
  have hp := p.toNat_lt
  have hq := q.toNat_lt
  cases hr : rightTxB (pt [p, q])
  · have HG : Hid (goodTx [p, q] = false) := goodTx_no [p, q] hr
    simp only [pt] at hr
    go_enter Tryz.func143, Tryz.ntmps143
    go_wp2_with (first | (go_at_call 139; refine (rightTx_any _ _).mono ?_; rintro e w' ⟨rfl, rfl⟩))
    go_ret2
    exact ⟨by rw [HG.out]; rfl, Below.refl _ _⟩
  · have HG : Hid (goodTx [p, q] = decide (txL (pt [p, q]) = [p, q])) := goodTx_yes [p, q] hr
    obtain ⟨h1, h2⟩ := rightTx_of hr
    have HE := str_eq (txL (pt [p, q])) [p, q]
    simp only [pt] at hr h1 h2 HE
    go_enter Tryz.func143, Tryz.ntmps143
    go_wp2_with (first | (go_at_call 139; refine (rightTx_any _ _).mono ?_; rintro e w' ⟨rfl, rfl⟩) | (go_at_call 141; refine (writeTx_any _ _ h1 h2).mono ?_; rintro e w1 ⟨rfl, hb1⟩))
    go_ret2
    exact ⟨by rw [HG.out]; rfl, hb1⟩
theorem readTx_any (r : List UInt8) (w : World) : Calls Tryz.prog 143 #[.string (bs r)] w fun e w' => e = .returned (.tuple #[.int .i64 (pt r), .bool (goodTx r)]) ∧ Below w.heap.size w w' :=
  match r with
  | [] => readTx_none w
  | [p] => readTx_one p w
  | [p, q] => readTx_two p q w
  | p :: q :: s :: r => readTx_many p q s r w

/-- The number that one byte or two say to the document's answer. -/
def rt : List UInt8 → Int
  | [p] => (p.toNat : Int)
  | [p, q] => (p.toNat : Int) % 128 + 128 * (q.toNat : Int)
  | _ => 0
theorem refTx_any (r : List UInt8) (w : World) (hl : r.length ≤ 300) : Calls Tryz.prog 152 #[.string (bs r)] w fun e w' => e = .returned (.int .i64 (rt r)) ∧ ∃ n, w' = w.drewN n := by
  match r, hl with
  | [], _ =>
    go_enter Tryz.func152, Tryz.ntmps152
    go_wp2
    go_ret
    exact ⟨rfl, 0, rfl⟩
  | [p], _ =>
    have hp := p.toNat_lt
    go_enter Tryz.func152, Tryz.ntmps152
    go_wp2
    go_ret
    exact ⟨rfl, 0, rfl⟩
  | [p, q], _ =>
    have hp := p.toNat_lt
    have hq := q.toNat_lt
    go_enter Tryz.func152, Tryz.ntmps152
    go_wp2
    go_quiet (fail)
    go_wp2
    go_ret
    exact ⟨rfl, _, rfl⟩
  | p :: q :: s :: r, hl =>
    have q0 : (((r.length : Int) + 1 + 1 + 1) == 1) = false := by rw [beq_eq_false_iff_ne]; omega
    have q1 : (((r.length : Int) + 1 + 1 + 1) == 2) = false := by rw [beq_eq_false_iff_ne]; omega
    go_enter Tryz.func152, Tryz.ntmps152
    go_wp2
    go_ret
    exact ⟨rfl, 0, rfl⟩
end Go.Proofs.YtfpojgljgbgkkaaGreatDoor
