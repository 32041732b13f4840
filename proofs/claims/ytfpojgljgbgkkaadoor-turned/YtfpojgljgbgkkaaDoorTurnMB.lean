/-
  The law Turned, walked: one case of it.
-/
import Derived.Test.YtfpojgljgbgkkaaDoorTurnAux
import Derived.Test.YtfpojgljgbgkkaaDoorPick
import Derived.Test.YtfpojgljgbgkkaaDoorEnc2
import Derived.Deep.DrawnRows
import Derived.Deep.RegionHeld3
import Derived.Lib.ConvBytes
namespace Go.Proofs.YtfpojgljgbgkkaaDoor
open Go.RowKit

attribute [local go_sem] bs_append bs_size nums_len sumL_len List.length_append List.length_cons List.length_nil bs_get0 bs_get1 bs_get2
attribute [local go_sem ↓] Go.wp_at_zero Go.wp_at_succ

set_option maxRecDepth 100000 in
set_option maxHeartbeats 8000000 in
theorem turned_more_B (kind fr to tx at' : Int) (ao : Option Addr) (n cap : Nat) (ml : List UInt8) {a : Nat → Addr} (w : World) (hS : Sent w a)
    (hk0 : -9223372036854775808 ≤ kind) (hk1 : kind ≤ 9223372036854775807) (hf0 : -9223372036854775808 ≤ fr) (hf1 : fr ≤ 9223372036854775807) (ht0 : -9223372036854775808 ≤ to) (ht1 : to ≤ 9223372036854775807)
    (hx0 : -9223372036854775808 ≤ tx) (hx1 : tx ≤ 9223372036854775807) (ha0 : -9223372036854775808 ≤ at') (ha1 : at' ≤ 9223372036854775807) (hml : ml.length ≤ 140737488355328) (hne : ml ≠ []) (hA : ∀ j0 : Nat, pickI at' ((msgL (1 + pickI kind 7) (pickI fr 7) (pickI to 7) (1 + pickI tx 16383)).length : Int) = (j0 : Int) → (msgL (1 + pickI kind 7) (pickI fr 7) (pickI to 7) (1 + pickI tx 16383)).length - 4 ≤ j0) (_hn : n ≤ 9223372036854775807)
    (hts : ∀ k, k < n → ∃ tb toff z, ao = some ⟨tb, toff, none⟩ ∧ tb < w.heap.size ∧ w.cell? ⟨tb, toff + k, none⟩ = some (.int .i64 z) ∧ -9223372036854775808 ≤ z ∧ z ≤ 9223372036854775807) :
    Calls Tryd.prog 5 #[.int .i64 kind, .int .i64 fr, .int .i64 to, .int .i64 tx, .int .i64 at', .slice ao n cap, .string (bs ml)] w fun e w' => e = .returned (.bool true) ∧ Below w.heap.size w w' := by
  obtain ⟨hE, hX⟩ := picked kind fr to tx
  have b1 := pickI_bd kind 7 (by decide)
  have b2 := pickI_bd fr 7 (by decide)
  have b3 := pickI_bd to 7 (by decide)
  have b4 := pickI_bd tx 16383 (by decide)
  have H1 : Hid (∀ w : World, Calls Tryd.prog 17 #[.int .i64 kind, .int .i64 7] w fun e w' => e = .returned (.int .i64 (pickI kind 7)) ∧ w = w') := fun w => keepPick_any kind 7 w hk0 hk1 (by decide) (by decide)
  have H2 : Hid (∀ w : World, Calls Tryd.prog 17 #[.int .i64 fr, .int .i64 7] w fun e w' => e = .returned (.int .i64 (pickI fr 7)) ∧ w = w') := fun w => keepPick_any fr 7 w hf0 hf1 (by decide) (by decide)
  have H3 : Hid (∀ w : World, Calls Tryd.prog 17 #[.int .i64 to, .int .i64 7] w fun e w' => e = .returned (.int .i64 (pickI to 7)) ∧ w = w') := fun w => keepPick_any to 7 w ht0 ht1 (by decide) (by decide)
  have H4 : Hid (∀ w : World, Calls Tryd.prog 17 #[.int .i64 tx, .int .i64 16383] w fun e w' => e = .returned (.int .i64 (pickI tx 16383)) ∧ w = w') := fun w => keepPick_any tx 16383 w hx0 hx1 (by decide) (by decide)
  generalize pickI kind 7 = k0 at *
  generalize pickI fr 7 = f0 at *
  generalize pickI to 7 = t0 at *
  generalize pickI tx 16383 = x0 at *
  obtain ⟨b1, b1'⟩ := b1
  obtain ⟨b4, b4'⟩ := b4
  have hM0 : 10 ≤ (msgL (1 + k0) f0 t0 (1 + x0)).length ∧ (msgL (1 + k0) f0 t0 (1 + x0)).length ≤ 11 := by
    obtain ⟨n, c, e, hc, h4, h5⟩ := msg_lies (1 + k0) f0 t0 (1 + x0)
    rw [e]; simp [sumL_len]; omega
  have HE : Hid (∀ w1, Sent w1 a → Calls Tryd.prog 6 #[.agg #[.int .i64 (1 + k0), .int .i64 f0, .int .i64 t0, .int .i64 (1 + x0)]] w1 fun e w' => e = .returned (.tuple #[.string (bs (msgL (1 + k0) f0 t0 (1 + x0))), .int .i64 0]) ∧ Below w1.heap.size w1 w') := fun w1 hS1 => encode_yes _ _ _ _ w1 hS1 hE hX
  have HD : Hid (∀ w1, Sent w1 a → Calls Tryd.prog 7 #[.string (bs (msgL (1 + k0) f0 t0 (1 + x0)))] w1 fun e w' => e = .returned (.tuple #[.agg #[.int .i64 (1 + k0), .int .i64 f0, .int .i64 t0, .int .i64 (1 + x0)], .int .i64 0]) ∧ Below w1.heap.size w1 w') := fun w1 hS1 => decode_msg _ _ _ _ hE hX w1 a hS1
  have HC : Hid (∀ i, i < (msgL (1 + k0) f0 t0 (1 + x0)).length → BadAs 1 ((msgL (1 + k0) f0 t0 (1 + x0)).take i)) := fun i hi => cut_bad _ _ _ _ i hi
  have HL : Hid (∀ w1, Sent w1 a → Calls Tryd.prog 7 #[.string (bs (msgL (1 + k0) f0 t0 (1 + x0) ++ ml))] w1 fun e w' => e = .returned (.tuple #[.agg #[.int .i64 0, .int .i64 0, .int .i64 0, .int .i64 0], .int .i64 8]) ∧ Below w1.heap.size w1 w') := fun w1 hS1 => decode_bad (by decide) (more_bad _ _ _ _ ml hne (by unfold maxLen; omega)) w1 a hS1
  have HT : Hid (∀ (p u v s : List UInt8), msgL (1 + k0) f0 t0 (1 + x0) = p ++ u ++ s → u.length = v.length → u.length ≤ 4 → u ≠ v → (msgL (1 + k0) f0 t0 (1 + x0)).length - 4 ≤ p.length ∨ p.length + u.length ≤ (msgL (1 + k0) f0 t0 (1 + x0)).length - 4 → ∃ i, i < 6 ∧ BadAs i (p ++ v ++ s)) := fun p u v s e huv h4 hne hw => turned_bad _ _ _ _ p u v s e huv h4 hne hw
  generalize msgL (1 + k0) f0 t0 (1 + x0) = M at *
  obtain ⟨hM1, hM2⟩ := hM0
  have bP := pickI_bd at' M.length (by omega)
  obtain ⟨j0, hj0⟩ := Int.eq_ofNat_of_zero_le bP.1
  have hP : Hid (∀ w : World, Calls Tryd.prog 17 #[.int .i64 at', .int .i64 M.length] w fun e w' => e = .returned (.int .i64 j0) ∧ w = w') := fun w => by
    have := keepPick_any at' M.length w ha0 ha1 (by omega) (by omega)
    rw [hj0] at this
    exact this
  have e5 := hA j0 hj0
  clear hA
  rw [hj0] at bP
  have hjl : j0 < M.length := by omega
  clear bP hj0
  have q1 : (0 : Int) ≤ (j0 : Int) := by omega
  have q2 : (j0 : Int) ≤ (M.length : Int) := by omega
  have x1 : (bs M).extract 0 j0 = bs (M.take j0) := by rw [bs_extract]; simp
  have qm : (bs ml).toList.isEmpty = false := by rw [bs_toList]; simp [hne]
  have q3 : ¬ ((M.length : Int) < 10) := by omega
  have qc : ¬ 9223372036854775807 < M.length + ml.length := by omega
  clear b2 b3 hk0 hk1 hf0 hf1 ht0 ht1 hx0 hx1 ha0 ha1 hE hX
  go_enter Tryd.func5, Tryd.ntmps5
  go_wp2_with fail
  refine (H1.out _).mono ?_
  rintro e w1 ⟨rfl, rfl⟩
  go_wp2_with fail
  refine (H2.out _).mono ?_
  rintro e w1 ⟨rfl, rfl⟩
  go_wp2_with fail
  refine (H3.out _).mono ?_
  rintro e w1 ⟨rfl, rfl⟩
  go_wp2_with fail
  refine (H4.out _).mono ?_
  rintro e w1 ⟨rfl, rfl⟩
  go_wp2_with fail
  have hS1 := hS.later ((Below.refl _ w).alloc (Nat.le_refl _) (.cells #[.int .i64 (1 + k0), .int .i64 f0, .int .i64 t0, .int .i64 (1 + x0)] 23))
  refine (HE.out _ hS1).mono ?_
  rintro e w1 ⟨rfl, hb1⟩
  have hz1 : w.heap.size < w1.heap.size := by have := hb1.size; simp at this; omega
  have c1 : ∀ o, w1.cell? ⟨w.heap.size, o, none⟩ = (w.alloc (.cells #[.int .i64 (1 + k0), .int .i64 f0, .int .i64 t0, .int .i64 (1 + x0)] 23)).cell? ⟨w.heap.size, o, none⟩ := fun o => (bcell hb1).1 _ _ (by simp)
  have hS2 := hS1.later hb1
  go_wp2_with fail
  refine (HD.out _ hS2).mono ?_
  rintro e w2 ⟨rfl, hb2⟩
  have hz2 : w.heap.size < w2.heap.size := by have := hb2.size; omega
  have c2 : ∀ o, w2.cell? ⟨w.heap.size, o, none⟩ = (w.alloc (.cells #[.int .i64 (1 + k0), .int .i64 f0, .int .i64 t0, .int .i64 (1 + x0)] 23)).cell? ⟨w.heap.size, o, none⟩ := fun o => ((bcell hb2).1 _ _ hz1).trans (c1 o)
  have hS3 := (hS2.later hb2).later ((Below.refl _ w2).alloc (Nat.le_refl _) (.cells #[.int .i64 (1 + k0), .int .i64 f0, .int .i64 t0, .int .i64 (1 + x0)] 23))
  go_wp2_with fail
  refine (hP.out _).mono ?_
  rintro e w' ⟨rfl, rfl⟩
  go_wp2_with fail
  refine (decode_bad (by decide) (HC.out j0 hjl) _ a hS3).mono ?_
  rintro e w3 ⟨rfl, hb3⟩
  have hz3 : w2.heap.size < w3.heap.size := by have := hb3.size; simp at this; omega
  have hS4 := (hS3.later hb3).later ((Below.refl _ w3).alloc (Nat.le_refl _) (.cells #[.int .i64 0, .int .i64 0, .int .i64 0, .int .i64 0] 23))
  clear c1 c2
  simp only [errnoOf]
  go_wp2_with fail
  refine (HL.out _ hS4).mono ?_
  rintro e w4 ⟨rfl, hb4⟩
  have hz4 : w3.heap.size < w4.heap.size := by have := hb4.size; simp at this; omega
  obtain ⟨cp, W5, hconv, hb5, hrow, hz5⟩ := conv_bytes (w4.alloc (.cells #[.int .i64 0, .int .i64 0, .int .i64 0, .int .i64 0] 23)) M
  go_wp2_with fail
  refine (hP.out _).mono ?_
  rintro e w' ⟨rfl, rfl⟩
  have hB5 : Below w.heap.size w W5 := ((((((((Below.refl _ _).alloc (Nat.le_refl _) _).trans (hb1.mono (by simp))).trans (hb2.mono (by omega))).alloc (by omega) _).trans (hb3.mono (by simp; omega))).alloc (by omega) _).trans (hb4.mono (by simp; omega))).alloc (by omega) _ |>.trans (hb5.mono (by simp; omega))
  have hrow5 : rowIs W5 (w4.heap.size + 1) M := by simpa using hrow
  have hzz : w4.heap.size + 1 < W5.heap.size := by rw [hz5]; simp
  have hwz : w.heap.size < w4.heap.size + 1 := by omega
  clear hconv hb5 hrow hz5 hb4 hb3 hb2 hb1 hS1 hS2 hS3 hS4
  generalize w4.heap.size + 1 = nb at *
  go_wp2_with fail
  go_loopw [27, 28] (fun ch kk wl => ∃ (j : Nat) (v : List UInt8), j ≤ 4 ∧ j0 + j ≤ M.length ∧ (M.length - 4 ≤ j0 ∨ j0 + j ≤ M.length - 4) ∧ v.length = j ∧ kk = .int .i64 j ∧ ch = .bool (!decide (v = (M.drop j0).take j)) ∧ rowIs wl nb (M.take j0 ++ v ++ M.drop (j0 + j)) ∧ Below w.heap.size w wl ∧ nb < wl.heap.size) (fun _ kk _ => 4 - (intOf kk).toNat)
  case atStart => exact ⟨0, [], by omega, by omega, by omega, rfl, rfl, by simp, by simpa using hrow5, hB5, hzz⟩
  case round =>
    obtain ⟨j, v, hj4, hjM, hwin, hv, rfl, rfl, hrow, hB, hzl⟩ := hrel
    by_cases e1 : j < 4
    · by_cases e2 : j < n
      · by_cases e3 : j0 + j < M.length
        · have r3 : ¬ ((M.length : Int) ≤ (j0 : Int) + (j : Int)) := by omega
          have r4 : ¬ ((j0 : Int) < (M.length : Int) - 4) := by omega
          go_wp2_with fail
          obtain ⟨tb, toff, z, rfl, htb, htc, hz0, hz1⟩ := hts j e2
          have htc' : wr.cell? ⟨tb, toff + j, none⟩ = some (.int .i64 z) := by rw [hB.cell (p := ⟨tb, toff + j, none⟩) htb]; exact htc
          have hv2 : (M.take j0 ++ v).length = j0 + j := by simp; omega
          have hcv := row_mid hrow hv2 (by omega : j0 + j < M.length)
          have hcf := row_free hrow (by simp; omega : j0 + j < (M.take j0 ++ v ++ M.drop (j0 + j)).length)
          have hPz := fun w => keepPick_any z 256 w hz0 hz1 (by decide) (by decide)
          have hzb := pickI_bd z 256 (by decide)
          have HPZ : Hid (∀ w : World, Calls Tryd.prog 17 #[.int .i64 z, .int .i64 256] w fun e w' => e = .returned (.int .i64 (pickI z 256)) ∧ w = w') := hPz
          clear hPz hts htc hz0 hz1
          generalize pickI z 256 = zz at *
          have hmb : (M[j0 + j]'e3).toNat < 256 := (M[j0 + j]'e3).toNat_lt
          have hsnoc : (M.drop j0).take (j + 1) = (M.drop j0).take j ++ [M[j0 + j]'e3] := take_more e3
          generalize hmm : M[j0 + j]'e3 = mb at *
          obtain ⟨yb, hy⟩ : ∃ yb : UInt8, IntKind.u8.wrap ((mb.toNat : Int) + zz) = (yb.toNat : Int) := ⟨UInt8.ofNat ((mb.toNat : Int) + zz).toNat, by rw [IntKind.wrap_u8, UInt8.toNat_ofNat']; omega⟩
          have s0 : (0 : Int) ≤ (j0 : Int) + (j : Int) := by omega
          have s1 : (j0 : Int) + (j : Int) < (M.length : Int) := by omega
          have s2 : (0 : Int) ≤ (j : Int) := by omega
          have s3 : (j : Int) < (n : Int) := by omega
          have ww := wrap64' (mb.toNat : Int) (by omega) (by omega)
          have wz := wrap64' ((mb.toNat : Int) + zz) (by omega) (by omega)
          have tn : ((j0 : Int) + (j : Int)).toNat = j0 + j := by omega
          have HSN : Hid ((M.drop j0).take (j + 1) = (M.drop j0).take j ++ [mb]) := hsnoc
          have hbM : ∀ i, (bs M)[j0 + j]'i = mb := fun i => hmm
          clear hmm hsnoc
          generalize hbb : decide (v = (M.drop j0).take j) = bb at *
          have HBB : Hid (decide (v = (M.drop j0).take j) = bb) := hbb
          clear hbb
          refine wp_region_noPanic ?_
          refine wp_region_held_drew (S := fun _ => True) (by kernel_rfl) trivial (fun hHeld => ?_)
          refine wpAnyH_take (i := 0) (v := .slice (some ⟨nb, 0, none⟩) M.length cp) rfl (by kernel_rfl) (by kernel_rfl) (by kernel_rfl) (fun _ _ _ h => h) (Or.inl ⟨by kernel_rfl, ?_⟩) (by assumption) ?_
          · intro w hSw; go_simp
          simp only [Act.put]
          refine wpAnyH_take (i := 1) (v := .int .i64 ((j0 : Int) + (j : Int))) rfl (by kernel_rfl) (by kernel_rfl) (by kernel_rfl) (fun _ _ _ h => h) (Or.inl ⟨by kernel_rfl, ?_⟩) (by assumption) ?_
          · intro w hSw; go_simp
          simp only [Act.put]
          refine wpAnyH_take (i := 2) (v := .slice (some ⟨nb, 0, none⟩) M.length cp) rfl (by kernel_rfl) (by kernel_rfl) (by kernel_rfl) (fun _ _ _ h => h) (Or.inl ⟨by kernel_rfl, ?_⟩) (by assumption) ?_
          · intro w hSw; go_simp
          simp only [Act.put]
          refine wpAnyH_take (i := 3) (v := .int .i64 ((j0 : Int) + (j : Int))) rfl (by kernel_rfl) (by kernel_rfl) (by kernel_rfl) (fun _ _ _ h => h) (Or.inl ⟨by kernel_rfl, ?_⟩) (by assumption) ?_
          · intro w hSw; go_simp
          simp only [Act.put]
          refine wpAnyH_take (i := 4) (v := .pointer (some ⟨nb, j0 + j, none⟩)) rfl (by kernel_rfl) (by kernel_rfl) (by kernel_rfl) (fun _ _ _ h => h) (Or.inl ⟨by kernel_rfl, ?_⟩) (by assumption) ?_
          · intro w hSw; go_simp
          simp only [Act.put]
          refine wpAnyH_take (i := 7) (v := .slice (some ⟨tb, toff, none⟩) n cap) rfl (by kernel_rfl) (by kernel_rfl) (by kernel_rfl) (fun _ _ _ h => h) (Or.inl ⟨by kernel_rfl, ?_⟩) (by assumption) ?_
          · intro w hSw; go_simp
          simp only [Act.put]
          refine wpAnyH_take (i := 8) (v := .int .i64 j) rfl (by kernel_rfl) (by kernel_rfl) (by kernel_rfl) (fun _ _ _ h => h) (Or.inl ⟨by kernel_rfl, ?_⟩) (by assumption) ?_
          · intro w hSw; go_simp
          simp only [Act.put]
          refine wpAnyH_take (i := 9) (v := .pointer (some ⟨tb, toff + j, none⟩)) rfl (by kernel_rfl) (by kernel_rfl) (by kernel_rfl) (fun _ _ _ h => h) (Or.inl ⟨by kernel_rfl, ?_⟩) (by assumption) ?_
          · intro w hSw; go_simp
          simp only [Act.put]
          refine wpAnyH_ready (rs := [5, 10]) (by kernel_rfl) (by simp) ?_
          refine (AllReadyH.cons rfl (fun K hK => ?_) (AllReadyH.cons rfl (fun K hK => ?_) AllReadyH.nil))
          · go_simp
            refine hK.out _ _ trivial (fun hHeld => ?_)
            clear hK K
            refine wpAnyH_take (i := 6) (v := .int .i64 mb.toNat) rfl (by kernel_rfl) (by kernel_rfl) (by kernel_rfl) (fun _ _ _ h => h) (Or.inl ⟨by kernel_rfl, ?_⟩) (by assumption) ?_
            · intro w hSw; go_simp
            simp only [Act.put]
            refine wpAnyH_ready (rs := [10]) (by kernel_rfl) (by simp) ?_
            refine (AllReadyH.cons rfl (fun K hK => ?_) AllReadyH.nil)
            go_simp
            refine hK.out _ _ trivial (fun hHeld => ?_)
            clear hK K
            refine wpAnyH_ready (rs := [11]) (by kernel_rfl) (by simp) ?_
            refine (AllReadyH.cons rfl (fun K hK => ?_) AllReadyH.nil)
            go_simp
            refine (HPZ.out _).mono ?_
            rintro e w6 ⟨rfl, rfl⟩
            go_wp2_with fail
            refine hK.out _ _ trivial (fun hHeld => ?_)
            clear hK K
            refine wpAnyH_take (i := 12) (v := .int .i64 ((mb.toNat : Int) + zz)) rfl (by kernel_rfl) (by kernel_rfl) (by kernel_rfl) (fun _ _ _ h => h) (Or.inl ⟨by kernel_rfl, ?_⟩) (by assumption) ?_
            · intro w hSw; go_simp
            simp only [Act.put]
            refine wpAnyH_take (i := 13) (v := .int .u8 yb.toNat) rfl (by kernel_rfl) (by kernel_rfl) (by kernel_rfl) (fun _ _ _ h => h) (Or.inl ⟨by kernel_rfl, ?_⟩) (by assumption) ?_
            · intro w hSw; go_simp
            simp only [Act.put]
            refine wpAnyH_take (i := 14) (v := .pointer (some ⟨nb, j0 + j, none⟩)) rfl (by kernel_rfl) (by kernel_rfl) (by kernel_rfl) (fun _ _ _ h => h) (Or.inl ⟨by kernel_rfl, ?_⟩) (by assumption) ?_
            · intro w hSw; go_simp
            simp only [Act.put]
            refine wpAnyH_ready (rs := [15]) (by kernel_rfl) (by simp) ?_
            refine (AllReadyH.cons rfl (fun K hK => ?_) AllReadyH.nil)
            go_simp
            refine hK.out _ _ trivial (fun hHeld => ?_)
            clear hK K
            refine wpAnyH_done (by kernel_rfl) ?_ _
            cases bb
            · refine NoPanic.normal ?_
              have hW := row_set hrow (i := j0 + j) yb
              rw [row_turn hv2 e3] at hW
              have hBw : Below w.heap.size w (wr.setCell ⟨nb, j0 + j, none⟩ (.int .u8 yb.toNat)) := hB.setCell (by show w.heap.size ≤ nb; omega) _
              have hcy : (wr.setCell ⟨nb, j0 + j, none⟩ (.int .u8 yb.toNat)).cell? ⟨nb, j0 + j, none⟩ = some (.int .u8 yb.toNat) := World.cell?_setCell_same _ _ _ hcv
              have hzs : nb < (wr.setCell ⟨nb, j0 + j, none⟩ (.int .u8 yb.toNat)).heap.size := by simpa [World.setCell] using hzl
              go_wp2_with fail
              refine wp_region_noPanic ?_
              refine wp_region_held_drew (S := fun _ => True) (by kernel_rfl) trivial (fun hHeld => ?_)
              refine wpAnyH_take (i := 0) (v := .bool true) rfl (by kernel_rfl) (by kernel_rfl) (by kernel_rfl) (fun _ _ _ h => h) (Or.inl ⟨by kernel_rfl, ?_⟩) (by assumption) ?_
              · intro w hSw; go_simp
              simp only [Act.put]
              refine wpAnyH_take (i := 1) (v := .bool true) rfl (by kernel_rfl) (by kernel_rfl) (by kernel_rfl) (fun _ _ _ h => h) (Or.inl ⟨by kernel_rfl, ?_⟩) (by assumption) ?_
              · intro w hSw; go_simp
              simp only [Act.put]
              refine wpAnyH_take (i := 2) (v := undef) rfl (by kernel_rfl) (by kernel_rfl) (by kernel_rfl) (fun _ _ _ h => h) (Or.inr ⟨by kernel_rfl, rfl⟩) (by assumption) ?_
              simp only [Act.put]
              refine wpAnyH_take (i := 3) (v := undef) rfl (by kernel_rfl) (by kernel_rfl) (by kernel_rfl) (fun _ _ _ h => h) (Or.inr ⟨by kernel_rfl, rfl⟩) (by assumption) ?_
              simp only [Act.put]
              refine wpAnyH_take (i := 4) (v := undef) rfl (by kernel_rfl) (by kernel_rfl) (by kernel_rfl) (fun _ _ _ h => h) (Or.inr ⟨by kernel_rfl, rfl⟩) (by assumption) ?_
              simp only [Act.put]
              refine wpAnyH_take (i := 5) (v := undef) rfl (by kernel_rfl) (by kernel_rfl) (by kernel_rfl) (fun _ _ _ h => h) (Or.inr ⟨by kernel_rfl, rfl⟩) (by assumption) ?_
              simp only [Act.put]
              refine wpAnyH_take (i := 6) (v := undef) rfl (by kernel_rfl) (by kernel_rfl) (by kernel_rfl) (fun _ _ _ h => h) (Or.inr ⟨by kernel_rfl, rfl⟩) (by assumption) ?_
              simp only [Act.put]
              refine wpAnyH_take (i := 7) (v := undef) rfl (by kernel_rfl) (by kernel_rfl) (by kernel_rfl) (fun _ _ _ h => h) (Or.inr ⟨by kernel_rfl, rfl⟩) (by assumption) ?_
              simp only [Act.put]
              refine wpAnyH_take (i := 8) (v := undef) rfl (by kernel_rfl) (by kernel_rfl) (by kernel_rfl) (fun _ _ _ h => h) (Or.inr ⟨by kernel_rfl, rfl⟩) (by assumption) ?_
              simp only [Act.put]
              refine wpAnyH_take (i := 9) (v := undef) rfl (by kernel_rfl) (by kernel_rfl) (by kernel_rfl) (fun _ _ _ h => h) (Or.inr ⟨by kernel_rfl, rfl⟩) (by assumption) ?_
              simp only [Act.put]
              refine wpAnyH_take (i := 10) (v := .bool true) rfl (by kernel_rfl) (by kernel_rfl) (by kernel_rfl) (fun _ _ _ h => h) (Or.inl ⟨by kernel_rfl, ?_⟩) (by assumption) ?_
              · intro w hSw; go_simp
              simp only [Act.put]
              refine wpAnyH_take (i := 11) (v := .bool true) rfl (by kernel_rfl) (by kernel_rfl) (by kernel_rfl) (fun _ _ _ h => h) (Or.inl ⟨by kernel_rfl, ?_⟩) (by assumption) ?_
              · intro w hSw; go_simp
              simp only [Act.put]
              refine wpAnyH_done (by kernel_rfl) ?_ _
              refine NoPanic.normal ?_
              go_wp2_with fail
              exact ⟨⟨j + 1, v ++ [yb], by omega, by omega, by omega, by simp [hv], by go_num, congrArg Value.bool (by rw [HSN.out]; exact flag_false yb mb HBB.out), row_drewN hW 2, hBw.drew.drew, hzs⟩, by simp [intOf]; omega⟩
            · refine NoPanic.normal ?_
              have hW := row_set hrow (i := j0 + j) yb
              rw [row_turn hv2 e3] at hW
              have hBw : Below w.heap.size w (wr.setCell ⟨nb, j0 + j, none⟩ (.int .u8 yb.toNat)) := hB.setCell (by show w.heap.size ≤ nb; omega) _
              have hcy : (wr.setCell ⟨nb, j0 + j, none⟩ (.int .u8 yb.toNat)).cell? ⟨nb, j0 + j, none⟩ = some (.int .u8 yb.toNat) := World.cell?_setCell_same _ _ _ hcv
              have hzs : nb < (wr.setCell ⟨nb, j0 + j, none⟩ (.int .u8 yb.toNat)).heap.size := by simpa [World.setCell] using hzl
              go_wp2_with fail
              go_quiet (fail)
              go_wp2_with fail
              exact ⟨⟨j + 1, v ++ [yb], by omega, by omega, by omega, by simp [hv], by go_num, congrArg Value.bool (by rw [HSN.out]; exact flag_true yb mb HBB.out), row_drewN hW _, below_drewN hBw _, hzs⟩, by simp [intOf]; omega⟩
          · go_simp
            refine hK.out _ _ trivial (fun hHeld => ?_)
            clear hK K
            refine wpAnyH_ready (rs := [5, 11]) (by kernel_rfl) (by simp) ?_
            refine (AllReadyH.cons rfl (fun K hK => ?_) (AllReadyH.cons rfl (fun K hK => ?_) AllReadyH.nil))
            · go_simp
              refine hK.out _ _ trivial (fun hHeld => ?_)
              clear hK K
              refine wpAnyH_take (i := 6) (v := .int .i64 mb.toNat) rfl (by kernel_rfl) (by kernel_rfl) (by kernel_rfl) (fun _ _ _ h => h) (Or.inl ⟨by kernel_rfl, ?_⟩) (by assumption) ?_
              · intro w hSw; go_simp
              simp only [Act.put]
              refine wpAnyH_ready (rs := [11]) (by kernel_rfl) (by simp) ?_
              refine (AllReadyH.cons rfl (fun K hK => ?_) AllReadyH.nil)
              go_simp
              refine (HPZ.out _).mono ?_
              rintro e w6 ⟨rfl, rfl⟩
              go_wp2_with fail
              refine hK.out _ _ trivial (fun hHeld => ?_)
              clear hK K
              refine wpAnyH_take (i := 12) (v := .int .i64 ((mb.toNat : Int) + zz)) rfl (by kernel_rfl) (by kernel_rfl) (by kernel_rfl) (fun _ _ _ h => h) (Or.inl ⟨by kernel_rfl, ?_⟩) (by assumption) ?_
              · intro w hSw; go_simp
              simp only [Act.put]
              refine wpAnyH_take (i := 13) (v := .int .u8 yb.toNat) rfl (by kernel_rfl) (by kernel_rfl) (by kernel_rfl) (fun _ _ _ h => h) (Or.inl ⟨by kernel_rfl, ?_⟩) (by assumption) ?_
              · intro w hSw; go_simp
              simp only [Act.put]
              refine wpAnyH_take (i := 14) (v := .pointer (some ⟨nb, j0 + j, none⟩)) rfl (by kernel_rfl) (by kernel_rfl) (by kernel_rfl) (fun _ _ _ h => h) (Or.inl ⟨by kernel_rfl, ?_⟩) (by assumption) ?_
              · intro w hSw; go_simp
              simp only [Act.put]
              refine wpAnyH_ready (rs := [15]) (by kernel_rfl) (by simp) ?_
              refine (AllReadyH.cons rfl (fun K hK => ?_) AllReadyH.nil)
              go_simp
              refine hK.out _ _ trivial (fun hHeld => ?_)
              clear hK K
              refine wpAnyH_done (by kernel_rfl) ?_ _
              cases bb
              · refine NoPanic.normal ?_
                have hW := row_set hrow (i := j0 + j) yb
                rw [row_turn hv2 e3] at hW
                have hBw : Below w.heap.size w (wr.setCell ⟨nb, j0 + j, none⟩ (.int .u8 yb.toNat)) := hB.setCell (by show w.heap.size ≤ nb; omega) _
                have hcy : (wr.setCell ⟨nb, j0 + j, none⟩ (.int .u8 yb.toNat)).cell? ⟨nb, j0 + j, none⟩ = some (.int .u8 yb.toNat) := World.cell?_setCell_same _ _ _ hcv
                have hzs : nb < (wr.setCell ⟨nb, j0 + j, none⟩ (.int .u8 yb.toNat)).heap.size := by simpa [World.setCell] using hzl
                go_wp2_with fail
                refine wp_region_noPanic ?_
                refine wp_region_held_drew (S := fun _ => True) (by kernel_rfl) trivial (fun hHeld => ?_)
                refine wpAnyH_take (i := 0) (v := .bool true) rfl (by kernel_rfl) (by kernel_rfl) (by kernel_rfl) (fun _ _ _ h => h) (Or.inl ⟨by kernel_rfl, ?_⟩) (by assumption) ?_
                · intro w hSw; go_simp
                simp only [Act.put]
                refine wpAnyH_take (i := 1) (v := .bool true) rfl (by kernel_rfl) (by kernel_rfl) (by kernel_rfl) (fun _ _ _ h => h) (Or.inl ⟨by kernel_rfl, ?_⟩) (by assumption) ?_
                · intro w hSw; go_simp
                simp only [Act.put]
                refine wpAnyH_take (i := 2) (v := undef) rfl (by kernel_rfl) (by kernel_rfl) (by kernel_rfl) (fun _ _ _ h => h) (Or.inr ⟨by kernel_rfl, rfl⟩) (by assumption) ?_
                simp only [Act.put]
                refine wpAnyH_take (i := 3) (v := undef) rfl (by kernel_rfl) (by kernel_rfl) (by kernel_rfl) (fun _ _ _ h => h) (Or.inr ⟨by kernel_rfl, rfl⟩) (by assumption) ?_
                simp only [Act.put]
                refine wpAnyH_take (i := 4) (v := undef) rfl (by kernel_rfl) (by kernel_rfl) (by kernel_rfl) (fun _ _ _ h => h) (Or.inr ⟨by kernel_rfl, rfl⟩) (by assumption) ?_
                simp only [Act.put]
                refine wpAnyH_take (i := 5) (v := undef) rfl (by kernel_rfl) (by kernel_rfl) (by kernel_rfl) (fun _ _ _ h => h) (Or.inr ⟨by kernel_rfl, rfl⟩) (by assumption) ?_
                simp only [Act.put]
                refine wpAnyH_take (i := 6) (v := undef) rfl (by kernel_rfl) (by kernel_rfl) (by kernel_rfl) (fun _ _ _ h => h) (Or.inr ⟨by kernel_rfl, rfl⟩) (by assumption) ?_
                simp only [Act.put]
                refine wpAnyH_take (i := 7) (v := undef) rfl (by kernel_rfl) (by kernel_rfl) (by kernel_rfl) (fun _ _ _ h => h) (Or.inr ⟨by kernel_rfl, rfl⟩) (by assumption) ?_
                simp only [Act.put]
                refine wpAnyH_take (i := 8) (v := undef) rfl (by kernel_rfl) (by kernel_rfl) (by kernel_rfl) (fun _ _ _ h => h) (Or.inr ⟨by kernel_rfl, rfl⟩) (by assumption) ?_
                simp only [Act.put]
                refine wpAnyH_take (i := 9) (v := undef) rfl (by kernel_rfl) (by kernel_rfl) (by kernel_rfl) (fun _ _ _ h => h) (Or.inr ⟨by kernel_rfl, rfl⟩) (by assumption) ?_
                simp only [Act.put]
                refine wpAnyH_take (i := 10) (v := .bool true) rfl (by kernel_rfl) (by kernel_rfl) (by kernel_rfl) (fun _ _ _ h => h) (Or.inl ⟨by kernel_rfl, ?_⟩) (by assumption) ?_
                · intro w hSw; go_simp
                simp only [Act.put]
                refine wpAnyH_take (i := 11) (v := .bool true) rfl (by kernel_rfl) (by kernel_rfl) (by kernel_rfl) (fun _ _ _ h => h) (Or.inl ⟨by kernel_rfl, ?_⟩) (by assumption) ?_
                · intro w hSw; go_simp
                simp only [Act.put]
                refine wpAnyH_done (by kernel_rfl) ?_ _
                refine NoPanic.normal ?_
                go_wp2_with fail
                exact ⟨⟨j + 1, v ++ [yb], by omega, by omega, by omega, by simp [hv], by go_num, congrArg Value.bool (by rw [HSN.out]; exact flag_false yb mb HBB.out), row_drewN hW 2, hBw.drew.drew, hzs⟩, by simp [intOf]; omega⟩
              · refine NoPanic.normal ?_
                have hW := row_set hrow (i := j0 + j) yb
                rw [row_turn hv2 e3] at hW
                have hBw : Below w.heap.size w (wr.setCell ⟨nb, j0 + j, none⟩ (.int .u8 yb.toNat)) := hB.setCell (by show w.heap.size ≤ nb; omega) _
                have hcy : (wr.setCell ⟨nb, j0 + j, none⟩ (.int .u8 yb.toNat)).cell? ⟨nb, j0 + j, none⟩ = some (.int .u8 yb.toNat) := World.cell?_setCell_same _ _ _ hcv
                have hzs : nb < (wr.setCell ⟨nb, j0 + j, none⟩ (.int .u8 yb.toNat)).heap.size := by simpa [World.setCell] using hzl
                go_wp2_with fail
                go_quiet (fail)
                go_wp2_with fail
                exact ⟨⟨j + 1, v ++ [yb], by omega, by omega, by omega, by simp [hv], by go_num, congrArg Value.bool (by rw [HSN.out]; exact flag_true yb mb HBB.out), row_drewN hW _, below_drewN hBw _, hzs⟩, by simp [intOf]; omega⟩
            · go_simp
              refine (HPZ.out _).mono ?_
              rintro e w6 ⟨rfl, rfl⟩
              go_wp2_with fail
              refine hK.out _ _ trivial (fun hHeld => ?_)
              clear hK K
              refine wpAnyH_ready (rs := [5]) (by kernel_rfl) (by simp) ?_
              refine (AllReadyH.cons rfl (fun K hK => ?_) AllReadyH.nil)
              go_simp
              refine hK.out _ _ trivial (fun hHeld => ?_)
              clear hK K
              refine wpAnyH_take (i := 6) (v := .int .i64 mb.toNat) rfl (by kernel_rfl) (by kernel_rfl) (by kernel_rfl) (fun _ _ _ h => h) (Or.inl ⟨by kernel_rfl, ?_⟩) (by assumption) ?_
              · intro w hSw; go_simp
              simp only [Act.put]
              refine wpAnyH_take (i := 12) (v := .int .i64 ((mb.toNat : Int) + zz)) rfl (by kernel_rfl) (by kernel_rfl) (by kernel_rfl) (fun _ _ _ h => h) (Or.inl ⟨by kernel_rfl, ?_⟩) (by assumption) ?_
              · intro w hSw; go_simp
              simp only [Act.put]
              refine wpAnyH_take (i := 13) (v := .int .u8 yb.toNat) rfl (by kernel_rfl) (by kernel_rfl) (by kernel_rfl) (fun _ _ _ h => h) (Or.inl ⟨by kernel_rfl, ?_⟩) (by assumption) ?_
              · intro w hSw; go_simp
              simp only [Act.put]
              refine wpAnyH_take (i := 14) (v := .pointer (some ⟨nb, j0 + j, none⟩)) rfl (by kernel_rfl) (by kernel_rfl) (by kernel_rfl) (fun _ _ _ h => h) (Or.inl ⟨by kernel_rfl, ?_⟩) (by assumption) ?_
              · intro w hSw; go_simp
              simp only [Act.put]
              refine wpAnyH_ready (rs := [15]) (by kernel_rfl) (by simp) ?_
              refine (AllReadyH.cons rfl (fun K hK => ?_) AllReadyH.nil)
              go_simp
              refine hK.out _ _ trivial (fun hHeld => ?_)
              clear hK K
              refine wpAnyH_done (by kernel_rfl) ?_ _
              cases bb
              · refine NoPanic.normal ?_
                have hW := row_set hrow (i := j0 + j) yb
                rw [row_turn hv2 e3] at hW
                have hBw : Below w.heap.size w (wr.setCell ⟨nb, j0 + j, none⟩ (.int .u8 yb.toNat)) := hB.setCell (by show w.heap.size ≤ nb; omega) _
                have hcy : (wr.setCell ⟨nb, j0 + j, none⟩ (.int .u8 yb.toNat)).cell? ⟨nb, j0 + j, none⟩ = some (.int .u8 yb.toNat) := World.cell?_setCell_same _ _ _ hcv
                have hzs : nb < (wr.setCell ⟨nb, j0 + j, none⟩ (.int .u8 yb.toNat)).heap.size := by simpa [World.setCell] using hzl
                go_wp2_with fail
                refine wp_region_noPanic ?_
                refine wp_region_held_drew (S := fun _ => True) (by kernel_rfl) trivial (fun hHeld => ?_)
                refine wpAnyH_take (i := 0) (v := .bool true) rfl (by kernel_rfl) (by kernel_rfl) (by kernel_rfl) (fun _ _ _ h => h) (Or.inl ⟨by kernel_rfl, ?_⟩) (by assumption) ?_
                · intro w hSw; go_simp
                simp only [Act.put]
                refine wpAnyH_take (i := 1) (v := .bool true) rfl (by kernel_rfl) (by kernel_rfl) (by kernel_rfl) (fun _ _ _ h => h) (Or.inl ⟨by kernel_rfl, ?_⟩) (by assumption) ?_
                · intro w hSw; go_simp
                simp only [Act.put]
                refine wpAnyH_take (i := 2) (v := undef) rfl (by kernel_rfl) (by kernel_rfl) (by kernel_rfl) (fun _ _ _ h => h) (Or.inr ⟨by kernel_rfl, rfl⟩) (by assumption) ?_
                simp only [Act.put]
                refine wpAnyH_take (i := 3) (v := undef) rfl (by kernel_rfl) (by kernel_rfl) (by kernel_rfl) (fun _ _ _ h => h) (Or.inr ⟨by kernel_rfl, rfl⟩) (by assumption) ?_
                simp only [Act.put]
                refine wpAnyH_take (i := 4) (v := undef) rfl (by kernel_rfl) (by kernel_rfl) (by kernel_rfl) (fun _ _ _ h => h) (Or.inr ⟨by kernel_rfl, rfl⟩) (by assumption) ?_
                simp only [Act.put]
                refine wpAnyH_take (i := 5) (v := undef) rfl (by kernel_rfl) (by kernel_rfl) (by kernel_rfl) (fun _ _ _ h => h) (Or.inr ⟨by kernel_rfl, rfl⟩) (by assumption) ?_
                simp only [Act.put]
                refine wpAnyH_take (i := 6) (v := undef) rfl (by kernel_rfl) (by kernel_rfl) (by kernel_rfl) (fun _ _ _ h => h) (Or.inr ⟨by kernel_rfl, rfl⟩) (by assumption) ?_
                simp only [Act.put]
                refine wpAnyH_take (i := 7) (v := undef) rfl (by kernel_rfl) (by kernel_rfl) (by kernel_rfl) (fun _ _ _ h => h) (Or.inr ⟨by kernel_rfl, rfl⟩) (by assumption) ?_
                simp only [Act.put]
                refine wpAnyH_take (i := 8) (v := undef) rfl (by kernel_rfl) (by kernel_rfl) (by kernel_rfl) (fun _ _ _ h => h) (Or.inr ⟨by kernel_rfl, rfl⟩) (by assumption) ?_
                simp only [Act.put]
                refine wpAnyH_take (i := 9) (v := undef) rfl (by kernel_rfl) (by kernel_rfl) (by kernel_rfl) (fun _ _ _ h => h) (Or.inr ⟨by kernel_rfl, rfl⟩) (by assumption) ?_
                simp only [Act.put]
                refine wpAnyH_take (i := 10) (v := .bool true) rfl (by kernel_rfl) (by kernel_rfl) (by kernel_rfl) (fun _ _ _ h => h) (Or.inl ⟨by kernel_rfl, ?_⟩) (by assumption) ?_
                · intro w hSw; go_simp
                simp only [Act.put]
                refine wpAnyH_take (i := 11) (v := .bool true) rfl (by kernel_rfl) (by kernel_rfl) (by kernel_rfl) (fun _ _ _ h => h) (Or.inl ⟨by kernel_rfl, ?_⟩) (by assumption) ?_
                · intro w hSw; go_simp
                simp only [Act.put]
                refine wpAnyH_done (by kernel_rfl) ?_ _
                refine NoPanic.normal ?_
                go_wp2_with fail
                exact ⟨⟨j + 1, v ++ [yb], by omega, by omega, by omega, by simp [hv], by go_num, congrArg Value.bool (by rw [HSN.out]; exact flag_false yb mb HBB.out), row_drewN hW 2, hBw.drew.drew, hzs⟩, by simp [intOf]; omega⟩
              · refine NoPanic.normal ?_
                have hW := row_set hrow (i := j0 + j) yb
                rw [row_turn hv2 e3] at hW
                have hBw : Below w.heap.size w (wr.setCell ⟨nb, j0 + j, none⟩ (.int .u8 yb.toNat)) := hB.setCell (by show w.heap.size ≤ nb; omega) _
                have hcy : (wr.setCell ⟨nb, j0 + j, none⟩ (.int .u8 yb.toNat)).cell? ⟨nb, j0 + j, none⟩ = some (.int .u8 yb.toNat) := World.cell?_setCell_same _ _ _ hcv
                have hzs : nb < (wr.setCell ⟨nb, j0 + j, none⟩ (.int .u8 yb.toNat)).heap.size := by simpa [World.setCell] using hzl
                go_wp2_with fail
                go_quiet (fail)
                go_wp2_with fail
                exact ⟨⟨j + 1, v ++ [yb], by omega, by omega, by omega, by simp [hv], by go_num, congrArg Value.bool (by rw [HSN.out]; exact flag_true yb mb HBB.out), row_drewN hW _, below_drewN hBw _, hzs⟩, by simp [intOf]; omega⟩
        · have r3 : (M.length : Int) ≤ (j0 : Int) + (j : Int) := by omega
          have hcl : (M.take j0 ++ v ++ M.drop (j0 + j)).length = M.length := by simp; omega
          have hback := conv_back wr nb cp _ hrow
          rw [hcl] at hback
          have hSl := hS.later hB
          generalize hbb : decide (v = (M.drop j0).take j) = bb at *
          cases bb
          · have hne : (M.drop j0).take j ≠ v := fun e => by simp [e] at hbb
            obtain ⟨i, hi, hbad⟩ := HT.out (M.take j0) ((M.drop j0).take j) v (M.drop (j0 + j)) (by rw [List.append_assoc, ← List.drop_drop, List.take_append_drop, List.take_append_drop]) (by simp; omega) (by simp; omega) hne (by simp; omega)
            have hen : (errnoOf i != 0) = true := by
              match i, hi with
              | 0, _ => rfl
              | 1, _ => rfl
              | 2, _ => rfl
              | 3, _ => rfl
              | 4, _ => rfl
              | 5, _ => rfl
            have hD := decode_bad hi hbad wr a hSl
            generalize M.take j0 ++ v ++ M.drop (j0 + j) = cl at *
            generalize errnoOf i = er at *
            have HDD : Hid (Calls Tryd.prog 7 #[.string (bs cl)] wr fun e w' => e = .returned (.tuple #[.agg #[.int .i64 0, .int .i64 0, .int .i64 0, .int .i64 0], .int .i64 er]) ∧ Below wr.heap.size wr w') := hD
            clear hD hbad hts hbb hwin hv
            go_wp2_with fail
            refine HDD.out.mono ?_
            rintro e w6 ⟨rfl, hb6⟩
            have hz6 := hb6.size
            go_wp2_with fail
            go_ret
            exact ⟨rfl, (hB.trans (hb6.mono (by omega))).alloc (by omega) _⟩
          · have hvv : v = (M.drop j0).take j := by simpa using hbb
            have hcM : M.take j0 ++ v ++ M.drop (j0 + j) = M := by rw [hvv, List.append_assoc, ← List.drop_drop, List.take_append_drop, List.take_append_drop]
            rw [hcM] at hback
            have hD := HD.out wr hSl
            have HDD : Hid (Calls Tryd.prog 7 #[.string (bs M)] wr fun e w' => e = .returned (.tuple #[.agg #[.int .i64 (1 + k0), .int .i64 f0, .int .i64 t0, .int .i64 (1 + x0)], .int .i64 0]) ∧ Below wr.heap.size wr w') := hD
            clear hD hts hbb hwin hv hvv hcM hrow
            go_wp2_with fail
            refine HDD.out.mono ?_
            rintro e w6 ⟨rfl, hb6⟩
            have hz6 := hb6.size
            go_wp2_with fail
            go_ret
            exact ⟨rfl, (hB.trans (hb6.mono (by omega))).alloc (by omega) _⟩
      · have r1 : ¬ ((j : Int) < (n : Int)) := by omega
        have hcl : (M.take j0 ++ v ++ M.drop (j0 + j)).length = M.length := by simp; omega
        have hback := conv_back wr nb cp _ hrow
        rw [hcl] at hback
        have hSl := hS.later hB
        generalize hbb : decide (v = (M.drop j0).take j) = bb at *
        cases bb
        · have hne : (M.drop j0).take j ≠ v := fun e => by simp [e] at hbb
          obtain ⟨i, hi, hbad⟩ := HT.out (M.take j0) ((M.drop j0).take j) v (M.drop (j0 + j)) (by rw [List.append_assoc, ← List.drop_drop, List.take_append_drop, List.take_append_drop]) (by simp; omega) (by simp; omega) hne (by simp; omega)
          have hen : (errnoOf i != 0) = true := by
            match i, hi with
            | 0, _ => rfl
            | 1, _ => rfl
            | 2, _ => rfl
            | 3, _ => rfl
            | 4, _ => rfl
            | 5, _ => rfl
          have hD := decode_bad hi hbad wr a hSl
          generalize M.take j0 ++ v ++ M.drop (j0 + j) = cl at *
          generalize errnoOf i = er at *
          have HDD : Hid (Calls Tryd.prog 7 #[.string (bs cl)] wr fun e w' => e = .returned (.tuple #[.agg #[.int .i64 0, .int .i64 0, .int .i64 0, .int .i64 0], .int .i64 er]) ∧ Below wr.heap.size wr w') := hD
          clear hD hbad hts hbb hwin hv
          go_wp2_with fail
          refine HDD.out.mono ?_
          rintro e w6 ⟨rfl, hb6⟩
          have hz6 := hb6.size
          go_wp2_with fail
          go_ret
          exact ⟨rfl, (hB.trans (hb6.mono (by omega))).alloc (by omega) _⟩
        · have hvv : v = (M.drop j0).take j := by simpa using hbb
          have hcM : M.take j0 ++ v ++ M.drop (j0 + j) = M := by rw [hvv, List.append_assoc, ← List.drop_drop, List.take_append_drop, List.take_append_drop]
          rw [hcM] at hback
          have hD := HD.out wr hSl
          have HDD : Hid (Calls Tryd.prog 7 #[.string (bs M)] wr fun e w' => e = .returned (.tuple #[.agg #[.int .i64 (1 + k0), .int .i64 f0, .int .i64 t0, .int .i64 (1 + x0)], .int .i64 0]) ∧ Below wr.heap.size wr w') := hD
          clear hD hts hbb hwin hv hvv hcM hrow
          go_wp2_with fail
          refine HDD.out.mono ?_
          rintro e w6 ⟨rfl, hb6⟩
          have hz6 := hb6.size
          go_wp2_with fail
          go_ret
          exact ⟨rfl, (hB.trans (hb6.mono (by omega))).alloc (by omega) _⟩
    · have r1 : ¬ ((j : Int) < 4) := by omega
      have hcl : (M.take j0 ++ v ++ M.drop (j0 + j)).length = M.length := by simp; omega
      have hback := conv_back wr nb cp _ hrow
      rw [hcl] at hback
      have hSl := hS.later hB
      generalize hbb : decide (v = (M.drop j0).take j) = bb at *
      cases bb
      · have hne : (M.drop j0).take j ≠ v := fun e => by simp [e] at hbb
        obtain ⟨i, hi, hbad⟩ := HT.out (M.take j0) ((M.drop j0).take j) v (M.drop (j0 + j)) (by rw [List.append_assoc, ← List.drop_drop, List.take_append_drop, List.take_append_drop]) (by simp; omega) (by simp; omega) hne (by simp; omega)
        have hen : (errnoOf i != 0) = true := by
          match i, hi with
          | 0, _ => rfl
          | 1, _ => rfl
          | 2, _ => rfl
          | 3, _ => rfl
          | 4, _ => rfl
          | 5, _ => rfl
        have hD := decode_bad hi hbad wr a hSl
        generalize M.take j0 ++ v ++ M.drop (j0 + j) = cl at *
        generalize errnoOf i = er at *
        have HDD : Hid (Calls Tryd.prog 7 #[.string (bs cl)] wr fun e w' => e = .returned (.tuple #[.agg #[.int .i64 0, .int .i64 0, .int .i64 0, .int .i64 0], .int .i64 er]) ∧ Below wr.heap.size wr w') := hD
        clear hD hbad hts hbb hwin hv
        go_wp2_with fail
        refine HDD.out.mono ?_
        rintro e w6 ⟨rfl, hb6⟩
        have hz6 := hb6.size
        go_wp2_with fail
        go_ret
        exact ⟨rfl, (hB.trans (hb6.mono (by omega))).alloc (by omega) _⟩
      · have hvv : v = (M.drop j0).take j := by simpa using hbb
        have hcM : M.take j0 ++ v ++ M.drop (j0 + j) = M := by rw [hvv, List.append_assoc, ← List.drop_drop, List.take_append_drop, List.take_append_drop]
        rw [hcM] at hback
        have hD := HD.out wr hSl
        have HDD : Hid (Calls Tryd.prog 7 #[.string (bs M)] wr fun e w' => e = .returned (.tuple #[.agg #[.int .i64 (1 + k0), .int .i64 f0, .int .i64 t0, .int .i64 (1 + x0)], .int .i64 0]) ∧ Below wr.heap.size wr w') := hD
        clear hD hts hbb hwin hv hvv hcM hrow
        go_wp2_with fail
        refine HDD.out.mono ?_
        rintro e w6 ⟨rfl, hb6⟩
        have hz6 := hb6.size
        go_wp2_with fail
        go_ret
        exact ⟨rfl, (hB.trans (hb6.mono (by omega))).alloc (by omega) _⟩
end Go.Proofs.YtfpojgljgbgkkaaDoor
