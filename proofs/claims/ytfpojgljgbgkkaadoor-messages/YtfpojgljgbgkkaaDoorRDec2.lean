/-
  The document's Decode where the sum is right.
-/
import Derived.Test.YtfpojgljgbgkkaaDoorRTx
namespace Go.Proofs.YtfpojgljgbgkkaaDoor
open Go.RowKit

attribute [local go_sem] bs_append bs_size nums_len sumL_len List.length_append List.length_cons List.length_nil bs_get0 bs_get1 bs_get2
attribute [local go_sem ↓] Go.wp_at_zero Go.wp_at_succ

set_option maxRecDepth 100000 in
set_option maxHeartbeats 4000000 in
theorem rdec_no_same (n k f t : UInt8) (r s m : List UInt8) (x : Int) (w : World) (hc : (k :: f :: t :: r).length = n.toNat) (hs : s.length = 4) (he : sumL (44 :: n :: (k :: f :: t :: r)) = s) (h4 : 1 ≤ r.length)
    (hx : ∀ w1, Calls Tryd.prog 24 #[.string (bs r)] w1 fun e w' => e = .returned (.int .i64 x) ∧ w1 = w')
    (hN : ∀ w1, Calls Tryd.prog 8 #[.agg #[.int .i64 k.toNat, .int .i64 f.toNat, .int .i64 t.toNat, .int .i64 x]] w1 fun e w' => e = .returned (.tuple #[.string (bs m), .int .i64 3]) ∧ Below w1.heap.size w1 w') :
    Calls Tryd.prog 9 #[.string (bs (44 :: n :: (k :: f :: t :: r ++ s)))] w fun e w' => Refused w w' e 7 := by
  have HX : Hid (∀ w1, Calls Tryd.prog 24 #[.string (bs r)] w1 fun e w' => e = .returned (.int .i64 x) ∧ w1 = w') := hx
  have HN : Hid (∀ w1, Calls Tryd.prog 8 #[.agg #[.int .i64 k.toNat, .int .i64 f.toNat, .int .i64 t.toNat, .int .i64 x]] w1 fun e w' => e = .returned (.tuple #[.string (bs m), .int .i64 3]) ∧ Below w1.heap.size w1 w') := hN
  clear hx hN
  have hr : r.length ≤ 300 := by have := n.toNat_lt; simp at hc; omega
  have hk := k.toNat_lt
  have hf := f.toNat_lt
  have ht := t.toNat_lt
  have hL4 : ((k :: f :: t :: r).length : Int) = (r.length : Int) + 3 := by simp; omega
  have p0 : ∀ i, (bs (k :: f :: t :: r))[0]'i = k := fun i => rfl
  have p1 : ∀ i, (bs (k :: f :: t :: r))[1]'i = f := fun i => rfl
  have p2 : ∀ i, (bs (k :: f :: t :: r))[2]'i = t := fun i => rfl
  have p3 : (bs (k :: f :: t :: r)).extract 3 (k :: f :: t :: r).length = bs r := by rw [bs_extract]; simp
  have s0 : (0 : Int) < ((k :: f :: t :: r).length : Int) := by omega
  have s1 : (1 : Int) < ((k :: f :: t :: r).length : Int) := by omega
  have s2 : (2 : Int) < ((k :: f :: t :: r).length : Int) := by omega
  have s3 : (3 : Int) ≤ ((k :: f :: t :: r).length : Int) := by omega
  have s4 : ¬ (((k :: f :: t :: r).length : Int) < 4) := by omega
  have cn : ¬ (k :: f :: t :: r = []) := by simp
  have wk := wrap64' (k.toNat : Int) (by omega) (by omega)
  have wf := wrap64' (f.toNat : Int) (by omega) (by omega)
  have wt := wrap64' (t.toNat : Int) (by omega) (by omega)
  clear hL4
  generalize k :: f :: t :: r = c at *
  have q : (bs (44 :: n :: (c ++ s))).toList.isEmpty = false := by rw [bs_toList]; rfl
  have hn := n.toNat_lt
  have g0 : ∀ i, (bs (44 :: n :: (c ++ s)))[0]'i = 44 := fun i => rfl
  have g1 : ∀ i, (bs (44 :: n :: (c ++ s)))[1]'i = n := fun i => rfl
  have x1 : (bs (44 :: n :: (c ++ s))).extract 0 (44 :: n :: c).length = bs (44 :: n :: c) := by
    rw [bs_extract, show 44 :: n :: (c ++ s) = (44 :: n :: c) ++ s from rfl]; simp
  have x2 : (bs (44 :: n :: (c ++ s))).extract (44 :: n :: c).length (44 :: n :: (c ++ s)).length = bs s := by
    rw [bs_extract, show 44 :: n :: (c ++ s) = (44 :: n :: c) ++ s from rfl]; simp
  have x3 : (bs (44 :: n :: (c ++ s))).extract 2 (44 :: n :: c).length = bs c := by
    rw [bs_extract, show 44 :: n :: (c ++ s) = [44, n] ++ (c ++ s) from rfl]; simp
  have e4 : ((44 :: n :: (c ++ s)).length : Int) - 4 = ((44 :: n :: c).length : Int) := by simp; omega
  have e5 : IntKind.i64.wrap ((44 :: n :: c).length : Int) = ((44 :: n :: c).length : Int) := by rw [IntKind.wrap_i64]; simp; omega
  have q0 : (0 : Int) < ((44 :: n :: (c ++ s)).length : Int) := by simp; omega
  have q1 : (1 : Int) < ((44 :: n :: (c ++ s)).length : Int) := by simp; omega
  have q2 : ¬ (((44 :: n :: (c ++ s)).length : Int) < 2) := by simp; omega
  have q3 : ¬ (((44 :: n :: (c ++ s)).length : Int) < 6 + (n.toNat : Int)) := by simp; omega
  have q4 : ¬ (6 + (n.toNat : Int) < ((44 :: n :: (c ++ s)).length : Int)) := by simp; omega
  have q5 : ((44 :: n :: c).length : Int) ≤ ((44 :: n :: (c ++ s)).length : Int) := by simp; omega
  have q6 : (2 : Int) ≤ ((44 :: n :: c).length : Int) := by simp; omega
  have hle : (44 :: n :: c).length ≤ 300 := by simp; omega
  have hff : ((bs (sumL (44 :: n :: c))).toList == (bs s).toList) = true := by rw [he]; simp
  clear he
  generalize 44 :: n :: c = h at *
  generalize 44 :: n :: (c ++ s) = L at *
  clear hc
  go_enter Tryd.func9, Tryd.ntmps9
  go_wp2
  go_region_with (go_at_call 23; refine (refSum_bs h _ (by unfold maxLen; omega)).mono ?_; rintro e w1 ⟨rfl, hb1⟩)
  obtain ⟨hc1, hf1⟩ := bcell hb1
  have c0 : ∀ o, w1.cell? ⟨w.heap.size, o, none⟩ = (w.alloc (.cells #[.int .i64 0, .int .i64 0, .int .i64 0, .int .i64 0] 23)).cell? ⟨w.heap.size, o, none⟩ := fun o => by
    rw [hc1 _ _ (by simp)]; simp
  have f0 : ∀ o, w1.frozen? ⟨w.heap.size, o, none⟩ = false := fun o => by
    rw [hf1 _ _ (by simp)]; simp
  have hz1 : w.heap.size < w1.heap.size := by have := hb1.size; simp at this; omega
  clear hc1 hf1
  go_wp2_with fail
  refine wp_region_noPanic ?_
  refine wp_region_held_drew (S := fun _ => True) (by kernel_rfl) trivial (fun hHeld => ?_)
  refine wpAnyH_take (i := 0) (v := .string (bs c)) rfl (by kernel_rfl) (by kernel_rfl) (by kernel_rfl) (fun _ _ _ h => h) (Or.inl ⟨by rfl, ?_⟩) (by assumption) ?_
  · intro w hSw; go_simp
  simp only [Act.put]
  refine wpAnyH_take (i := 1) (v := .int .u8 k.toNat) rfl (by kernel_rfl) (by kernel_rfl) (by kernel_rfl) (fun _ _ _ h => h) (Or.inl ⟨by rfl, ?_⟩) (by assumption) ?_
  · intro w hSw; go_simp
  simp only [Act.put]
  refine wpAnyH_take (i := 2) (v := .int .i64 k.toNat) rfl (by kernel_rfl) (by kernel_rfl) (by kernel_rfl) (fun _ _ _ h => h) (Or.inl ⟨by rfl, ?_⟩) (by assumption) ?_
  · intro w hSw; go_simp
  simp only [Act.put]
  refine wpAnyH_take (i := 3) (v := .string (bs c)) rfl (by kernel_rfl) (by kernel_rfl) (by kernel_rfl) (fun _ _ _ h => h) (Or.inl ⟨by rfl, ?_⟩) (by assumption) ?_
  · intro w hSw; go_simp
  simp only [Act.put]
  refine wpAnyH_take (i := 4) (v := .int .u8 f.toNat) rfl (by kernel_rfl) (by kernel_rfl) (by kernel_rfl) (fun _ _ _ h => h) (Or.inl ⟨by rfl, ?_⟩) (by assumption) ?_
  · intro w hSw; go_simp
  simp only [Act.put]
  refine wpAnyH_take (i := 5) (v := .int .i64 f.toNat) rfl (by kernel_rfl) (by kernel_rfl) (by kernel_rfl) (fun _ _ _ h => h) (Or.inl ⟨by rfl, ?_⟩) (by assumption) ?_
  · intro w hSw; go_simp
  simp only [Act.put]
  refine wpAnyH_take (i := 6) (v := .string (bs c)) rfl (by kernel_rfl) (by kernel_rfl) (by kernel_rfl) (fun _ _ _ h => h) (Or.inl ⟨by rfl, ?_⟩) (by assumption) ?_
  · intro w hSw; go_simp
  simp only [Act.put]
  refine wpAnyH_take (i := 7) (v := .int .u8 t.toNat) rfl (by kernel_rfl) (by kernel_rfl) (by kernel_rfl) (fun _ _ _ h => h) (Or.inl ⟨by rfl, ?_⟩) (by assumption) ?_
  · intro w hSw; go_simp
  simp only [Act.put]
  refine wpAnyH_take (i := 8) (v := .int .i64 t.toNat) rfl (by kernel_rfl) (by kernel_rfl) (by kernel_rfl) (fun _ _ _ h => h) (Or.inl ⟨by rfl, ?_⟩) (by assumption) ?_
  · intro w hSw; go_simp
  simp only [Act.put]
  refine wpAnyH_take (i := 9) (v := .string (bs c)) rfl (by kernel_rfl) (by kernel_rfl) (by kernel_rfl) (fun _ _ _ h => h) (Or.inl ⟨by rfl, ?_⟩) (by assumption) ?_
  · intro w hSw; go_simp
  simp only [Act.put]
  refine wpAnyH_take (i := 10) (v := .string (bs r)) rfl (by kernel_rfl) (by kernel_rfl) (by kernel_rfl) (fun _ _ _ h => h) (Or.inl ⟨by rfl, ?_⟩) (by assumption) ?_
  · intro w hSw; go_simp
  simp only [Act.put]
  refine wpAnyH_ready (rs := [11, 13]) (by kernel_rfl) (by simp) ?_
  refine (AllReadyH.cons rfl (fun K hK => ?_) (AllReadyH.cons rfl (fun K hK => ?_) AllReadyH.nil))
  · go_simp
    refine (HX.out _).mono ?_
    rintro e w2 ⟨rfl, rfl⟩
    go_wp2_with fail
    refine hK.out _ _ trivial (fun hHeld => ?_)
    clear hK K
    refine wpAnyH_take (i := 12) (v := .agg #[.int .i64 k.toNat, .int .i64 f.toNat, .int .i64 t.toNat, .int .i64 x]) rfl (by kernel_rfl) (by kernel_rfl) (by kernel_rfl) (fun _ _ _ h => h) (Or.inl ⟨by rfl, ?_⟩) (by assumption) ?_
    · intro w hSw; go_simp
    simp only [Act.put]
    refine wpAnyH_ready (rs := [13]) (by kernel_rfl) (by simp) ?_
    refine (AllReadyH.cons rfl (fun K hK => ?_) AllReadyH.nil)
    go_simp
    refine hK.out _ _ trivial (fun hHeld => ?_)
    clear hK K
    refine wpAnyH_ready (rs := [14]) (by kernel_rfl) (by simp) ?_
    refine (AllReadyH.cons rfl (fun K hK => ?_) AllReadyH.nil)
    go_simp
    refine hK.out _ _ trivial (fun hHeld => ?_)
    clear hK K
    refine wpAnyH_done (by kernel_rfl) ?_ _
    refine NoPanic.normal ?_
    go_wp2_with fail
    refine (HN.out _).mono ?_
    rintro e w3 ⟨rfl, hb3⟩
    obtain ⟨hc3, hf3⟩ := bcell hb3
    have c3 : ∀ o, w3.cell? ⟨w.heap.size, o, none⟩ = (w.alloc (.cells #[.int .i64 0, .int .i64 0, .int .i64 0, .int .i64 0] 23)).cell? ⟨w.heap.size, o, none⟩ := fun o => by
      rw [hc3 _ _ (by simp; omega)]
      simp only [World.cell?_drew]
      rw [World.cell?_alloc_lt _ _ _ hz1, c0]
    have f3 : ∀ o, w3.frozen? ⟨w.heap.size, o, none⟩ = false := fun o => by
      rw [hf3 _ _ (by simp; omega)]
      simp only [World.frozen?_drew]
      rw [World.frozen?_alloc_old _ _ _ (Nat.ne_of_lt hz1), f0]
    have m3 : ∀ o, w3.cell? ⟨w1.heap.size, o, none⟩ = (w1.alloc (.cells #[.int .i64 k.toNat, .int .i64 f.toNat, .int .i64 t.toNat, .int .i64 x] 23)).cell? ⟨w1.heap.size, o, none⟩ := fun o => by
      rw [hc3 _ _ (by simp)]; simp
    have hz3 : w1.heap.size < w3.heap.size := by have := hb3.size; simp at this; omega
    clear hc3 hf3 c0 f0
    go_wp2_with fail
    exact bodyPost_ret (v := .tuple #[.agg #[.int .i64 0, .int .i64 0, .int .i64 0, .int .i64 0], .int .i64 7]) (by simp [results, Tryd.results9, go_sem, c3]) rfl ⟨rfl, (((((((((Below.refl _ _).alloc (Nat.le_refl _) _).drew.trans (hb1.mono (by simp))).alloc (by omega) _).drew.trans (hb3.mono (by simp; omega))).setCell (by simp) _).setCell (by simp) _).setCell (by simp) _).setCell (by simp) _)⟩
  · go_simp
    refine hK.out _ _ trivial (fun hHeld => ?_)
    clear hK K
    refine wpAnyH_ready (rs := [11]) (by kernel_rfl) (by simp) ?_
    refine (AllReadyH.cons rfl (fun K hK => ?_) AllReadyH.nil)
    go_simp
    refine (HX.out _).mono ?_
    rintro e w2 ⟨rfl, rfl⟩
    go_wp2_with fail
    refine hK.out _ _ trivial (fun hHeld => ?_)
    clear hK K
    refine wpAnyH_take (i := 12) (v := .agg #[.int .i64 k.toNat, .int .i64 f.toNat, .int .i64 t.toNat, .int .i64 x]) rfl (by kernel_rfl) (by kernel_rfl) (by kernel_rfl) (fun _ _ _ h => h) (Or.inl ⟨by rfl, ?_⟩) (by assumption) ?_
    · intro w hSw; go_simp
    simp only [Act.put]
    refine wpAnyH_ready (rs := [14]) (by kernel_rfl) (by simp) ?_
    refine (AllReadyH.cons rfl (fun K hK => ?_) AllReadyH.nil)
    go_simp
    refine hK.out _ _ trivial (fun hHeld => ?_)
    clear hK K
    refine wpAnyH_done (by kernel_rfl) ?_ _
    refine NoPanic.normal ?_
    go_wp2_with fail
    refine (HN.out _).mono ?_
    rintro e w3 ⟨rfl, hb3⟩
    obtain ⟨hc3, hf3⟩ := bcell hb3
    have c3 : ∀ o, w3.cell? ⟨w.heap.size, o, none⟩ = (w.alloc (.cells #[.int .i64 0, .int .i64 0, .int .i64 0, .int .i64 0] 23)).cell? ⟨w.heap.size, o, none⟩ := fun o => by
      rw [hc3 _ _ (by simp; omega)]
      simp only [World.cell?_drew]
      rw [World.cell?_alloc_lt _ _ _ hz1, c0]
    have f3 : ∀ o, w3.frozen? ⟨w.heap.size, o, none⟩ = false := fun o => by
      rw [hf3 _ _ (by simp; omega)]
      simp only [World.frozen?_drew]
      rw [World.frozen?_alloc_old _ _ _ (Nat.ne_of_lt hz1), f0]
    have m3 : ∀ o, w3.cell? ⟨w1.heap.size, o, none⟩ = (w1.alloc (.cells #[.int .i64 k.toNat, .int .i64 f.toNat, .int .i64 t.toNat, .int .i64 x] 23)).cell? ⟨w1.heap.size, o, none⟩ := fun o => by
      rw [hc3 _ _ (by simp)]; simp
    have hz3 : w1.heap.size < w3.heap.size := by have := hb3.size; simp at this; omega
    clear hc3 hf3 c0 f0
    go_wp2_with fail
    exact bodyPost_ret (v := .tuple #[.agg #[.int .i64 0, .int .i64 0, .int .i64 0, .int .i64 0], .int .i64 7]) (by simp [results, Tryd.results9, go_sem, c3]) rfl ⟨rfl, (((((((((Below.refl _ _).alloc (Nat.le_refl _) _).drew.trans (hb1.mono (by simp))).alloc (by omega) _).drew.trans (hb3.mono (by simp; omega))).setCell (by simp) _).setCell (by simp) _).setCell (by simp) _).setCell (by simp) _)⟩

set_option maxRecDepth 100000 in
set_option maxHeartbeats 4000000 in
theorem rdec_ne_same (n k f t : UInt8) (r s m : List UInt8) (x : Int) (w : World) (hc : (k :: f :: t :: r).length = n.toNat) (hs : s.length = 4) (he : sumL (44 :: n :: (k :: f :: t :: r)) = s) (h4 : 1 ≤ r.length)
    (hx : ∀ w1, Calls Tryd.prog 24 #[.string (bs r)] w1 fun e w' => e = .returned (.int .i64 x) ∧ w1 = w')
    (hN : ∀ w1, Calls Tryd.prog 8 #[.agg #[.int .i64 k.toNat, .int .i64 f.toNat, .int .i64 t.toNat, .int .i64 x]] w1 fun e w' => e = .returned (.tuple #[.string (bs m), .int .i64 0]) ∧ Below w1.heap.size w1 w') (hm : m ≠ 44 :: n :: (k :: f :: t :: r ++ s)) :
    Calls Tryd.prog 9 #[.string (bs (44 :: n :: (k :: f :: t :: r ++ s)))] w fun e w' => Refused w w' e 7 := by
  have HX : Hid (∀ w1, Calls Tryd.prog 24 #[.string (bs r)] w1 fun e w' => e = .returned (.int .i64 x) ∧ w1 = w') := hx
  have HN : Hid (∀ w1, Calls Tryd.prog 8 #[.agg #[.int .i64 k.toNat, .int .i64 f.toNat, .int .i64 t.toNat, .int .i64 x]] w1 fun e w' => e = .returned (.tuple #[.string (bs m), .int .i64 0]) ∧ Below w1.heap.size w1 w') := hN
  clear hx hN
  have hr : r.length ≤ 300 := by have := n.toNat_lt; simp at hc; omega
  have hk := k.toNat_lt
  have hf := f.toNat_lt
  have ht := t.toNat_lt
  have hL4 : ((k :: f :: t :: r).length : Int) = (r.length : Int) + 3 := by simp; omega
  have p0 : ∀ i, (bs (k :: f :: t :: r))[0]'i = k := fun i => rfl
  have p1 : ∀ i, (bs (k :: f :: t :: r))[1]'i = f := fun i => rfl
  have p2 : ∀ i, (bs (k :: f :: t :: r))[2]'i = t := fun i => rfl
  have p3 : (bs (k :: f :: t :: r)).extract 3 (k :: f :: t :: r).length = bs r := by rw [bs_extract]; simp
  have s0 : (0 : Int) < ((k :: f :: t :: r).length : Int) := by omega
  have s1 : (1 : Int) < ((k :: f :: t :: r).length : Int) := by omega
  have s2 : (2 : Int) < ((k :: f :: t :: r).length : Int) := by omega
  have s3 : (3 : Int) ≤ ((k :: f :: t :: r).length : Int) := by omega
  have s4 : ¬ (((k :: f :: t :: r).length : Int) < 4) := by omega
  have cn : ¬ (k :: f :: t :: r = []) := by simp
  have wk := wrap64' (k.toNat : Int) (by omega) (by omega)
  have wf := wrap64' (f.toNat : Int) (by omega) (by omega)
  have wt := wrap64' (t.toNat : Int) (by omega) (by omega)
  clear hL4
  generalize k :: f :: t :: r = c at *
  have hmm : ((bs m).toList == (bs (44 :: n :: (c ++ s))).toList) = false := by
    rw [beq_eq_false_iff_ne, bs_toList, bs_toList]; exact hm
  clear hm
  have q : (bs (44 :: n :: (c ++ s))).toList.isEmpty = false := by rw [bs_toList]; rfl
  have hn := n.toNat_lt
  have g0 : ∀ i, (bs (44 :: n :: (c ++ s)))[0]'i = 44 := fun i => rfl
  have g1 : ∀ i, (bs (44 :: n :: (c ++ s)))[1]'i = n := fun i => rfl
  have x1 : (bs (44 :: n :: (c ++ s))).extract 0 (44 :: n :: c).length = bs (44 :: n :: c) := by
    rw [bs_extract, show 44 :: n :: (c ++ s) = (44 :: n :: c) ++ s from rfl]; simp
  have x2 : (bs (44 :: n :: (c ++ s))).extract (44 :: n :: c).length (44 :: n :: (c ++ s)).length = bs s := by
    rw [bs_extract, show 44 :: n :: (c ++ s) = (44 :: n :: c) ++ s from rfl]; simp
  have x3 : (bs (44 :: n :: (c ++ s))).extract 2 (44 :: n :: c).length = bs c := by
    rw [bs_extract, show 44 :: n :: (c ++ s) = [44, n] ++ (c ++ s) from rfl]; simp
  have e4 : ((44 :: n :: (c ++ s)).length : Int) - 4 = ((44 :: n :: c).length : Int) := by simp; omega
  have e5 : IntKind.i64.wrap ((44 :: n :: c).length : Int) = ((44 :: n :: c).length : Int) := by rw [IntKind.wrap_i64]; simp; omega
  have q0 : (0 : Int) < ((44 :: n :: (c ++ s)).length : Int) := by simp; omega
  have q1 : (1 : Int) < ((44 :: n :: (c ++ s)).length : Int) := by simp; omega
  have q2 : ¬ (((44 :: n :: (c ++ s)).length : Int) < 2) := by simp; omega
  have q3 : ¬ (((44 :: n :: (c ++ s)).length : Int) < 6 + (n.toNat : Int)) := by simp; omega
  have q4 : ¬ (6 + (n.toNat : Int) < ((44 :: n :: (c ++ s)).length : Int)) := by simp; omega
  have q5 : ((44 :: n :: c).length : Int) ≤ ((44 :: n :: (c ++ s)).length : Int) := by simp; omega
  have q6 : (2 : Int) ≤ ((44 :: n :: c).length : Int) := by simp; omega
  have hle : (44 :: n :: c).length ≤ 300 := by simp; omega
  have hff : ((bs (sumL (44 :: n :: c))).toList == (bs s).toList) = true := by rw [he]; simp
  clear he
  generalize 44 :: n :: c = h at *
  generalize 44 :: n :: (c ++ s) = L at *
  clear hc
  go_enter Tryd.func9, Tryd.ntmps9
  go_wp2
  go_region_with (go_at_call 23; refine (refSum_bs h _ (by unfold maxLen; omega)).mono ?_; rintro e w1 ⟨rfl, hb1⟩)
  obtain ⟨hc1, hf1⟩ := bcell hb1
  have c0 : ∀ o, w1.cell? ⟨w.heap.size, o, none⟩ = (w.alloc (.cells #[.int .i64 0, .int .i64 0, .int .i64 0, .int .i64 0] 23)).cell? ⟨w.heap.size, o, none⟩ := fun o => by
    rw [hc1 _ _ (by simp)]; simp
  have f0 : ∀ o, w1.frozen? ⟨w.heap.size, o, none⟩ = false := fun o => by
    rw [hf1 _ _ (by simp)]; simp
  have hz1 : w.heap.size < w1.heap.size := by have := hb1.size; simp at this; omega
  clear hc1 hf1
  go_wp2_with fail
  refine wp_region_noPanic ?_
  refine wp_region_held_drew (S := fun _ => True) (by kernel_rfl) trivial (fun hHeld => ?_)
  refine wpAnyH_take (i := 0) (v := .string (bs c)) rfl (by kernel_rfl) (by kernel_rfl) (by kernel_rfl) (fun _ _ _ h => h) (Or.inl ⟨by rfl, ?_⟩) (by assumption) ?_
  · intro w hSw; go_simp
  simp only [Act.put]
  refine wpAnyH_take (i := 1) (v := .int .u8 k.toNat) rfl (by kernel_rfl) (by kernel_rfl) (by kernel_rfl) (fun _ _ _ h => h) (Or.inl ⟨by rfl, ?_⟩) (by assumption) ?_
  · intro w hSw; go_simp
  simp only [Act.put]
  refine wpAnyH_take (i := 2) (v := .int .i64 k.toNat) rfl (by kernel_rfl) (by kernel_rfl) (by kernel_rfl) (fun _ _ _ h => h) (Or.inl ⟨by rfl, ?_⟩) (by assumption) ?_
  · intro w hSw; go_simp
  simp only [Act.put]
  refine wpAnyH_take (i := 3) (v := .string (bs c)) rfl (by kernel_rfl) (by kernel_rfl) (by kernel_rfl) (fun _ _ _ h => h) (Or.inl ⟨by rfl, ?_⟩) (by assumption) ?_
  · intro w hSw; go_simp
  simp only [Act.put]
  refine wpAnyH_take (i := 4) (v := .int .u8 f.toNat) rfl (by kernel_rfl) (by kernel_rfl) (by kernel_rfl) (fun _ _ _ h => h) (Or.inl ⟨by rfl, ?_⟩) (by assumption) ?_
  · intro w hSw; go_simp
  simp only [Act.put]
  refine wpAnyH_take (i := 5) (v := .int .i64 f.toNat) rfl (by kernel_rfl) (by kernel_rfl) (by kernel_rfl) (fun _ _ _ h => h) (Or.inl ⟨by rfl, ?_⟩) (by assumption) ?_
  · intro w hSw; go_simp
  simp only [Act.put]
  refine wpAnyH_take (i := 6) (v := .string (bs c)) rfl (by kernel_rfl) (by kernel_rfl) (by kernel_rfl) (fun _ _ _ h => h) (Or.inl ⟨by rfl, ?_⟩) (by assumption) ?_
  · intro w hSw; go_simp
  simp only [Act.put]
  refine wpAnyH_take (i := 7) (v := .int .u8 t.toNat) rfl (by kernel_rfl) (by kernel_rfl) (by kernel_rfl) (fun _ _ _ h => h) (Or.inl ⟨by rfl, ?_⟩) (by assumption) ?_
  · intro w hSw; go_simp
  simp only [Act.put]
  refine wpAnyH_take (i := 8) (v := .int .i64 t.toNat) rfl (by kernel_rfl) (by kernel_rfl) (by kernel_rfl) (fun _ _ _ h => h) (Or.inl ⟨by rfl, ?_⟩) (by assumption) ?_
  · intro w hSw; go_simp
  simp only [Act.put]
  refine wpAnyH_take (i := 9) (v := .string (bs c)) rfl (by kernel_rfl) (by kernel_rfl) (by kernel_rfl) (fun _ _ _ h => h) (Or.inl ⟨by rfl, ?_⟩) (by assumption) ?_
  · intro w hSw; go_simp
  simp only [Act.put]
  refine wpAnyH_take (i := 10) (v := .string (bs r)) rfl (by kernel_rfl) (by kernel_rfl) (by kernel_rfl) (fun _ _ _ h => h) (Or.inl ⟨by rfl, ?_⟩) (by assumption) ?_
  · intro w hSw; go_simp
  simp only [Act.put]
  refine wpAnyH_ready (rs := [11, 13]) (by kernel_rfl) (by simp) ?_
  refine (AllReadyH.cons rfl (fun K hK => ?_) (AllReadyH.cons rfl (fun K hK => ?_) AllReadyH.nil))
  · go_simp
    refine (HX.out _).mono ?_
    rintro e w2 ⟨rfl, rfl⟩
    go_wp2_with fail
    refine hK.out _ _ trivial (fun hHeld => ?_)
    clear hK K
    refine wpAnyH_take (i := 12) (v := .agg #[.int .i64 k.toNat, .int .i64 f.toNat, .int .i64 t.toNat, .int .i64 x]) rfl (by kernel_rfl) (by kernel_rfl) (by kernel_rfl) (fun _ _ _ h => h) (Or.inl ⟨by rfl, ?_⟩) (by assumption) ?_
    · intro w hSw; go_simp
    simp only [Act.put]
    refine wpAnyH_ready (rs := [13]) (by kernel_rfl) (by simp) ?_
    refine (AllReadyH.cons rfl (fun K hK => ?_) AllReadyH.nil)
    go_simp
    refine hK.out _ _ trivial (fun hHeld => ?_)
    clear hK K
    refine wpAnyH_ready (rs := [14]) (by kernel_rfl) (by simp) ?_
    refine (AllReadyH.cons rfl (fun K hK => ?_) AllReadyH.nil)
    go_simp
    refine hK.out _ _ trivial (fun hHeld => ?_)
    clear hK K
    refine wpAnyH_done (by kernel_rfl) ?_ _
    refine NoPanic.normal ?_
    go_wp2_with fail
    refine (HN.out _).mono ?_
    rintro e w3 ⟨rfl, hb3⟩
    obtain ⟨hc3, hf3⟩ := bcell hb3
    have c3 : ∀ o, w3.cell? ⟨w.heap.size, o, none⟩ = (w.alloc (.cells #[.int .i64 0, .int .i64 0, .int .i64 0, .int .i64 0] 23)).cell? ⟨w.heap.size, o, none⟩ := fun o => by
      rw [hc3 _ _ (by simp; omega)]
      simp only [World.cell?_drew]
      rw [World.cell?_alloc_lt _ _ _ hz1, c0]
    have f3 : ∀ o, w3.frozen? ⟨w.heap.size, o, none⟩ = false := fun o => by
      rw [hf3 _ _ (by simp; omega)]
      simp only [World.frozen?_drew]
      rw [World.frozen?_alloc_old _ _ _ (Nat.ne_of_lt hz1), f0]
    have m3 : ∀ o, w3.cell? ⟨w1.heap.size, o, none⟩ = (w1.alloc (.cells #[.int .i64 k.toNat, .int .i64 f.toNat, .int .i64 t.toNat, .int .i64 x] 23)).cell? ⟨w1.heap.size, o, none⟩ := fun o => by
      rw [hc3 _ _ (by simp)]; simp
    have hz3 : w1.heap.size < w3.heap.size := by have := hb3.size; simp at this; omega
    clear hc3 hf3 c0 f0
    go_wp2_with fail
    exact bodyPost_ret (v := .tuple #[.agg #[.int .i64 0, .int .i64 0, .int .i64 0, .int .i64 0], .int .i64 7]) (by simp [results, Tryd.results9, go_sem, c3]) rfl ⟨rfl, (((((((((Below.refl _ _).alloc (Nat.le_refl _) _).drew.trans (hb1.mono (by simp))).alloc (by omega) _).drew.trans (hb3.mono (by simp; omega))).setCell (by simp) _).setCell (by simp) _).setCell (by simp) _).setCell (by simp) _)⟩
  · go_simp
    refine hK.out _ _ trivial (fun hHeld => ?_)
    clear hK K
    refine wpAnyH_ready (rs := [11]) (by kernel_rfl) (by simp) ?_
    refine (AllReadyH.cons rfl (fun K hK => ?_) AllReadyH.nil)
    go_simp
    refine (HX.out _).mono ?_
    rintro e w2 ⟨rfl, rfl⟩
    go_wp2_with fail
    refine hK.out _ _ trivial (fun hHeld => ?_)
    clear hK K
    refine wpAnyH_take (i := 12) (v := .agg #[.int .i64 k.toNat, .int .i64 f.toNat, .int .i64 t.toNat, .int .i64 x]) rfl (by kernel_rfl) (by kernel_rfl) (by kernel_rfl) (fun _ _ _ h => h) (Or.inl ⟨by rfl, ?_⟩) (by assumption) ?_
    · intro w hSw; go_simp
    simp only [Act.put]
    refine wpAnyH_ready (rs := [14]) (by kernel_rfl) (by simp) ?_
    refine (AllReadyH.cons rfl (fun K hK => ?_) AllReadyH.nil)
    go_simp
    refine hK.out _ _ trivial (fun hHeld => ?_)
    clear hK K
    refine wpAnyH_done (by kernel_rfl) ?_ _
    refine NoPanic.normal ?_
    go_wp2_with fail
    refine (HN.out _).mono ?_
    rintro e w3 ⟨rfl, hb3⟩
    obtain ⟨hc3, hf3⟩ := bcell hb3
    have c3 : ∀ o, w3.cell? ⟨w.heap.size, o, none⟩ = (w.alloc (.cells #[.int .i64 0, .int .i64 0, .int .i64 0, .int .i64 0] 23)).cell? ⟨w.heap.size, o, none⟩ := fun o => by
      rw [hc3 _ _ (by simp; omega)]
      simp only [World.cell?_drew]
      rw [World.cell?_alloc_lt _ _ _ hz1, c0]
    have f3 : ∀ o, w3.frozen? ⟨w.heap.size, o, none⟩ = false := fun o => by
      rw [hf3 _ _ (by simp; omega)]
      simp only [World.frozen?_drew]
      rw [World.frozen?_alloc_old _ _ _ (Nat.ne_of_lt hz1), f0]
    have m3 : ∀ o, w3.cell? ⟨w1.heap.size, o, none⟩ = (w1.alloc (.cells #[.int .i64 k.toNat, .int .i64 f.toNat, .int .i64 t.toNat, .int .i64 x] 23)).cell? ⟨w1.heap.size, o, none⟩ := fun o => by
      rw [hc3 _ _ (by simp)]; simp
    have hz3 : w1.heap.size < w3.heap.size := by have := hb3.size; simp at this; omega
    clear hc3 hf3 c0 f0
    go_wp2_with fail
    exact bodyPost_ret (v := .tuple #[.agg #[.int .i64 0, .int .i64 0, .int .i64 0, .int .i64 0], .int .i64 7]) (by simp [results, Tryd.results9, go_sem, c3]) rfl ⟨rfl, (((((((((Below.refl _ _).alloc (Nat.le_refl _) _).drew.trans (hb1.mono (by simp))).alloc (by omega) _).drew.trans (hb3.mono (by simp; omega))).setCell (by simp) _).setCell (by simp) _).setCell (by simp) _).setCell (by simp) _)⟩

set_option maxRecDepth 100000 in
set_option maxHeartbeats 4000000 in
theorem rdec_ok_same (n k f t : UInt8) (r s m : List UInt8) (x : Int) (w : World) (hc : (k :: f :: t :: r).length = n.toNat) (hs : s.length = 4) (he : sumL (44 :: n :: (k :: f :: t :: r)) = s) (h4 : 1 ≤ r.length)
    (hx : ∀ w1, Calls Tryd.prog 24 #[.string (bs r)] w1 fun e w' => e = .returned (.int .i64 x) ∧ w1 = w')
    (hN : ∀ w1, Calls Tryd.prog 8 #[.agg #[.int .i64 k.toNat, .int .i64 f.toNat, .int .i64 t.toNat, .int .i64 x]] w1 fun e w' => e = .returned (.tuple #[.string (bs m), .int .i64 0]) ∧ Below w1.heap.size w1 w') (hm : m = 44 :: n :: (k :: f :: t :: r ++ s)) :
    Calls Tryd.prog 9 #[.string (bs (44 :: n :: (k :: f :: t :: r ++ s)))] w fun e w' => e = .returned (.tuple #[.agg #[.int .i64 k.toNat, .int .i64 f.toNat, .int .i64 t.toNat, .int .i64 x], .int .i64 0]) ∧ Below w.heap.size w w' := by
  have HX : Hid (∀ w1, Calls Tryd.prog 24 #[.string (bs r)] w1 fun e w' => e = .returned (.int .i64 x) ∧ w1 = w') := hx
  have HN : Hid (∀ w1, Calls Tryd.prog 8 #[.agg #[.int .i64 k.toNat, .int .i64 f.toNat, .int .i64 t.toNat, .int .i64 x]] w1 fun e w' => e = .returned (.tuple #[.string (bs m), .int .i64 0]) ∧ Below w1.heap.size w1 w') := hN
  clear hx hN
  have hr : r.length ≤ 300 := by have := n.toNat_lt; simp at hc; omega
  have hk := k.toNat_lt
  have hf := f.toNat_lt
  have ht := t.toNat_lt
  have hL4 : ((k :: f :: t :: r).length : Int) = (r.length : Int) + 3 := by simp; omega
  have p0 : ∀ i, (bs (k :: f :: t :: r))[0]'i = k := fun i => rfl
  have p1 : ∀ i, (bs (k :: f :: t :: r))[1]'i = f := fun i => rfl
  have p2 : ∀ i, (bs (k :: f :: t :: r))[2]'i = t := fun i => rfl
  have p3 : (bs (k :: f :: t :: r)).extract 3 (k :: f :: t :: r).length = bs r := by rw [bs_extract]; simp
  have s0 : (0 : Int) < ((k :: f :: t :: r).length : Int) := by omega
  have s1 : (1 : Int) < ((k :: f :: t :: r).length : Int) := by omega
  have s2 : (2 : Int) < ((k :: f :: t :: r).length : Int) := by omega
  have s3 : (3 : Int) ≤ ((k :: f :: t :: r).length : Int) := by omega
  have s4 : ¬ (((k :: f :: t :: r).length : Int) < 4) := by omega
  have cn : ¬ (k :: f :: t :: r = []) := by simp
  have wk := wrap64' (k.toNat : Int) (by omega) (by omega)
  have wf := wrap64' (f.toNat : Int) (by omega) (by omega)
  have wt := wrap64' (t.toNat : Int) (by omega) (by omega)
  clear hL4
  generalize k :: f :: t :: r = c at *
  have hmm : ((bs m).toList == (bs (44 :: n :: (c ++ s))).toList) = true := by rw [hm]; simp
  clear hm
  have q : (bs (44 :: n :: (c ++ s))).toList.isEmpty = false := by rw [bs_toList]; rfl
  have hn := n.toNat_lt
  have g0 : ∀ i, (bs (44 :: n :: (c ++ s)))[0]'i = 44 := fun i => rfl
  have g1 : ∀ i, (bs (44 :: n :: (c ++ s)))[1]'i = n := fun i => rfl
  have x1 : (bs (44 :: n :: (c ++ s))).extract 0 (44 :: n :: c).length = bs (44 :: n :: c) := by
    rw [bs_extract, show 44 :: n :: (c ++ s) = (44 :: n :: c) ++ s from rfl]; simp
  have x2 : (bs (44 :: n :: (c ++ s))).extract (44 :: n :: c).length (44 :: n :: (c ++ s)).length = bs s := by
    rw [bs_extract, show 44 :: n :: (c ++ s) = (44 :: n :: c) ++ s from rfl]; simp
  have x3 : (bs (44 :: n :: (c ++ s))).extract 2 (44 :: n :: c).length = bs c := by
    rw [bs_extract, show 44 :: n :: (c ++ s) = [44, n] ++ (c ++ s) from rfl]; simp
  have e4 : ((44 :: n :: (c ++ s)).length : Int) - 4 = ((44 :: n :: c).length : Int) := by simp; omega
  have e5 : IntKind.i64.wrap ((44 :: n :: c).length : Int) = ((44 :: n :: c).length : Int) := by rw [IntKind.wrap_i64]; simp; omega
  have q0 : (0 : Int) < ((44 :: n :: (c ++ s)).length : Int) := by simp; omega
  have q1 : (1 : Int) < ((44 :: n :: (c ++ s)).length : Int) := by simp; omega
  have q2 : ¬ (((44 :: n :: (c ++ s)).length : Int) < 2) := by simp; omega
  have q3 : ¬ (((44 :: n :: (c ++ s)).length : Int) < 6 + (n.toNat : Int)) := by simp; omega
  have q4 : ¬ (6 + (n.toNat : Int) < ((44 :: n :: (c ++ s)).length : Int)) := by simp; omega
  have q5 : ((44 :: n :: c).length : Int) ≤ ((44 :: n :: (c ++ s)).length : Int) := by simp; omega
  have q6 : (2 : Int) ≤ ((44 :: n :: c).length : Int) := by simp; omega
  have hle : (44 :: n :: c).length ≤ 300 := by simp; omega
  have hff : ((bs (sumL (44 :: n :: c))).toList == (bs s).toList) = true := by rw [he]; simp
  clear he
  generalize 44 :: n :: c = h at *
  generalize 44 :: n :: (c ++ s) = L at *
  clear hc
  go_enter Tryd.func9, Tryd.ntmps9
  go_wp2
  go_region_with (go_at_call 23; refine (refSum_bs h _ (by unfold maxLen; omega)).mono ?_; rintro e w1 ⟨rfl, hb1⟩)
  obtain ⟨hc1, hf1⟩ := bcell hb1
  have c0 : ∀ o, w1.cell? ⟨w.heap.size, o, none⟩ = (w.alloc (.cells #[.int .i64 0, .int .i64 0, .int .i64 0, .int .i64 0] 23)).cell? ⟨w.heap.size, o, none⟩ := fun o => by
    rw [hc1 _ _ (by simp)]; simp
  have f0 : ∀ o, w1.frozen? ⟨w.heap.size, o, none⟩ = false := fun o => by
    rw [hf1 _ _ (by simp)]; simp
  have hz1 : w.heap.size < w1.heap.size := by have := hb1.size; simp at this; omega
  clear hc1 hf1
  go_wp2_with fail
  refine wp_region_noPanic ?_
  refine wp_region_held_drew (S := fun _ => True) (by kernel_rfl) trivial (fun hHeld => ?_)
  refine wpAnyH_take (i := 0) (v := .string (bs c)) rfl (by kernel_rfl) (by kernel_rfl) (by kernel_rfl) (fun _ _ _ h => h) (Or.inl ⟨by rfl, ?_⟩) (by assumption) ?_
  · intro w hSw; go_simp
  simp only [Act.put]
  refine wpAnyH_take (i := 1) (v := .int .u8 k.toNat) rfl (by kernel_rfl) (by kernel_rfl) (by kernel_rfl) (fun _ _ _ h => h) (Or.inl ⟨by rfl, ?_⟩) (by assumption) ?_
  · intro w hSw; go_simp
  simp only [Act.put]
  refine wpAnyH_take (i := 2) (v := .int .i64 k.toNat) rfl (by kernel_rfl) (by kernel_rfl) (by kernel_rfl) (fun _ _ _ h => h) (Or.inl ⟨by rfl, ?_⟩) (by assumption) ?_
  · intro w hSw; go_simp
  simp only [Act.put]
  refine wpAnyH_take (i := 3) (v := .string (bs c)) rfl (by kernel_rfl) (by kernel_rfl) (by kernel_rfl) (fun _ _ _ h => h) (Or.inl ⟨by rfl, ?_⟩) (by assumption) ?_
  · intro w hSw; go_simp
  simp only [Act.put]
  refine wpAnyH_take (i := 4) (v := .int .u8 f.toNat) rfl (by kernel_rfl) (by kernel_rfl) (by kernel_rfl) (fun _ _ _ h => h) (Or.inl ⟨by rfl, ?_⟩) (by assumption) ?_
  · intro w hSw; go_simp
  simp only [Act.put]
  refine wpAnyH_take (i := 5) (v := .int .i64 f.toNat) rfl (by kernel_rfl) (by kernel_rfl) (by kernel_rfl) (fun _ _ _ h => h) (Or.inl ⟨by rfl, ?_⟩) (by assumption) ?_
  · intro w hSw; go_simp
  simp only [Act.put]
  refine wpAnyH_take (i := 6) (v := .string (bs c)) rfl (by kernel_rfl) (by kernel_rfl) (by kernel_rfl) (fun _ _ _ h => h) (Or.inl ⟨by rfl, ?_⟩) (by assumption) ?_
  · intro w hSw; go_simp
  simp only [Act.put]
  refine wpAnyH_take (i := 7) (v := .int .u8 t.toNat) rfl (by kernel_rfl) (by kernel_rfl) (by kernel_rfl) (fun _ _ _ h => h) (Or.inl ⟨by rfl, ?_⟩) (by assumption) ?_
  · intro w hSw; go_simp
  simp only [Act.put]
  refine wpAnyH_take (i := 8) (v := .int .i64 t.toNat) rfl (by kernel_rfl) (by kernel_rfl) (by kernel_rfl) (fun _ _ _ h => h) (Or.inl ⟨by rfl, ?_⟩) (by assumption) ?_
  · intro w hSw; go_simp
  simp only [Act.put]
  refine wpAnyH_take (i := 9) (v := .string (bs c)) rfl (by kernel_rfl) (by kernel_rfl) (by kernel_rfl) (fun _ _ _ h => h) (Or.inl ⟨by rfl, ?_⟩) (by assumption) ?_
  · intro w hSw; go_simp
  simp only [Act.put]
  refine wpAnyH_take (i := 10) (v := .string (bs r)) rfl (by kernel_rfl) (by kernel_rfl) (by kernel_rfl) (fun _ _ _ h => h) (Or.inl ⟨by rfl, ?_⟩) (by assumption) ?_
  · intro w hSw; go_simp
  simp only [Act.put]
  refine wpAnyH_ready (rs := [11, 13]) (by kernel_rfl) (by simp) ?_
  refine (AllReadyH.cons rfl (fun K hK => ?_) (AllReadyH.cons rfl (fun K hK => ?_) AllReadyH.nil))
  · go_simp
    refine (HX.out _).mono ?_
    rintro e w2 ⟨rfl, rfl⟩
    go_wp2_with fail
    refine hK.out _ _ trivial (fun hHeld => ?_)
    clear hK K
    refine wpAnyH_take (i := 12) (v := .agg #[.int .i64 k.toNat, .int .i64 f.toNat, .int .i64 t.toNat, .int .i64 x]) rfl (by kernel_rfl) (by kernel_rfl) (by kernel_rfl) (fun _ _ _ h => h) (Or.inl ⟨by rfl, ?_⟩) (by assumption) ?_
    · intro w hSw; go_simp
    simp only [Act.put]
    refine wpAnyH_ready (rs := [13]) (by kernel_rfl) (by simp) ?_
    refine (AllReadyH.cons rfl (fun K hK => ?_) AllReadyH.nil)
    go_simp
    refine hK.out _ _ trivial (fun hHeld => ?_)
    clear hK K
    refine wpAnyH_ready (rs := [14]) (by kernel_rfl) (by simp) ?_
    refine (AllReadyH.cons rfl (fun K hK => ?_) AllReadyH.nil)
    go_simp
    refine hK.out _ _ trivial (fun hHeld => ?_)
    clear hK K
    refine wpAnyH_done (by kernel_rfl) ?_ _
    refine NoPanic.normal ?_
    go_wp2_with fail
    refine (HN.out _).mono ?_
    rintro e w3 ⟨rfl, hb3⟩
    obtain ⟨hc3, hf3⟩ := bcell hb3
    have c3 : ∀ o, w3.cell? ⟨w.heap.size, o, none⟩ = (w.alloc (.cells #[.int .i64 0, .int .i64 0, .int .i64 0, .int .i64 0] 23)).cell? ⟨w.heap.size, o, none⟩ := fun o => by
      rw [hc3 _ _ (by simp; omega)]
      simp only [World.cell?_drew]
      rw [World.cell?_alloc_lt _ _ _ hz1, c0]
    have f3 : ∀ o, w3.frozen? ⟨w.heap.size, o, none⟩ = false := fun o => by
      rw [hf3 _ _ (by simp; omega)]
      simp only [World.frozen?_drew]
      rw [World.frozen?_alloc_old _ _ _ (Nat.ne_of_lt hz1), f0]
    have m3 : ∀ o, w3.cell? ⟨w1.heap.size, o, none⟩ = (w1.alloc (.cells #[.int .i64 k.toNat, .int .i64 f.toNat, .int .i64 t.toNat, .int .i64 x] 23)).cell? ⟨w1.heap.size, o, none⟩ := fun o => by
      rw [hc3 _ _ (by simp)]; simp
    have hz3 : w1.heap.size < w3.heap.size := by have := hb3.size; simp at this; omega
    clear hc3 hf3 c0 f0
    go_wp2_with fail
    exact bodyPost_ret (v := .tuple #[.agg #[.int .i64 k.toNat, .int .i64 f.toNat, .int .i64 t.toNat, .int .i64 x], .int .i64 0]) (by simp [results, Tryd.results9, go_sem, c3]) rfl ⟨rfl, (((((((((Below.refl _ _).alloc (Nat.le_refl _) _).drew.trans (hb1.mono (by simp))).alloc (by omega) _).drew.trans (hb3.mono (by simp; omega))).setCell (by simp) _).setCell (by simp) _).setCell (by simp) _).setCell (by simp) _)⟩
  · go_simp
    refine hK.out _ _ trivial (fun hHeld => ?_)
    clear hK K
    refine wpAnyH_ready (rs := [11]) (by kernel_rfl) (by simp) ?_
    refine (AllReadyH.cons rfl (fun K hK => ?_) AllReadyH.nil)
    go_simp
    refine (HX.out _).mono ?_
    rintro e w2 ⟨rfl, rfl⟩
    go_wp2_with fail
    refine hK.out _ _ trivial (fun hHeld => ?_)
    clear hK K
    refine wpAnyH_take (i := 12) (v := .agg #[.int .i64 k.toNat, .int .i64 f.toNat, .int .i64 t.toNat, .int .i64 x]) rfl (by kernel_rfl) (by kernel_rfl) (by kernel_rfl) (fun _ _ _ h => h) (Or.inl ⟨by rfl, ?_⟩) (by assumption) ?_
    · intro w hSw; go_simp
    simp only [Act.put]
    refine wpAnyH_ready (rs := [14]) (by kernel_rfl) (by simp) ?_
    refine (AllReadyH.cons rfl (fun K hK => ?_) AllReadyH.nil)
    go_simp
    refine hK.out _ _ trivial (fun hHeld => ?_)
    clear hK K
    refine wpAnyH_done (by kernel_rfl) ?_ _
    refine NoPanic.normal ?_
    go_wp2_with fail
    refine (HN.out _).mono ?_
    rintro e w3 ⟨rfl, hb3⟩
    obtain ⟨hc3, hf3⟩ := bcell hb3
    have c3 : ∀ o, w3.cell? ⟨w.heap.size, o, none⟩ = (w.alloc (.cells #[.int .i64 0, .int .i64 0, .int .i64 0, .int .i64 0] 23)).cell? ⟨w.heap.size, o, none⟩ := fun o => by
      rw [hc3 _ _ (by simp; omega)]
      simp only [World.cell?_drew]
      rw [World.cell?_alloc_lt _ _ _ hz1, c0]
    have f3 : ∀ o, w3.frozen? ⟨w.heap.size, o, none⟩ = false := fun o => by
      rw [hf3 _ _ (by simp; omega)]
      simp only [World.frozen?_drew]
      rw [World.frozen?_alloc_old _ _ _ (Nat.ne_of_lt hz1), f0]
    have m3 : ∀ o, w3.cell? ⟨w1.heap.size, o, none⟩ = (w1.alloc (.cells #[.int .i64 k.toNat, .int .i64 f.toNat, .int .i64 t.toNat, .int .i64 x] 23)).cell? ⟨w1.heap.size, o, none⟩ := fun o => by
      rw [hc3 _ _ (by simp)]; simp
    have hz3 : w1.heap.size < w3.heap.size := by have := hb3.size; simp at this; omega
    clear hc3 hf3 c0 f0
    go_wp2_with fail
    exact bodyPost_ret (v := .tuple #[.agg #[.int .i64 k.toNat, .int .i64 f.toNat, .int .i64 t.toNat, .int .i64 x], .int .i64 0]) (by simp [results, Tryd.results9, go_sem, c3]) rfl ⟨rfl, (((((((((Below.refl _ _).alloc (Nat.le_refl _) _).drew.trans (hb1.mono (by simp))).alloc (by omega) _).drew.trans (hb3.mono (by simp; omega))).setCell (by simp) _).setCell (by simp) _).setCell (by simp) _).setCell (by simp) _)⟩

end Go.Proofs.YtfpojgljgbgkkaaDoor

