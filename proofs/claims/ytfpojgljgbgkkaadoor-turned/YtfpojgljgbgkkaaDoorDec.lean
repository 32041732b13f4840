/-
  wire.readMessageContent, wire.ReadMessage, accord.Decode.
-/
import Derived.Test.YtfpojgljgbgkkaaDoorTx
import Derived.Deep.RegionHeld3
namespace Go.Proofs.YtfpojgljgbgkkaaDoor
open Go.RowKit

attribute [local go_sem] bs_append bs_size nums_len sumL_len List.length_append List.length_cons List.length_nil bs_get0 bs_get1 bs_get2

theorem ErrAt.setCell {w : World} {b : Nat} {a : Addr} (h : ErrAt w b a) {n o : Nat} (v : Value) (hne : n ≠ b) : ErrAt (w.setCell ⟨n, o, none⟩ v) b a := by
  unfold ErrAt at h ⊢
  rw [World.cell?_of_block (w := w) (Below.heap_setCell w ⟨n, o, none⟩ v b (by simpa using Ne.symm hne))]
  exact h
theorem ErrAt.ne {w : World} {b n : Nat} {a : Addr} {k : Int} (h : ErrAt w b a) (hc : w.cell? ⟨n, 2, none⟩ = some (.int .i64 k)) : n ≠ b := by
  rintro rfl
  unfold ErrAt at h
  rw [hc] at h
  cases h

set_option maxRecDepth 100000 in
set_option maxHeartbeats 2000000 in
theorem content_short (c : List UInt8) {a : Nat → Addr} (w : World) (hS : Sent w a) (hc : c.length < 3) :
    Calls Tryd.prog 37 #[.string (bs c)] w fun e w' => ErrRet w w' e (.agg #[.int .i64 0, .int .i64 0, .int .i64 0, .int .i64 0]) (a 5) := by
  have v5 := hS.v5
  have hg := cell_block v5
  simp at hg
  clear hS
  have q0 : (c.length : Int) < 3 := by omega
  go_enter Tryd.func37, Tryd.ntmps37
  go_wp2_with (first | (go_at_call 31; refine (at_err _ _ _ _).mono ?_; rintro e w2 ⟨b, rfl, hr, hb2⟩; obtain ⟨hc2, hf2⟩ := bcell hb2))
  have h2 : w2.cell? ⟨w.heap.size, 2, none⟩ = some (.int .i64 0) := by rw [hc2 _ _ (by simp)]; simp
  have hne := hr.ne h2
  exact bodyPost_ret (v := .tuple #[.agg #[.int .i64 0, .int .i64 0, .int .i64 0, .int .i64 0], .iface 91 (.pointer (some ⟨b, 0, none⟩))]) (by simp [results, Tryd.results37, go_sem, hc2]) rfl ⟨b, rfl, (((hr.setCell _ hne).setCell _ hne).setCell _ hne).setCell _ hne, ((((((Below.refl _ _).alloc (Nat.le_refl _) _).trans (hb2.mono (by simp))).setCell (by simp) _).setCell (by simp) _).setCell (by simp) _).setCell (by simp) _⟩

set_option maxRecDepth 100000 in
set_option maxHeartbeats 2000000 in
theorem content_ends (k f t : UInt8) (r : List UInt8) {a : Nat → Addr} (w : World) (hS : Sent w a) (hE : endsB (k.toNat : Int) (f.toNat : Int) (t.toNat : Int) = false) (hl : r.length ≤ 300) :
    Calls Tryd.prog 37 #[.string (bs (k :: f :: t :: r))] w fun e w' => ErrRet w w' e (.agg #[.int .i64 0, .int .i64 0, .int .i64 0, .int .i64 0]) (a 5) := by
  have v5 := hS.v5
  have hg := cell_block v5
  simp at hg
  clear hS
  have hk := k.toNat_lt
  have hf := f.toNat_lt
  have ht := t.toNat_lt
  have q0 : (0 : Int) < (r.length : Int) + 1 + 1 + 1 := by omega
  have q1 : (1 : Int) < (r.length : Int) + 1 + 1 + 1 := by omega
  have q2 : (2 : Int) < (r.length : Int) + 1 + 1 + 1 := by omega
  have q3 : (3 : Int) ≤ (r.length : Int) + 1 + 1 + 1 := by omega
  have x3 : (bs (k :: f :: t :: r)).extract 3 (r.length + 1 + 1 + 1) = bs r := by rw [bs_extract]; simp
  have v5' : ((w.alloc (.cells #[.int .i64 0, .int .i64 0, .int .i64 0, .int .i64 0] 23)).alloc (.cells #[.int .i64 k.toNat, .int .i64 f.toNat, .int .i64 t.toNat, .int .i64 0] 23)).drew.cell? ⟨6, 0, none⟩ = some (.iface 118 (.pointer (some (a 5)))) := by simp [go_sem, v5, hg]
  go_enter Tryd.func37, Tryd.ntmps37
  go_wp2
  go_region
  go_wp2_with (go_at_call 29; refine (checkEnds_no _ _ _ _ _ _ hE).mono ?_; rintro e w2 ⟨b, rfl, hr, hb2⟩; obtain ⟨hc2, hf2⟩ := bcell hb2)
  have c0 : ∀ o, w2.cell? ⟨w.heap.size, o, none⟩ = (w.alloc (.cells #[.int .i64 0, .int .i64 0, .int .i64 0, .int .i64 0] 23)).cell? ⟨w.heap.size, o, none⟩ := fun o => by
    rw [hc2 _ _ (by simp; try omega)]; simp
  have h2 : w2.cell? ⟨w.heap.size, 2, none⟩ = some (.int .i64 0) := by rw [c0]; simp
  have hne := hr.ne h2
  exact bodyPost_ret (v := .tuple #[.agg #[.int .i64 0, .int .i64 0, .int .i64 0, .int .i64 0], .iface 91 (.pointer (some ⟨b, 0, none⟩))]) (by simp [results, Tryd.results37, go_sem, c0]) rfl ⟨b, rfl, (((hr.setCell _ hne).setCell _ hne).setCell _ hne).setCell _ hne, ((((((((Below.refl _ _).alloc (Nat.le_refl _) _).alloc (by simp) _).drew.trans (hb2.mono (by simp; try omega)))).setCell (by simp) _).setCell (by simp) _).setCell (by simp) _).setCell (by simp) _⟩
set_option maxRecDepth 100000 in
set_option maxHeartbeats 2000000 in
theorem content_tx (k f t : UInt8) (r : List UInt8) {a : Nat → Addr} (w : World) (hS : Sent w a) (hE : endsB (k.toNat : Int) (f.toNat : Int) (t.toNat : Int) = true) (hT : goodTx r = false) (hl : r.length ≤ 300) :
    Calls Tryd.prog 37 #[.string (bs (k :: f :: t :: r))] w fun e w' => ErrRet w w' e (.agg #[.int .i64 0, .int .i64 0, .int .i64 0, .int .i64 0]) (a 5) := by
  have v5 := hS.v5
  have hg := cell_block v5
  simp at hg
  clear hS
  have hk := k.toNat_lt
  have hf := f.toNat_lt
  have ht := t.toNat_lt
  have q0 : (0 : Int) < (r.length : Int) + 1 + 1 + 1 := by omega
  have q1 : (1 : Int) < (r.length : Int) + 1 + 1 + 1 := by omega
  have q2 : (2 : Int) < (r.length : Int) + 1 + 1 + 1 := by omega
  have q3 : (3 : Int) ≤ (r.length : Int) + 1 + 1 + 1 := by omega
  have x3 : (bs (k :: f :: t :: r)).extract 3 (r.length + 1 + 1 + 1) = bs r := by rw [bs_extract]; simp
  have v5' : ((w.alloc (.cells #[.int .i64 0, .int .i64 0, .int .i64 0, .int .i64 0] 23)).alloc (.cells #[.int .i64 k.toNat, .int .i64 f.toNat, .int .i64 t.toNat, .int .i64 0] 23)).drew.cell? ⟨6, 0, none⟩ = some (.iface 118 (.pointer (some (a 5)))) := by simp [go_sem, v5, hg]
  go_enter Tryd.func37, Tryd.ntmps37
  go_wp2
  go_region
  go_wp2_with fail
  refine (checkEnds_yes _ _ _ _ _ _ hE).mono ?_
  rintro e w1 ⟨rfl, hb1⟩
  obtain ⟨hc1, hf1⟩ := bcell hb1
  have hz1 : w.heap.size + 1 < w1.heap.size := by have := hb1.size; simp at this; omega
  go_wp2_with fail
  refine (readTx_any r _).mono ?_
  rintro e w2 ⟨rfl, hb2⟩
  obtain ⟨hc2, hf2⟩ := bcell hb2
  have v5b : w2.cell? ⟨6, 0, none⟩ = some (.iface 118 (.pointer (some (a 5)))) := by rw [hc2 _ _ (by omega), hc1 _ _ (by simp; omega)]; exact v5'
  have hz2 : w1.heap.size ≤ w2.heap.size := hb2.size
  go_wp2_with fail
  refine (at_err _ _ _ _).mono ?_
  rintro e w3 ⟨b, rfl, hr, hb3⟩
  obtain ⟨hc3, hf3⟩ := bcell hb3
  have c0 : ∀ o, w3.cell? ⟨w.heap.size, o, none⟩ = (w.alloc (.cells #[.int .i64 0, .int .i64 0, .int .i64 0, .int .i64 0] 23)).cell? ⟨w.heap.size, o, none⟩ := fun o => by
    rw [hc3 _ _ (by omega), hc2 _ _ (by omega), hc1 _ _ (by simp; try omega)]; simp
  have f0 : ∀ o, w3.frozen? ⟨w.heap.size, o, none⟩ = false := fun o => by
    rw [hf3 _ _ (by omega), hf2 _ _ (by omega), hf1 _ _ (by simp; try omega)]; simp
  have h2 : w3.cell? ⟨w.heap.size, 2, none⟩ = some (.int .i64 0) := by rw [c0]; simp
  have hne := hr.ne h2
  go_wp2_with fail
  exact bodyPost_ret (v := .tuple #[.agg #[.int .i64 0, .int .i64 0, .int .i64 0, .int .i64 0], .iface 91 (.pointer (some ⟨b, 0, none⟩))]) (by simp [results, Tryd.results37, go_sem, c0]) rfl ⟨b, rfl, (((hr.setCell _ hne).setCell _ hne).setCell _ hne).setCell _ hne, (((((((((Below.refl _ _).alloc (Nat.le_refl _) _).alloc (by simp) _).drew.trans (hb1.mono (by simp; try omega))).trans ((hb2.mono (by omega)).trans (hb3.mono (by omega))))).setCell (by simp) _).setCell (by simp) _).setCell (by simp) _).setCell (by simp) _⟩
set_option maxRecDepth 100000 in
set_option maxHeartbeats 2000000 in
theorem content_good (k f t : UInt8) (r : List UInt8) {a : Nat → Addr} (w : World) (hS : Sent w a) (hE : endsB (k.toNat : Int) (f.toNat : Int) (t.toNat : Int) = true) (hT : goodTx r = true) (hl : r.length ≤ 300) :
    Calls Tryd.prog 37 #[.string (bs (k :: f :: t :: r))] w fun e w' => e = .returned (.tuple #[.agg #[.int .i64 k.toNat, .int .i64 f.toNat, .int .i64 t.toNat, .int .i64 (pt r)], .nilIface]) ∧ Below w.heap.size w w' := by
  have v5 := hS.v5
  have hg := cell_block v5
  simp at hg
  clear hS
  have hk := k.toNat_lt
  have hf := f.toNat_lt
  have ht := t.toNat_lt
  have q0 : (0 : Int) < (r.length : Int) + 1 + 1 + 1 := by omega
  have q1 : (1 : Int) < (r.length : Int) + 1 + 1 + 1 := by omega
  have q2 : (2 : Int) < (r.length : Int) + 1 + 1 + 1 := by omega
  have q3 : (3 : Int) ≤ (r.length : Int) + 1 + 1 + 1 := by omega
  have x3 : (bs (k :: f :: t :: r)).extract 3 (r.length + 1 + 1 + 1) = bs r := by rw [bs_extract]; simp
  have v5' : ((w.alloc (.cells #[.int .i64 0, .int .i64 0, .int .i64 0, .int .i64 0] 23)).alloc (.cells #[.int .i64 k.toNat, .int .i64 f.toNat, .int .i64 t.toNat, .int .i64 0] 23)).drew.cell? ⟨6, 0, none⟩ = some (.iface 118 (.pointer (some (a 5)))) := by simp [go_sem, v5, hg]
  go_enter Tryd.func37, Tryd.ntmps37
  go_wp2
  go_region
  go_wp2_with fail
  refine (checkEnds_yes _ _ _ _ _ _ hE).mono ?_
  rintro e w1 ⟨rfl, hb1⟩
  obtain ⟨hc1, hf1⟩ := bcell hb1
  have hz1 : w.heap.size + 1 < w1.heap.size := by have := hb1.size; simp at this; omega
  go_wp2_with fail
  refine (readTx_any r _).mono ?_
  rintro e w2 ⟨rfl, hb2⟩
  obtain ⟨hc2, hf2⟩ := bcell hb2
  have hz2 : w1.heap.size ≤ w2.heap.size := hb2.size
  have c0 : ∀ o, w2.cell? ⟨w.heap.size, o, none⟩ = (w.alloc (.cells #[.int .i64 0, .int .i64 0, .int .i64 0, .int .i64 0] 23)).cell? ⟨w.heap.size, o, none⟩ := fun o => by
    rw [hc2 _ _ (by omega), hc1 _ _ (by simp; try omega)]; simp
  have c1 : ∀ o, w2.cell? ⟨w.heap.size + 1, o, none⟩ = ((w.alloc (.cells #[.int .i64 0, .int .i64 0, .int .i64 0, .int .i64 0] 23)).alloc (.cells #[.int .i64 k.toNat, .int .i64 f.toNat, .int .i64 t.toNat, .int .i64 0] 23)).cell? ⟨w.heap.size + 1, o, none⟩ := fun o => by
    rw [hc2 _ _ (by omega), hc1 _ _ (by simp; try omega)]; simp
  have f0 : ∀ o, w2.frozen? ⟨w.heap.size, o, none⟩ = false := fun o => by
    rw [hf2 _ _ (by omega), hf1 _ _ (by simp; try omega)]; simp
  have f1 : ∀ o, w2.frozen? ⟨w.heap.size + 1, o, none⟩ = false := fun o => by
    rw [hf2 _ _ (by omega), hf1 _ _ (by simp; try omega)]; simp
  clear hc2 hf2 hc1 hf1
  go_wp2_with fail
  exact bodyPost_ret (v := .tuple #[.agg #[.int .i64 k.toNat, .int .i64 f.toNat, .int .i64 t.toNat, .int .i64 (pt r)], .nilIface]) (by simp [results, Tryd.results37, go_sem, c0]) rfl ⟨rfl, ((((((((((Below.refl _ _).alloc (Nat.le_refl _) _).alloc (by simp) _).drew.trans (hb1.mono (by simp; try omega))).trans (hb2.mono (by omega))).setCell (by simp) _).setCell (by simp) _).setCell (by simp) _).setCell (by simp) _).setCell (by simp) _)⟩
end Go.Proofs.YtfpojgljgbgkkaaDoor
