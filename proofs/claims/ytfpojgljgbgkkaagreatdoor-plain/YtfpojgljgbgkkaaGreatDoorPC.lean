import Derived.Test.YtfpojgljgbgkkaaGreatDoorPB
import Derived.Deep.RegionHeld3
import Derived.Deep.DrawnRows
import Derived.Test.YtfpojgljgbgkkaaGreatDoorPA
/-
  wire.readMessageContent, wire.ReadMessage, accord.Decode.
-/
namespace Go.Proofs.YtfpojgljgbgkkaaGreatDoor
open Go.RowKit

attribute [local go_sem] bs_append bs_size nums_len sumL_len List.length_append List.length_cons List.length_nil bs_get0 bs_get1 bs_get2

theorem ErrAt.setCell {w : World} {b : Nat} {a : Addr} (h : ErrAt w b a) {n o : Nat} (v : Value) (hne : n ≠ b) : ErrAt (w.setCell ⟨n, o, none⟩ v) b a := by
  unfold ErrAt at h ⊢
  rw [World.cell?_of_block (w := w) (Below.heap_setCell w ⟨n, o, none⟩ v b (by simpa using Ne.symm hne))]
  exact h
theorem ErrAt.ne {w : World} {b n : Nat} {a : Addr} {k : Int} (h : ErrAt w b a) (hc : w.cell? ⟨n, 2, none⟩ = some (.int .i64 k)) : n ≠ b := by
  rintro rfl
  unfold ErrAt at h
  rw [hc] at h
  cases h

set_option maxRecDepth 100000 in
set_option maxHeartbeats 2000000 in
theorem content_short (c : List UInt8) {a : Nat → Addr} (w : World) (hS : Sent w a) (hc : c.length < 3) :
    Calls Tryz.prog 102 #[.string (bs c)] w fun e w' => ErrRet w w' e (.agg #[.int .i64 0, .int .i64 0, .int .i64 0, .int .i64 0]) (a 5) := by
  have v5 := hS.v5
  have hg := cell_block v5
  simp at hg
  clear hS
  have q0 : (c.length : Int) < 3 := by omega
  go_enter Tryz.func102, Tryz.ntmps102
  go_wp2_with (first | (go_at_call 100; refine (at_err _ _ _ _).mono ?_; rintro e w2 ⟨b, rfl, hr, hb2⟩; obtain ⟨hc2, hf2⟩ := bcell hb2))
  have h2 : w2.cell? ⟨w.heap.size, 2, none⟩ = some (.int .i64 0) := by rw [hc2 _ _ (by simp)]; simp
  have hne := hr.ne h2
  exact bodyPost_ret (v := .tuple #[.agg #[.int .i64 0, .int .i64 0, .int .i64 0, .int .i64 0], .iface 241 (.pointer (some ⟨b, 0, none⟩))]) (by simp [results, Tryz.results102, go_sem, hc2]) rfl ⟨b, rfl, (((hr.setCell _ hne).setCell _ hne).setCell _ hne).setCell _ hne, ((((((Below.refl _ _).alloc (Nat.le_refl _) _).trans (hb2.mono (by simp))).setCell (by simp) _).setCell (by simp) _).setCell (by simp) _).setCell (by simp) _⟩

set_option maxRecDepth 100000 in
set_option maxHeartbeats 2000000 in
theorem content_ends (k f t : UInt8) (r : List UInt8) {a : Nat → Addr} (w : World) (hS : Sent w a) (hE : endsB (k.toNat : Int) (f.toNat : Int) (t.toNat : Int) = false) (hl : r.length ≤ 300) :
    Calls Tryz.prog 102 #[.string (bs (k :: f :: t :: r))] w fun e w' => ErrRet w w' e (.agg #[.int .i64 0, .int .i64 0, .int .i64 0, .int .i64 0]) (a 5) := by
  have v5 := hS.v5
  have hg := cell_block v5
  simp at hg
  clear hS
  have hk := k.toNat_lt
  have hf := f.toNat_lt
  have ht := t.toNat_lt
  have q0 : (0 : Int) < (r.length : Int) + 1 + 1 + 1 := by omega
  have q1 : (1 : Int) < (r.length : Int) + 1 + 1 + 1 := by omega
  have q2 : (2 : Int) < (r.length : Int) + 1 + 1 + 1 := by omega
  have q3 : (3 : Int) ≤ (r.length : Int) + 1 + 1 + 1 := by omega
  have x3 : (bs (k :: f :: t :: r)).extract 3 (r.length + 1 + 1 + 1) = bs r := by rw [bs_extract]; simp
  have v5' : ((w.alloc (.cells #[.int .i64 0, .int .i64 0, .int .i64 0, .int .i64 0] 64)).alloc (.cells #[.int .i64 k.toNat, .int .i64 f.toNat, .int .i64 t.toNat, .int .i64 0] 64)).drew.cell? ⟨6, 0, none⟩ = some (.iface 268 (.pointer (some (a 5)))) := by simp [go_sem, v5, hg]
  go_enter Tryz.func102, Tryz.ntmps102
  go_wp2
  go_region
  go_wp2_with (go_at_call 138; refine (checkEnds_no _ _ _ _ _ _ hE).mono ?_; rintro e w2 ⟨b, rfl, hr, hb2⟩; obtain ⟨hc2, hf2⟩ := bcell hb2)
  have c0 : ∀ o, w2.cell? ⟨w.heap.size, o, none⟩ = (w.alloc (.cells #[.int .i64 0, .int .i64 0, .int .i64 0, .int .i64 0] 64)).cell? ⟨w.heap.size, o, none⟩ := fun o => by
    rw [hc2 _ _ (by simp; try omega)]; simp
  have h2 : w2.cell? ⟨w.heap.size, 2, none⟩ = some (.int .i64 0) := by rw [c0]; simp
  have hne := hr.ne h2
  exact bodyPost_ret (v := .tuple #[.agg #[.int .i64 0, .int .i64 0, .int .i64 0, .int .i64 0], .iface 241 (.pointer (some ⟨b, 0, none⟩))]) (by simp [results, Tryz.results102, go_sem, c0]) rfl ⟨b, rfl, (((hr.setCell _ hne).setCell _ hne).setCell _ hne).setCell _ hne, ((((((((Below.refl _ _).alloc (Nat.le_refl _) _).alloc (by simp) _).drew.trans (hb2.mono (by simp; try omega)))).setCell (by simp) _).setCell (by simp) _).setCell (by simp) _).setCell (by simp) _⟩
set_option maxRecDepth 100000 in
set_option maxHeartbeats 2000000 in
theorem content_tx (k f t : UInt8) (r : List UInt8) {a : Nat → Addr} (w : World) (hS : Sent w a) (hE : endsB (k.toNat : Int) (f.toNat : Int) (t.toNat : Int) = true) (hT : goodTx r = false) (hl : r.length ≤ 300) :
    Calls Tryz.prog 102 #[.string (bs (k :: f :: t :: r))] w fun e w' => ErrRet w w' e (.agg #[.int .i64 0, .int .i64 0, .int .i64 0, .int .i64 0]) (a 5) := by
  have v5 := hS.v5
  have hg := cell_block v5
  simp at hg
  clear hS
  have hk := k.toNat_lt
  have hf := f.toNat_lt
  have ht := t.toNat_lt
  have q0 : (0 : Int) < (r.length : Int) + 1 + 1 + 1 := by omega
  have q1 : (1 : Int) < (r.length : Int) + 1 + 1 + 1 := by omega
  have q2 : (2 : Int) < (r.length : Int) + 1 + 1 + 1 := by omega
  have q3 : (3 : Int) ≤ (r.length : Int) + 1 + 1 + 1 := by omega
  have x3 : (bs (k :: f :: t :: r)).extract 3 (r.length + 1 + 1 + 1) = bs r := by rw [bs_extract]; simp
  have v5' : ((w.alloc (.cells #[.int .i64 0, .int .i64 0, .int .i64 0, .int .i64 0] 64)).alloc (.cells #[.int .i64 k.toNat, .int .i64 f.toNat, .int .i64 t.toNat, .int .i64 0] 64)).drew.cell? ⟨6, 0, none⟩ = some (.iface 268 (.pointer (some (a 5)))) := by simp [go_sem, v5, hg]
  go_enter Tryz.func102, Tryz.ntmps102
  go_wp2
  go_region
  go_wp2_with fail
  refine (checkEnds_yes _ _ _ _ _ _ hE).mono ?_
  rintro e w1 ⟨rfl, hb1⟩
  obtain ⟨hc1, hf1⟩ := bcell hb1
  have hz1 : w.heap.size + 1 < w1.heap.size := by have := hb1.size; simp at this; omega
  go_wp2_with fail
  refine (readTx_any r _).mono ?_
  rintro e w2 ⟨rfl, hb2⟩
  obtain ⟨hc2, hf2⟩ := bcell hb2
  have v5b : w2.cell? ⟨6, 0, none⟩ = some (.iface 268 (.pointer (some (a 5)))) := by rw [hc2 _ _ (by omega), hc1 _ _ (by simp; omega)]; exact v5'
  have hz2 : w1.heap.size ≤ w2.heap.size := hb2.size
  go_wp2_with fail
  refine (at_err _ _ _ _).mono ?_
  rintro e w3 ⟨b, rfl, hr, hb3⟩
  obtain ⟨hc3, hf3⟩ := bcell hb3
  have c0 : ∀ o, w3.cell? ⟨w.heap.size, o, none⟩ = (w.alloc (.cells #[.int .i64 0, .int .i64 0, .int .i64 0, .int .i64 0] 64)).cell? ⟨w.heap.size, o, none⟩ := fun o => by
    rw [hc3 _ _ (by omega), hc2 _ _ (by omega), hc1 _ _ (by simp; try omega)]; simp
  have f0 : ∀ o, w3.frozen? ⟨w.heap.size, o, none⟩ = false := fun o => by
    rw [hf3 _ _ (by omega), hf2 _ _ (by omega), hf1 _ _ (by simp; try omega)]; simp
  have h2 : w3.cell? ⟨w.heap.size, 2, none⟩ = some (.int .i64 0) := by rw [c0]; simp
  have hne := hr.ne h2
  go_wp2_with fail
  exact bodyPost_ret (v := .tuple #[.agg #[.int .i64 0, .int .i64 0, .int .i64 0, .int .i64 0], .iface 241 (.pointer (some ⟨b, 0, none⟩))]) (by simp [results, Tryz.results102, go_sem, c0]) rfl ⟨b, rfl, (((hr.setCell _ hne).setCell _ hne).setCell _ hne).setCell _ hne, (((((((((Below.refl _ _).alloc (Nat.le_refl _) _).alloc (by simp) _).drew.trans (hb1.mono (by simp; try omega))).trans ((hb2.mono (by omega)).trans (hb3.mono (by omega))))).setCell (by simp) _).setCell (by simp) _).setCell (by simp) _).setCell (by simp) _⟩
set_option maxRecDepth 100000 in
set_option maxHeartbeats 2000000 in
theorem content_good (k f t : UInt8) (r : List UInt8) {a : Nat → Addr} (w : World) (hS : Sent w a) (hE : endsB (k.toNat : Int) (f.toNat : Int) (t.toNat : Int) = true) (hT : goodTx r = true) (hl : r.length ≤ 300) :
    Calls Tryz.prog 102 #[.string (bs (k :: f :: t :: r))] w fun e w' => e = .returned (.tuple #[.agg #[.int .i64 k.toNat, .int .i64 f.toNat, .int .i64 t.toNat, .int .i64 (pt r)], .nilIface]) ∧ Below w.heap.size w w' := by
  have v5 := hS.v5
  have hg := cell_block v5
  simp at hg
  clear hS
  have hk := k.toNat_lt
  have hf := f.toNat_lt
  have ht := t.toNat_lt
  have q0 : (0 : Int) < (r.length : Int) + 1 + 1 + 1 := by omega
  have q1 : (1 : Int) < (r.length : Int) + 1 + 1 + 1 := by omega
  have q2 : (2 : Int) < (r.length : Int) + 1 + 1 + 1 := by omega
  have q3 : (3 : Int) ≤ (r.length : Int) + 1 + 1 + 1 := by omega
  have x3 : (bs (k :: f :: t :: r)).extract 3 (r.length + 1 + 1 + 1) = bs r := by rw [bs_extract]; simp
  have v5' : ((w.alloc (.cells #[.int .i64 0, .int .i64 0, .int .i64 0, .int .i64 0] 64)).alloc (.cells #[.int .i64 k.toNat, .int .i64 f.toNat, .int .i64 t.toNat, .int .i64 0] 64)).drew.cell? ⟨6, 0, none⟩ = some (.iface 268 (.pointer (some (a 5)))) := by simp [go_sem, v5, hg]
  go_enter Tryz.func102, Tryz.ntmps102
  go_wp2
  go_region
  go_wp2_with fail
  refine (checkEnds_yes _ _ _ _ _ _ hE).mono ?_
  rintro e w1 ⟨rfl, hb1⟩
  obtain ⟨hc1, hf1⟩ := bcell hb1
  have hz1 : w.heap.size + 1 < w1.heap.size := by have := hb1.size; simp at this; omega
  go_wp2_with fail
  refine (readTx_any r _).mono ?_
  rintro e w2 ⟨rfl, hb2⟩
  obtain ⟨hc2, hf2⟩ := bcell hb2
  have hz2 : w1.heap.size ≤ w2.heap.size := hb2.size
  have c0 : ∀ o, w2.cell? ⟨w.heap.size, o, none⟩ = (w.alloc (.cells #[.int .i64 0, .int .i64 0, .int .i64 0, .int .i64 0] 64)).cell? ⟨w.heap.size, o, none⟩ := fun o => by
    rw [hc2 _ _ (by omega), hc1 _ _ (by simp; try omega)]; simp
  have c1 : ∀ o, w2.cell? ⟨w.heap.size + 1, o, none⟩ = ((w.alloc (.cells #[.int .i64 0, .int .i64 0, .int .i64 0, .int .i64 0] 64)).alloc (.cells #[.int .i64 k.toNat, .int .i64 f.toNat, .int .i64 t.toNat, .int .i64 0] 64)).cell? ⟨w.heap.size + 1, o, none⟩ := fun o => by
    rw [hc2 _ _ (by omega), hc1 _ _ (by simp; try omega)]; simp
  have f0 : ∀ o, w2.frozen? ⟨w.heap.size, o, none⟩ = false := fun o => by
    rw [hf2 _ _ (by omega), hf1 _ _ (by simp; try omega)]; simp
  have f1 : ∀ o, w2.frozen? ⟨w.heap.size + 1, o, none⟩ = false := fun o => by
    rw [hf2 _ _ (by omega), hf1 _ _ (by simp; try omega)]; simp
  clear hc2 hf2 hc1 hf1
  go_wp2_with fail
  exact bodyPost_ret (v := .tuple #[.agg #[.int .i64 k.toNat, .int .i64 f.toNat, .int .i64 t.toNat, .int .i64 (pt r)], .nilIface]) (by simp [results, Tryz.results102, go_sem, c0]) rfl ⟨rfl, ((((((((((Below.refl _ _).alloc (Nat.le_refl _) _).alloc (by simp) _).drew.trans (hb1.mono (by simp; try omega))).trans (hb2.mono (by omega))).setCell (by simp) _).setCell (by simp) _).setCell (by simp) _).setCell (by simp) _).setCell (by simp) _)⟩
end Go.Proofs.YtfpojgljgbgkkaaGreatDoor

/-
  wire.ReadMessage, accord.Decode, over what the bytes say.
-/
namespace Go.Proofs.YtfpojgljgbgkkaaGreatDoor
open Go.RowKit

attribute [local go_sem] bs_append bs_size nums_len sumL_len List.length_append List.length_cons List.length_nil bs_get0 bs_get1 bs_get2

/-- Is this the content of a message? -/
def goodC : List UInt8 → Bool
  | k :: f :: t :: r => endsB (k.toNat : Int) (f.toNat : Int) (t.toNat : Int) && goodTx r
  | _ => false
def msgC : List UInt8 → Value
  | k :: f :: t :: r => .agg #[.int .i64 k.toNat, .int .i64 f.toNat, .int .i64 t.toNat, .int .i64 (pt r)]
  | _ => .agg #[.int .i64 0, .int .i64 0, .int .i64 0, .int .i64 0]

theorem content_bad (c : List UInt8) {a : Nat → Addr} (w : World) (hS : Sent w a) (hc : goodC c = false) (hl : c.length ≤ 300) :
    Calls Tryz.prog 102 #[.string (bs c)] w fun e w' => ErrRet w w' e (.agg #[.int .i64 0, .int .i64 0, .int .i64 0, .int .i64 0]) (a 5) := by
  match c, hc, hl with
  | [], _, _ => exact content_short [] w hS (by decide)
  | [x], _, _ => exact content_short [x] w hS (by simp)
  | [x, y], _, _ => exact content_short [x, y] w hS (by simp)
  | k :: f :: t :: r, hc, hl =>
    have hr : r.length ≤ 300 := by simp at hl; omega
    cases hE : endsB (k.toNat : Int) (f.toNat : Int) (t.toNat : Int)
    · exact content_ends k f t r w hS hE hr
    · simp only [goodC, hE, Bool.true_and] at hc
      exact content_tx k f t r w hS hE hc hr
theorem content_yes (c : List UInt8) {a : Nat → Addr} (w : World) (hS : Sent w a) (hc : goodC c = true) (hl : c.length ≤ 300) :
    Calls Tryz.prog 102 #[.string (bs c)] w fun e w' => e = .returned (.tuple #[msgC c, .nilIface]) ∧ Below w.heap.size w w' := by
  match c, hc, hl with
  | k :: f :: t :: r, hc, hl =>
    have hr : r.length ≤ 300 := by simp at hl; omega
    simp only [goodC, Bool.and_eq_true] at hc
    exact content_good k f t r w hS hc.1 hc.2 hr

set_option maxRecDepth 100000 in
set_option maxHeartbeats 2000000 in
/-- Where measure refuses, so does ReadMessage. -/
theorem read_measure (l : List UInt8) (i : Nat) {a : Nat → Addr} (w : World)
    (hm : ∀ w1, Below w.heap.size w w1 → Calls Tryz.prog 99 #[.string (bs l), .int .u8 44] w1 fun e w' => ErrRet w1 w' e (.int .i64 0) (a i)) :
    Calls Tryz.prog 53 #[.string (bs l)] w fun e w' => ErrRet w w' e (.agg #[.int .i64 0, .int .i64 0, .int .i64 0, .int .i64 0]) (a i) := by
  have H := hm (w.alloc (.cells #[.int .i64 0, .int .i64 0, .int .i64 0, .int .i64 0] 64)) ((Below.refl _ _).alloc (Nat.le_refl _) _)
  clear hm
  have HM : Hid (Calls Tryz.prog 99 #[.string (bs l), .int .u8 44] (w.alloc (.cells #[.int .i64 0, .int .i64 0, .int .i64 0, .int .i64 0] 64)) fun e w' => ErrRet (w.alloc (.cells #[.int .i64 0, .int .i64 0, .int .i64 0, .int .i64 0] 64)) w' e (.int .i64 0) (a i)) := H
  clear H
  go_enter Tryz.func53, Tryz.ntmps53
  go_wp2_with fail
  refine HM.out.mono ?_
  rintro e w2 ⟨b, rfl, hr, hb2⟩
  obtain ⟨hc2, hf2⟩ := bcell hb2
  have c0 : ∀ o, w2.cell? ⟨w.heap.size, o, none⟩ = (w.alloc (.cells #[.int .i64 0, .int .i64 0, .int .i64 0, .int .i64 0] 64)).cell? ⟨w.heap.size, o, none⟩ := fun o => by
    rw [hc2 _ _ (by simp)]
  have f0 : ∀ o, w2.frozen? ⟨w.heap.size, o, none⟩ = false := fun o => by
    rw [hf2 _ _ (by simp)]; simp
  have h2 : w2.cell? ⟨w.heap.size, 2, none⟩ = some (.int .i64 0) := by rw [c0]; simp
  have hne := hr.ne h2
  go_wp2_with fail
  exact bodyPost_ret (v := .tuple #[.agg #[.int .i64 0, .int .i64 0, .int .i64 0, .int .i64 0], .iface 241 (.pointer (some ⟨b, 0, none⟩))]) (by simp [results, Tryz.results53, go_sem, c0]) rfl ⟨b, rfl, (((hr.setCell _ hne).setCell _ hne).setCell _ hne).setCell _ hne, ((((((Below.refl _ _).alloc (Nat.le_refl _) _).trans (hb2.mono (by simp))).setCell (by simp) _).setCell (by simp) _).setCell (by simp) _).setCell (by simp) _⟩

set_option maxRecDepth 100000 in
set_option maxHeartbeats 2000000 in
theorem read_more (n : UInt8) (r : List UInt8) {a : Nat → Addr} (w : World) (hS : Sent w a) (hr : n.toNat + 4 < r.length) (hl : r.length ≤ maxLen - 2) :
    Calls Tryz.prog 53 #[.string (bs (44 :: n :: r))] w fun e w' => ErrRet w w' e (.agg #[.int .i64 0, .int .i64 0, .int .i64 0, .int .i64 0]) (a 3) := by
  have hS1 := hS.later ((Below.refl _ w).alloc (Nat.le_refl _) (.cells #[.int .i64 0, .int .i64 0, .int .i64 0, .int .i64 0] 64))
  have v3 := hS1.v3
  have H := measure_whole 44 44 n r (w.alloc (.cells #[.int .i64 0, .int .i64 0, .int .i64 0, .int .i64 0] 64)) (by decide) (by omega) hl
  have hn := n.toNat_lt
  unfold maxLen at hl
  clear hS hS1
  have HM : Hid (Calls Tryz.prog 99 #[.string (bs (44 :: n :: r)), .int .u8 44] (w.alloc (.cells #[.int .i64 0, .int .i64 0, .int .i64 0, .int .i64 0] 64)) fun e w' => e = .returned (.tuple #[.int .i64 (2 + (n.toNat : Int) + 4), .nilIface]) ∧ (w.alloc (.cells #[.int .i64 0, .int .i64 0, .int .i64 0, .int .i64 0] 64)) = w') := H
  clear H
  have q1 : 2 + (n.toNat : Int) + 4 < (r.length : Int) + 1 + 1 := by omega
  go_enter Tryz.func53, Tryz.ntmps53
  go_wp2_with fail
  refine HM.out.mono ?_
  rintro e w1 ⟨rfl, rfl⟩
  go_wp2_with fail
  refine (at_err _ _ _ _).mono ?_
  rintro e w2 ⟨b, rfl, hr, hb2⟩
  obtain ⟨hc2, hf2⟩ := bcell hb2
  have c0 : ∀ o, w2.cell? ⟨w.heap.size, o, none⟩ = (w.alloc (.cells #[.int .i64 0, .int .i64 0, .int .i64 0, .int .i64 0] 64)).cell? ⟨w.heap.size, o, none⟩ := fun o => by
    rw [hc2 _ _ (by simp)]
  have f0 : ∀ o, w2.frozen? ⟨w.heap.size, o, none⟩ = false := fun o => by
    rw [hf2 _ _ (by simp)]; simp
  have h2 : w2.cell? ⟨w.heap.size, 2, none⟩ = some (.int .i64 0) := by rw [c0]; simp
  have hne := hr.ne h2
  go_wp2_with fail
  exact bodyPost_ret (v := .tuple #[.agg #[.int .i64 0, .int .i64 0, .int .i64 0, .int .i64 0], .iface 241 (.pointer (some ⟨b, 0, none⟩))]) (by simp [results, Tryz.results53, go_sem, c0]) rfl ⟨b, rfl, (((hr.setCell _ hne).setCell _ hne).setCell _ hne).setCell _ hne, ((((((Below.refl _ _).alloc (Nat.le_refl _) _).trans (hb2.mono (by simp))).setCell (by simp) _).setCell (by simp) _).setCell (by simp) _).setCell (by simp) _⟩

set_option maxRecDepth 100000 in
set_option maxHeartbeats 2000000 in
theorem read_sum (n : UInt8) (c s : List UInt8) {a : Nat → Addr} (w : World) (hS : Sent w a) (hc : c.length = n.toNat) (hs : s.length = 4) (hne : sumL (44 :: n :: c) ≠ s) :
    Calls Tryz.prog 53 #[.string (bs (44 :: n :: (c ++ s)))] w fun e w' => ErrRet w w' e (.agg #[.int .i64 0, .int .i64 0, .int .i64 0, .int .i64 0]) (a 4) := by
  have hS1 := hS.later ((Below.refl _ w).alloc (Nat.le_refl _) (.cells #[.int .i64 0, .int .i64 0, .int .i64 0, .int .i64 0] 64))
  have hn := n.toNat_lt
  have H := measure_whole 44 44 n (c ++ s) (w.alloc (.cells #[.int .i64 0, .int .i64 0, .int .i64 0, .int .i64 0] 64)) (by decide) (by simp; omega) (by simp [maxLen]; omega)
  have HM : Hid (Calls Tryz.prog 99 #[.string (bs (44 :: n :: (c ++ s))), .int .u8 44] (w.alloc (.cells #[.int .i64 0, .int .i64 0, .int .i64 0, .int .i64 0] 64)) fun e w' => e = .returned (.tuple #[.int .i64 (2 + (n.toNat : Int) + 4), .nilIface]) ∧ (w.alloc (.cells #[.int .i64 0, .int .i64 0, .int .i64 0, .int .i64 0] 64)) = w') := H
  clear H
  have K := open_bad (44 :: n :: c) s (w.alloc (.cells #[.int .i64 0, .int .i64 0, .int .i64 0, .int .i64 0] 64)) hS1 hs (by simp) (by simp; omega) hne
  have HK : Hid (Calls Tryz.prog 101 #[.string (bs (44 :: n :: (c ++ s)))] (w.alloc (.cells #[.int .i64 0, .int .i64 0, .int .i64 0, .int .i64 0] 64)) fun e w' => ErrRet (w.alloc (.cells #[.int .i64 0, .int .i64 0, .int .i64 0, .int .i64 0] 64)) w' e (.string (bs [])) (a 4)) := K
  clear K hS hS1 hne
  have q1 : ¬ (2 + (n.toNat : Int) + 4 < ((44 :: n :: (c ++ s)).length : Int)) := by simp; omega
  generalize 44 :: n :: (c ++ s) = L at *
  go_enter Tryz.func53, Tryz.ntmps53
  go_wp2_with fail
  refine HM.out.mono ?_
  rintro e w1 ⟨rfl, rfl⟩
  go_wp2_with fail
  refine HK.out.mono ?_
  rintro e w2 ⟨b, rfl, hr, hb2⟩
  obtain ⟨hc2, hf2⟩ := bcell hb2
  have c0 : ∀ o, w2.cell? ⟨w.heap.size, o, none⟩ = (w.alloc (.cells #[.int .i64 0, .int .i64 0, .int .i64 0, .int .i64 0] 64)).cell? ⟨w.heap.size, o, none⟩ := fun o => by
    rw [hc2 _ _ (by simp)]
  have f0 : ∀ o, w2.frozen? ⟨w.heap.size, o, none⟩ = false := fun o => by
    rw [hf2 _ _ (by simp)]; simp
  have h2 : w2.cell? ⟨w.heap.size, 2, none⟩ = some (.int .i64 0) := by rw [c0]; simp
  have hne := hr.ne h2
  go_wp2_with fail
  exact bodyPost_ret (v := .tuple #[.agg #[.int .i64 0, .int .i64 0, .int .i64 0, .int .i64 0], .iface 241 (.pointer (some ⟨b, 0, none⟩))]) (by simp [results, Tryz.results53, go_sem, c0]) rfl ⟨b, rfl, (((hr.setCell _ hne).setCell _ hne).setCell _ hne).setCell _ hne, ((((((Below.refl _ _).alloc (Nat.le_refl _) _).trans (hb2.mono (by simp))).setCell (by simp) _).setCell (by simp) _).setCell (by simp) _).setCell (by simp) _⟩

set_option maxRecDepth 100000 in
set_option maxHeartbeats 2000000 in
theorem read_form (n : UInt8) (c s : List UInt8) {a : Nat → Addr} (w : World) (hS : Sent w a) (hc : c.length = n.toNat) (hs : s.length = 4) (hne : sumL (44 :: n :: c) = s) (hg : goodC c = false) :
    Calls Tryz.prog 53 #[.string (bs (44 :: n :: (c ++ s)))] w fun e w' => ErrRet w w' e (.agg #[.int .i64 0, .int .i64 0, .int .i64 0, .int .i64 0]) (a 5) := by
  have hS1 := hS.later ((Below.refl _ w).alloc (Nat.le_refl _) (.cells #[.int .i64 0, .int .i64 0, .int .i64 0, .int .i64 0] 64))
  have hn := n.toNat_lt
  have H := measure_whole 44 44 n (c ++ s) (w.alloc (.cells #[.int .i64 0, .int .i64 0, .int .i64 0, .int .i64 0] 64)) (by decide) (by simp at hc ⊢; omega) (by simp [maxLen] at hc ⊢; omega)
  have HM : Hid (Calls Tryz.prog 99 #[.string (bs (44 :: n :: (c ++ s))), .int .u8 44] (w.alloc (.cells #[.int .i64 0, .int .i64 0, .int .i64 0, .int .i64 0] 64)) fun e w' => e = .returned (.tuple #[.int .i64 (2 + (n.toNat : Int) + 4), .nilIface]) ∧ (w.alloc (.cells #[.int .i64 0, .int .i64 0, .int .i64 0, .int .i64 0] 64)) = w') := H
  clear H
  have K := open_good (44 :: n :: (c)) s (w.alloc (.cells #[.int .i64 0, .int .i64 0, .int .i64 0, .int .i64 0] 64)) hs (by simp) (by simp at hc ⊢; omega) hne
  have HK : Hid (Calls Tryz.prog 101 #[.string (bs (44 :: n :: (c ++ s)))] (w.alloc (.cells #[.int .i64 0, .int .i64 0, .int .i64 0, .int .i64 0] 64)) fun e w' => e = .returned (.tuple #[.string (bs (c)), .nilIface]) ∧ Below (w.alloc (.cells #[.int .i64 0, .int .i64 0, .int .i64 0, .int .i64 0] 64)).heap.size (w.alloc (.cells #[.int .i64 0, .int .i64 0, .int .i64 0, .int .i64 0] 64)) w') := K
  clear K
  have q1 : ¬ (2 + (n.toNat : Int) + 4 < ((44 :: n :: (c ++ s)).length : Int)) := by simp at hc ⊢; omega
  generalize 44 :: n :: (c ++ s) = L at *
  go_enter Tryz.func53, Tryz.ntmps53
  go_wp2_with fail
  refine HM.out.mono ?_
  rintro e w1 ⟨rfl, rfl⟩
  go_wp2_with fail
  refine HK.out.mono ?_
  rintro e w2 ⟨rfl, hb2⟩
  have hS2 := hS1.later hb2
  obtain ⟨hc2, hf2⟩ := bcell hb2
  have hz2 : w.heap.size < w2.heap.size := by have := hb2.size; simp at this; omega
  go_wp2_with fail
  refine (content_bad c _ hS2 hg (by omega)).mono ?_
  rintro e w3 ⟨b, rfl, hr, hb3⟩
  obtain ⟨hc3, hf3⟩ := bcell hb3
  have c0 : ∀ o, w3.cell? ⟨w.heap.size, o, none⟩ = (w.alloc (.cells #[.int .i64 0, .int .i64 0, .int .i64 0, .int .i64 0] 64)).cell? ⟨w.heap.size, o, none⟩ := fun o => by
    rw [hc3 _ _ hz2, hc2 _ _ (by simp)]
  have f0 : ∀ o, w3.frozen? ⟨w.heap.size, o, none⟩ = false := fun o => by
    rw [hf3 _ _ hz2, hf2 _ _ (by simp)]; simp
  have h2 : w3.cell? ⟨w.heap.size, 2, none⟩ = some (.int .i64 0) := by rw [c0]; simp
  have hne := hr.ne h2
  go_wp2_with fail
  exact bodyPost_ret (v := .tuple #[.agg #[.int .i64 0, .int .i64 0, .int .i64 0, .int .i64 0], .iface 241 (.pointer (some ⟨b, 0, none⟩))]) (by simp [results, Tryz.results53, go_sem, c0]) rfl ⟨b, rfl, (((hr.setCell _ hne).setCell _ hne).setCell _ hne).setCell _ hne, (((((((Below.refl _ _).alloc (Nat.le_refl _) _).trans (hb2.mono (by simp))).trans (hb3.mono (by omega))).setCell (by simp) _).setCell (by simp) _).setCell (by simp) _).setCell (by simp) _⟩

set_option maxRecDepth 100000 in
set_option maxHeartbeats 2000000 in
theorem read_good (n k f t : UInt8) (r s : List UInt8) {a : Nat → Addr} (w : World) (hS : Sent w a) (hc : (k :: f :: t :: r).length = n.toNat) (hs : s.length = 4) (hne : sumL (44 :: n :: k :: f :: t :: r) = s) (hg : goodC (k :: f :: t :: r) = true) :
    Calls Tryz.prog 53 #[.string (bs (44 :: n :: (k :: f :: t :: r ++ s)))] w fun e w' => e = .returned (.tuple #[.agg #[.int .i64 k.toNat, .int .i64 f.toNat, .int .i64 t.toNat, .int .i64 (pt r)], .nilIface]) ∧ Below w.heap.size w w' := by
  have hS1 := hS.later ((Below.refl _ w).alloc (Nat.le_refl _) (.cells #[.int .i64 0, .int .i64 0, .int .i64 0, .int .i64 0] 64))
  have hn := n.toNat_lt
  have H := measure_whole 44 44 n (k :: f :: t :: r ++ s) (w.alloc (.cells #[.int .i64 0, .int .i64 0, .int .i64 0, .int .i64 0] 64)) (by decide) (by simp at hc ⊢; omega) (by simp [maxLen] at hc ⊢; omega)
  have HM : Hid (Calls Tryz.prog 99 #[.string (bs (44 :: n :: (k :: f :: t :: r ++ s))), .int .u8 44] (w.alloc (.cells #[.int .i64 0, .int .i64 0, .int .i64 0, .int .i64 0] 64)) fun e w' => e = .returned (.tuple #[.int .i64 (2 + (n.toNat : Int) + 4), .nilIface]) ∧ (w.alloc (.cells #[.int .i64 0, .int .i64 0, .int .i64 0, .int .i64 0] 64)) = w') := H
  clear H
  have K := open_good (44 :: n :: (k :: f :: t :: r)) s (w.alloc (.cells #[.int .i64 0, .int .i64 0, .int .i64 0, .int .i64 0] 64)) hs (by simp) (by simp at hc ⊢; omega) hne
  have HK : Hid (Calls Tryz.prog 101 #[.string (bs (44 :: n :: (k :: f :: t :: r ++ s)))] (w.alloc (.cells #[.int .i64 0, .int .i64 0, .int .i64 0, .int .i64 0] 64)) fun e w' => e = .returned (.tuple #[.string (bs (k :: f :: t :: r)), .nilIface]) ∧ Below (w.alloc (.cells #[.int .i64 0, .int .i64 0, .int .i64 0, .int .i64 0] 64)).heap.size (w.alloc (.cells #[.int .i64 0, .int .i64 0, .int .i64 0, .int .i64 0] 64)) w') := K
  clear K
  have q1 : ¬ (2 + (n.toNat : Int) + 4 < ((44 :: n :: (k :: f :: t :: r ++ s)).length : Int)) := by simp at hc ⊢; omega
  generalize 44 :: n :: (k :: f :: t :: r ++ s) = L at *
  go_enter Tryz.func53, Tryz.ntmps53
  go_wp2_with fail
  refine HM.out.mono ?_
  rintro e w1 ⟨rfl, rfl⟩
  go_wp2_with fail
  refine HK.out.mono ?_
  rintro e w2 ⟨rfl, hb2⟩
  have hS2 := hS1.later hb2
  obtain ⟨hc2, hf2⟩ := bcell hb2
  have hz2 : w.heap.size < w2.heap.size := by have := hb2.size; simp at this; omega
  go_wp2_with fail
  refine (content_yes (k :: f :: t :: r) _ hS2 hg (by omega)).mono ?_
  rintro e w3 ⟨rfl, hb3⟩
  obtain ⟨hc3, hf3⟩ := bcell hb3
  have c0 : ∀ o, w3.cell? ⟨w.heap.size, o, none⟩ = (w.alloc (.cells #[.int .i64 0, .int .i64 0, .int .i64 0, .int .i64 0] 64)).cell? ⟨w.heap.size, o, none⟩ := fun o => by
    rw [hc3 _ _ hz2, hc2 _ _ (by simp)]
  have f0 : ∀ o, w3.frozen? ⟨w.heap.size, o, none⟩ = false := fun o => by
    rw [hf3 _ _ hz2, hf2 _ _ (by simp)]; simp
  simp only [msgC]
  go_wp2_with fail
  exact bodyPost_ret (v := .tuple #[.agg #[.int .i64 k.toNat, .int .i64 f.toNat, .int .i64 t.toNat, .int .i64 (pt r)], .nilIface]) (by simp [results, Tryz.results53, go_sem, c0]) rfl ⟨rfl, (((((((Below.refl _ _).alloc (Nat.le_refl _) _).trans (hb2.mono (by simp))).trans (hb3.mono (by omega))).setCell (by simp) _).setCell (by simp) _).setCell (by simp) _).setCell (by simp) _⟩
end Go.Proofs.YtfpojgljgbgkkaaGreatDoor

/-
  accord.Decode, over what the bytes say.
-/
namespace Go.Proofs.YtfpojgljgbgkkaaGreatDoor
open Go.RowKit

attribute [local go_sem] bs_append bs_size nums_len sumL_len List.length_append List.length_cons List.length_nil bs_get0 bs_get1 bs_get2
attribute [local go_sem ↓] Go.wp_at_zero Go.wp_at_succ

set_option maxRecDepth 100000 in
set_option maxHeartbeats 4000000 in
theorem decode_err (l : List UInt8) (i : Nat) (hi : i < 6) {a : Nat → Addr} (w : World) (hS : Sent w a)
    (hm : ∀ w1, Sent w1 a → Calls Tryz.prog 53 #[.string (bs l)] w1 fun e w' => ErrRet w1 w' e (.agg #[.int .i64 0, .int .i64 0, .int .i64 0, .int .i64 0]) (a i)) :
    Calls Tryz.prog 26 #[.string (bs l)] w fun e w' => e = .returned (.tuple #[.agg #[.int .i64 0, .int .i64 0, .int .i64 0, .int .i64 0], .int .i64 (errnoOf i)]) ∧ Below w.heap.size w w' := by
  have hS1 := hS.later ((Below.refl _ w).alloc (Nat.le_refl _) (.cells #[.int .i64 0, .int .i64 0, .int .i64 0, .int .i64 0] 64))
  have H := hm _ hS1
  have HM : Hid (Calls Tryz.prog 53 #[.string (bs l)] (w.alloc (.cells #[.int .i64 0, .int .i64 0, .int .i64 0, .int .i64 0] 64)) fun e w' => ErrRet (w.alloc (.cells #[.int .i64 0, .int .i64 0, .int .i64 0, .int .i64 0] 64)) w' e (.agg #[.int .i64 0, .int .i64 0, .int .i64 0, .int .i64 0]) (a i)) := H
  clear H hm hS
  go_enter Tryz.func26, Tryz.ntmps26
  go_wp2_with fail
  refine HM.out.mono ?_
  rintro e w2 ⟨b, rfl, hr, hb2⟩
  have hS2 := hS1.later hb2
  obtain ⟨hc2, hf2⟩ := bcell hb2
  have c0 : ∀ o, w2.cell? ⟨w.heap.size, o, none⟩ = (w.alloc (.cells #[.int .i64 0, .int .i64 0, .int .i64 0, .int .i64 0] 64)).cell? ⟨w.heap.size, o, none⟩ := fun o => by
    rw [hc2 _ _ (by simp)]
  have f0 : ∀ o, w2.frozen? ⟨w.heap.size, o, none⟩ = false := fun o => by
    rw [hf2 _ _ (by simp)]; simp
  have hz2 : w.heap.size < w2.heap.size := by have := hb2.size; simp at this; omega
  go_wp2_with fail
  have hbn := (((Below.refl _ w2).alloc (Nat.le_refl _) (.cells #[.int .i64 0, .int .i64 0, .int .i64 0, .int .i64 0] 64))).drew
  have K := errno_any (hS2.later hbn) i hi b (hr.later hbn)
  have HK : Hid (Calls Tryz.prog 54 #[.iface 241 (.pointer (some ⟨b, 0, none⟩))] (w2.alloc (.cells #[.int .i64 0, .int .i64 0, .int .i64 0, .int .i64 0] 64)).drew fun e w' => e = .returned (.int .i64 (errnoOf i)) ∧ (w2.alloc (.cells #[.int .i64 0, .int .i64 0, .int .i64 0, .int .i64 0] 64)).drew = w') := K
  clear K hbn hS1 hS2
  go_region_with (go_at_call 54; refine HK.out.mono ?_; rintro e w3 ⟨rfl, rfl⟩)
  all_goals go_wp2
  all_goals exact bodyPost_ret (v := .tuple #[.agg #[.int .i64 0, .int .i64 0, .int .i64 0, .int .i64 0], .int .i64 (errnoOf i)]) (by simp [results, Tryz.results26, go_sem, c0, hz2, World.cell?_alloc_lt]) rfl ⟨rfl, (((((((((Below.refl _ _).alloc (Nat.le_refl _) _).trans (hb2.mono (by simp))).setCell (by simp) _).setCell (by simp) _).setCell (by simp) _).setCell (by simp) _).alloc (by simp; omega) _).drew)⟩

set_option maxRecDepth 100000 in
set_option maxHeartbeats 4000000 in
theorem decode_ok (l : List UInt8) (k f t x : Int) {a : Nat → Addr} (w : World) (hS : Sent w a)
    (hm : ∀ w1, Sent w1 a → Calls Tryz.prog 53 #[.string (bs l)] w1 fun e w' => e = .returned (.tuple #[.agg #[.int .i64 k, .int .i64 f, .int .i64 t, .int .i64 x], .nilIface]) ∧ Below w1.heap.size w1 w') :
    Calls Tryz.prog 26 #[.string (bs l)] w fun e w' => e = .returned (.tuple #[.agg #[.int .i64 k, .int .i64 f, .int .i64 t, .int .i64 x], .int .i64 0]) ∧ Below w.heap.size w w' := by
  have hS1 := hS.later ((Below.refl _ w).alloc (Nat.le_refl _) (.cells #[.int .i64 0, .int .i64 0, .int .i64 0, .int .i64 0] 64))
  have H := hm _ hS1
  have HM : Hid (Calls Tryz.prog 53 #[.string (bs l)] (w.alloc (.cells #[.int .i64 0, .int .i64 0, .int .i64 0, .int .i64 0] 64)) fun e w' => e = .returned (.tuple #[.agg #[.int .i64 k, .int .i64 f, .int .i64 t, .int .i64 x], .nilIface]) ∧ Below (w.alloc (.cells #[.int .i64 0, .int .i64 0, .int .i64 0, .int .i64 0] 64)).heap.size (w.alloc (.cells #[.int .i64 0, .int .i64 0, .int .i64 0, .int .i64 0] 64)) w') := H
  clear H hm hS hS1
  go_enter Tryz.func26, Tryz.ntmps26
  go_wp2_with fail
  refine HM.out.mono ?_
  rintro e w2 ⟨rfl, hb2⟩
  obtain ⟨hc2, hf2⟩ := bcell hb2
  have c0 : ∀ o, w2.cell? ⟨w.heap.size, o, none⟩ = (w.alloc (.cells #[.int .i64 0, .int .i64 0, .int .i64 0, .int .i64 0] 64)).cell? ⟨w.heap.size, o, none⟩ := fun o => by
    rw [hc2 _ _ (by simp)]
  have f0 : ∀ o, w2.frozen? ⟨w.heap.size, o, none⟩ = false := fun o => by
    rw [hf2 _ _ (by simp)]; simp
  have hz2 : w.heap.size < w2.heap.size := by have := hb2.size; simp at this; omega
  go_wp2_with fail
  go_region_with (go_at_call 54; refine (errno_nil _).mono ?_; rintro e w3 ⟨rfl, rfl⟩)
  all_goals go_wp2
  all_goals exact bodyPost_ret (v := .tuple #[.agg #[.int .i64 k, .int .i64 f, .int .i64 t, .int .i64 x], .int .i64 (0)]) (by simp [results, Tryz.results26, go_sem, c0, hz2, World.cell?_alloc_lt]) rfl ⟨rfl, (((((((((Below.refl _ _).alloc (Nat.le_refl _) _).trans (hb2.mono (by simp))).setCell (by simp) _).setCell (by simp) _).setCell (by simp) _).setCell (by simp) _).alloc (by simp; omega) _).drew)⟩
end Go.Proofs.YtfpojgljgbgkkaaGreatDoor

/-
  Plain mathematics: what one byte or two say; what a message in bytes is.
-/
namespace Go.Proofs.YtfpojgljgbgkkaaGreatDoor

theorem ofNat_self (p : UInt8) : UInt8.ofNat p.toNat = p := by simp
theorem nums_self (p : UInt8) : UInt8.ofNat ((p.toNat : Int)).toNat = p := by simp
theorem nums3 (k f t : UInt8) : nums [(k.toNat : Int), (f.toNat : Int), (t.toNat : Int)] = [k, f, t] := by simp [nums]

theorem good_one (p : UInt8) : goodTx [p] = true → p.toNat < 128 := by
  intro h
  simp only [goodTx, Bool.and_eq_true, decide_eq_true_eq] at h
  have h2 := h.2
  have hp := p.toNat_lt
  have hlt : pt [p] < 128 := by simp only [pt]; omega
  rw [txL, if_pos hlt] at h2
  simp only [nums, List.map_cons, List.map_nil, List.cons.injEq, and_true] at h2
  have h3 := congrArg UInt8.toNat h2
  rw [UInt8.toNat_ofNat'] at h3
  simp only [pt] at h3
  omega
theorem goodTx_num (r : List UInt8) (h : goodTx r = true) : pt r = rt r ∧ rightTxB (rt r) = true ∧ txL (rt r) = r := by
  have key : pt r = rt r := by
    match r, h with
    | [], h => rfl
    | [p], h =>
      have := good_one p h
      simp only [pt, rt]; omega
    | [p, q], h => simp only [pt, rt]; omega
    | p :: q :: s :: r, h => rfl
  rw [← key]
  simp only [goodTx, Bool.and_eq_true, decide_eq_true_eq] at h
  exact ⟨rfl, h.1, h.2⟩
theorem goodTx_of (r : List UInt8) (h1 : rightTxB (rt r) = true) (h2 : txL (rt r) = r) : goodTx r = true := by
  have key : pt r = rt r := by
    rcases r with _ | ⟨p, _ | ⟨q, _ | ⟨s, r⟩⟩⟩
    · rfl
    · by_cases hp : p.toNat < 128
      · simp only [pt, rt]; omega
      · exfalso
        have hlt : ¬ rt [p] < 128 := by simp only [rt]; omega
        rw [txL, if_neg hlt] at h2
        have := congrArg List.length h2
        simp [nums] at this
    · simp only [pt, rt]; omega
    · rfl
  simp only [goodTx, key, h1, h2, decide_true, Bool.and_self]

theorem frame_len (m : Int) (l : List UInt8) : (frame m l).length = l.length + 6 := by simp [frame, nums, sumL]
theorem frame_head (l : List UInt8) : frame 44 l = 44 :: UInt8.ofNat l.length :: (l ++ sumL (44 :: UInt8.ofNat l.length :: l)) := by simp [frame, nums]
/-- A frame is what it is of one content alone. -/
theorem frame_iff (n : UInt8) (c s l : List UInt8) (hc : c.length = n.toNat) (hs : s.length = 4) (he : sumL (44 :: n :: c) = s) : frame 44 l = 44 :: n :: (c ++ s) ↔ l = c := by
  constructor
  · intro h
    have hl := congrArg List.length h
    rw [frame_len] at hl
    simp only [List.length_cons, List.length_append, hs] at hl
    rw [frame_head] at h
    injection h with _ h
    injection h with _ h
    exact (List.append_inj h (by omega)).1
  · rintro rfl
    rw [frame_head, hc, ofNat_self, he]
theorem msg_iff (n k f t : UInt8) (r s : List UInt8) (x : Int) (hc : (k :: f :: t :: r).length = n.toNat) (hs : s.length = 4) (he : sumL (44 :: n :: (k :: f :: t :: r)) = s) :
    msgL (k.toNat : Int) (f.toNat : Int) (t.toNat : Int) x = 44 :: n :: (k :: f :: t :: r ++ s) ↔ txL x = r := by
  rw [msgL, frame_iff n (k :: f :: t :: r) s _ hc hs he, nums3]
  constructor
  · intro h; simpa using h
  · rintro rfl; rfl
end Go.Proofs.YtfpojgljgbgkkaaGreatDoor

/-
  A message is read as it was written.
-/
namespace Go.Proofs.YtfpojgljgbgkkaaGreatDoor
open Go.RowKit

theorem byte_of (k : Int) (h0 : 0 ≤ k) (h1 : k < 256) : ((UInt8.ofNat k.toNat).toNat : Int) = k := by
  rw [UInt8.toNat_ofNat']; omega
theorem pt_txL (x : Int) (h0 : 1 ≤ x) (h1 : x ≤ 16383) : pt (txL x) = x := by
  unfold txL
  by_cases h : x < 128
  · rw [if_pos h]
    show ((UInt8.ofNat x.toNat).toNat : Int) % 128 = x
    rw [byte_of x (by omega) (by omega)]; omega
  · rw [if_neg h]
    show ((UInt8.ofNat (128 + x % 128).toNat).toNat : Int) % 128 + ((UInt8.ofNat (x / 128).toNat).toNat : Int) * 128 = x
    rw [byte_of (128 + x % 128) (by omega) (by omega), byte_of (x / 128) (by omega) (by omega)]; omega
theorem goodTx_txL (x : Int) (h : rightTxB x = true) : goodTx (txL x) = true := by
  obtain ⟨h0, h1⟩ := rightTx_of h
  simp only [goodTx, pt_txL x h0 h1, h, decide_true, Bool.and_self]

theorem msg_form (k f t x : Int) : msgL k f t x = 44 :: UInt8.ofNat (3 + (txL x).length) :: (UInt8.ofNat k.toNat :: UInt8.ofNat f.toNat :: UInt8.ofNat t.toNat :: txL x ++ sumL (44 :: UInt8.ofNat (3 + (txL x).length) :: UInt8.ofNat k.toNat :: UInt8.ofNat f.toNat :: UInt8.ofNat t.toNat :: txL x)) := by
  rw [msgL, frame_head]
  have e : (nums [k, f, t] ++ txL x).length = 3 + (txL x).length := by simp [nums]; omega
  rw [e]
  rfl

theorem decode_msg (k f t x : Int) (hE : endsB k f t = true) (hx : rightTxB x = true) (w : World) (a : Nat → Addr) (hS : Sent w a) :
    Calls Tryz.prog 26 #[.string (bs (msgL k f t x))] w fun e w' => e = .returned (.tuple #[.agg #[.int .i64 k, .int .i64 f, .int .i64 t, .int .i64 x], .int .i64 0]) ∧ Below w.heap.size w w' := by
  have h' := hE
  simp only [endsB, rightNodeB, Bool.and_eq_true, decide_eq_true_eq] at h'
  obtain ⟨⟨⟨hk1, hk2⟩, hf1, hf2⟩, ht1, ht2⟩ := h'
  obtain ⟨hx1, hx2⟩ := rightTx_of hx
  have hl := txL_len x
  have ek := byte_of k (by omega) (by omega)
  have ef := byte_of f (by omega) (by omega)
  have et := byte_of t (by omega) (by omega)
  have ep := pt_txL x hx1 hx2
  have eg := goodTx_txL x hx
  rw [msg_form]
  have H : ∀ w1, Sent w1 a → _ := fun w1 (hS1 : Sent w1 a) => read_good (UInt8.ofNat (3 + (txL x).length)) (UInt8.ofNat k.toNat) (UInt8.ofNat f.toNat) (UInt8.ofNat t.toNat) (txL x) (sumL (44 :: UInt8.ofNat (3 + (txL x).length) :: UInt8.ofNat k.toNat :: UInt8.ofNat f.toNat :: UInt8.ofNat t.toNat :: txL x)) w1 hS1
    (by rw [UInt8.toNat_ofNat']; simp; omega) rfl rfl (by simp only [goodC, ek, ef, et, hE, eg, Bool.and_self])
  simp only [ek, ef, et, ep] at H
  exact decode_ok _ k f t x w hS H
end Go.Proofs.YtfpojgljgbgkkaaGreatDoor

/-
  accordkeep.pick.
-/
namespace Go.Proofs.YtfpojgljgbgkkaaGreatDoor
open Go.RowKit

/-- Which of n things the raw number c speaks of. -/
def pickI (c n : Int) : Int := (if c < 0 then -(c + 1) else c) % n
theorem pickI_bd (c n : Int) (hn : 0 < n) : 0 ≤ pickI c n ∧ pickI c n < n := by
  unfold pickI
  exact ⟨Int.emod_nonneg _ (by omega), Int.emod_lt_of_pos _ hn⟩
theorem keepPick_any (c n : Int) (w : World) (hc0 : -9223372036854775808 ≤ c) (hc1 : c ≤ 9223372036854775807) (hn : 0 < n) (hn1 : n ≤ 100000) :
    Calls Tryz.prog 12 #[.int .i64 c, .int .i64 n] w fun e w' => e = .returned (.int .i64 (pickI c n)) ∧ w = w' := by
  have q0 : (n == 0) = false := by rw [beq_eq_false_iff_ne]; omega
  by_cases h : c < 0
  · have hp : pickI c n = (-(c + 1)) % n := by unfold pickI; rw [if_pos h]
    go_enter Tryz.func12, Tryz.ntmps12
    go_wp2
    go_ret
    exact ⟨ret_int (by rw [hp, ← Int.neg_tmod, Int.tmod_eq_emod_of_nonneg (by omega)]), rfl⟩
  · have hp : pickI c n = c % n := by unfold pickI; rw [if_neg h]
    go_enter Tryz.func12, Tryz.ntmps12
    go_wp2
    go_ret
    exact ⟨rfl, rfl⟩
end Go.Proofs.YtfpojgljgbgkkaaGreatDoor
