/-
  The leaves: frames, numbers, errors with a place, tests of a message's parts.
-/
import Derived.Test.YtfpojgljgbgkkaaDoorSum
import Derived.Deep.RegionWith
import Derived.Deep.QuietTactic
import Derived.BigQuiet
namespace Go.Proofs.YtfpojgljgbgkkaaDoor
open Go.RowKit

theorem nums_len (xs : List Int) : (nums xs).length = xs.length := by simp [nums]
attribute [local go_sem] bs_append bs_size nums_len sumL_len List.length_append List.length_cons List.length_nil

theorem sumBytes_bs (l : List UInt8) (w : World) (hs : l.length ≤ maxLen) :
    Calls Tryd.prog 44 #[.string (bs l)] w fun e w' => e = .returned (.string (bs (sumL l))) ∧ Below w.heap.size w w' := sumBytes_any (bs l) w hs
theorem refSum_bs (l : List UInt8) (w : World) (hs : l.length ≤ maxLen) :
    Calls Tryd.prog 23 #[.string (bs l)] w fun e w' => e = .returned (.string (bs (sumL l))) ∧ Below w.heap.size w w' := refSum_any (bs l) w hs

/-- A content, with what begins it and its sum. -/
def frame (m : Int) (l : List UInt8) : List UInt8 := (nums [m, (l.length : Int)] ++ l) ++ sumL (nums [m, (l.length : Int)] ++ l)

set_option maxRecDepth 100000 in
set_option maxHeartbeats 400000 in
theorem seal_any (m : Int) (l : List UInt8) (w : World) (hm : 0 ≤ m ∧ m < 256) (hs : l.length < 256) :
    Calls Tryd.prog 32 #[.int .u8 m, .string (bs l)] w fun e w' => e = .returned (.string (bs (frame m l))) ∧ Below w.heap.size w w' := by
  have k2 := conv2
  obtain ⟨hm0, hm1⟩ := hm
  go_enter Tryd.func32, Tryd.ntmps32
  go_wp2_with (go_at_call 44; refine (sumBytes_bs _ _ (by simp [nums_len, maxLen]; omega)).mono ?_; rintro e w' ⟨rfl, hb⟩)
  go_ret
  exact ⟨rfl, ((Below.refl _ _).alloc (Nat.le_refl _) _).trans (hb.mono (by simp))⟩

set_option maxRecDepth 100000 in
set_option maxHeartbeats 400000 in
theorem framed_any (m : Int) (l : List UInt8) (w : World) (hm : 0 ≤ m ∧ m < 256) (hs : l.length < 256) :
    Calls Tryd.prog 21 #[.int .i64 m, .string (bs l)] w fun e w' => e = .returned (.string (bs (frame m l))) ∧ Below w.heap.size w w' := by
  have k2 := conv2
  obtain ⟨hm0, hm1⟩ := hm
  go_enter Tryd.func21, Tryd.ntmps21
  go_wp2_with (go_at_call 23; refine (refSum_bs _ _ (by simp [nums_len, maxLen]; omega)).mono ?_; rintro e w' ⟨rfl, hb⟩)
  go_ret
  exact ⟨rfl, ((Below.refl _ _).alloc (Nat.le_refl _) _).trans (hb.mono (by simp))⟩

theorem at_any (part : ByteArray) (off : Int) (u : TypeId) (v : Value) (w : World) :
    Calls Tryd.prog 31 #[.string part, .int .i64 off, .iface u v] w fun e w' => e = .returned (.iface 91 (.pointer (some ⟨w.heap.size, 0, none⟩))) ∧ w' = w.alloc (.cells #[.string part, .int .i64 off, .iface u v] 93) := by
  go_enter Tryd.func31, Tryd.ntmps31
  go_wp2
  go_ret
  exact ⟨rfl, rfl⟩

def rightTxB (x : Int) : Bool := decide (1 ≤ x ∧ x ≤ 16383)
def rightNodeB (x : Int) : Bool := decide (0 ≤ x ∧ x ≤ 6)
theorem rightTx_any (x : Int) (w : World) : Calls Tryd.prog 30 #[.int .i64 x] w fun e w' => e = .returned (.bool (rightTxB x)) ∧ w = w' := by
  by_cases h1 : 1 ≤ x
  · by_cases h2 : x ≤ 16383
    · go_enter Tryd.func30, Tryd.ntmps30
      go_wp2
      go_ret
      exact ⟨by simp [rightTxB, h1, h2], rfl⟩
    · go_enter Tryd.func30, Tryd.ntmps30
      go_wp2
      go_ret
      exact ⟨by simp [rightTxB, h1, h2], rfl⟩
  · go_enter Tryd.func30, Tryd.ntmps30
    go_wp2
    go_ret
    exact ⟨by simp [rightTxB]; omega, rfl⟩
theorem rightNode_any (x : Int) (w : World) : Calls Tryd.prog 43 #[.int .i64 x] w fun e w' => e = .returned (.bool (rightNodeB x)) ∧ w = w' := by
  by_cases h1 : 0 ≤ x
  · by_cases h2 : x ≤ 6
    · go_enter Tryd.func43, Tryd.ntmps43
      go_wp2
      go_ret
      exact ⟨by simp [rightNodeB, h1, h2], rfl⟩
    · go_enter Tryd.func43, Tryd.ntmps43
      go_wp2
      go_ret
      exact ⟨by simp [rightNodeB, h1, h2], rfl⟩
  · go_enter Tryd.func43, Tryd.ntmps43
    go_wp2
    go_ret
    exact ⟨by simp [rightNodeB]; omega, rfl⟩

theorem writeTx_small (x : Int) (w : World) (h0 : 1 ≤ x) (h1 : x < 128) :
    Calls Tryd.prog 33 #[.int .i64 x] w fun e w' => e = .returned (.string (bs (nums [x]))) ∧ Below w.heap.size w w' := by
  have k1 := conv1
  go_enter Tryd.func33, Tryd.ntmps33
  go_wp2
  go_ret
  exact ⟨rfl, (Below.refl _ _).alloc (Nat.le_refl _) _⟩
theorem writeTx_great (x : Int) (w : World) (h0 : 128 ≤ x) (h1 : x ≤ 16383) :
    Calls Tryd.prog 33 #[.int .i64 x] w fun e w' => e = .returned (.string (bs (nums [128 + x % 128, x / 128]))) ∧ Below w.heap.size w w' := by
  have k2 := conv2
  have hor : bits .or .i64 128 (x % 128) = 128 + x % 128 := bits_join .i64 8 (by decide) (fun n a b => by rw [IntKind.wrap_i64]; omega) 7 128 _ (by decide) (by decide) (by decide) (by omega) (by omega) (by omega)
  go_enter Tryd.func33, Tryd.ntmps33
  go_wp2
  go_ret
  exact ⟨rfl, (Below.refl _ _).alloc (Nat.le_refl _) _⟩
theorem number_small (x : Int) (w : World) (h0 : 1 ≤ x) (h1 : x < 128) :
    Calls Tryd.prog 22 #[.int .i64 x] w fun e w' => e = .returned (.string (bs (nums [x]))) ∧ Below w.heap.size w w' := by
  have k1 := conv1
  go_enter Tryd.func22, Tryd.ntmps22
  go_wp2
  go_ret
  exact ⟨rfl, (Below.refl _ _).alloc (Nat.le_refl _) _⟩
theorem number_great (x : Int) (w : World) (h0 : 128 ≤ x) (h1 : x ≤ 16383) :
    Calls Tryd.prog 22 #[.int .i64 x] w fun e w' => e = .returned (.string (bs (nums [128 + x % 128, x / 128]))) ∧ Below w.heap.size w w' := by
  have k2 := conv2
  go_enter Tryd.func22, Tryd.ntmps22
  go_wp2
  go_ret
  exact ⟨rfl, (Below.refl _ _).alloc (Nat.le_refl _) _⟩

/-- A transaction's number, in one byte or two. -/
def txL (x : Int) : List UInt8 := if x < 128 then nums [x] else nums [128 + x % 128, x / 128]
theorem txL_len (x : Int) : 1 ≤ (txL x).length ∧ (txL x).length ≤ 2 := by unfold txL; split <;> simp [nums_len]
theorem writeTx_any (x : Int) (w : World) (h0 : 1 ≤ x) (h1 : x ≤ 16383) :
    Calls Tryd.prog 33 #[.int .i64 x] w fun e w' => e = .returned (.string (bs (txL x))) ∧ Below w.heap.size w w' := by
  unfold txL
  by_cases h : x < 128
  · rw [if_pos h]; exact writeTx_small x w h0 h
  · rw [if_neg h]; exact writeTx_great x w (by omega) h1
theorem number_any (x : Int) (w : World) (h0 : 1 ≤ x) (h1 : x ≤ 16383) :
    Calls Tryd.prog 22 #[.int .i64 x] w fun e w' => e = .returned (.string (bs (txL x))) ∧ Below w.heap.size w w' := by
  unfold txL
  by_cases h : x < 128
  · rw [if_pos h]; exact number_small x w h0 h
  · rw [if_neg h]; exact number_great x w (by omega) h1

/-- At the block b lies an error with a place, around the sentinel at a. -/
def ErrAt (w : World) (b : Nat) (a : Addr) : Prop := w.cell? ⟨b, 2, none⟩ = some (.iface 118 (.pointer (some a)))
theorem cell_block {w : World} {p : Addr} {v : Value} (hc : w.cell? p = some v) : p.block < w.heap.size := by
  rcases Nat.lt_or_ge p.block w.heap.size with h | h
  · exact h
  · simp [World.cell?, Array.getElem?_eq_none h] at hc
theorem ErrAt.later {w w' : World} {b : Nat} {a : Addr} (h : ErrAt w b a) (hb : Below w.heap.size w w') : ErrAt w' b a := by
  have hl : b < w.heap.size := cell_block h
  unfold ErrAt at h ⊢
  rw [hb.cell (p := ⟨b, 2, none⟩) hl]
  exact h
theorem at_err (part : ByteArray) (off : Int) (a : Addr) (w : World) :
    Calls Tryd.prog 31 #[.string part, .int .i64 off, .iface 118 (.pointer (some a))] w fun e w' => ∃ b, e = .returned (.iface 91 (.pointer (some ⟨b, 0, none⟩))) ∧ ErrAt w' b a ∧ Below w.heap.size w w' := by
  refine (at_any part off _ _ w).mono ?_
  rintro e w' ⟨rfl, rfl⟩
  exact ⟨_, rfl, by unfold ErrAt; rw [World.cell?_alloc_at _ _ _ _ rfl]; rfl, (Below.refl _ _).alloc (Nat.le_refl _) _⟩

theorem bcell {W w1 : World} (hb : Below W.heap.size W w1) : (∀ b o, b < W.heap.size → w1.cell? ⟨b, o, none⟩ = W.cell? ⟨b, o, none⟩) ∧ (∀ b o, b < W.heap.size → w1.frozen? ⟨b, o, none⟩ = W.frozen? ⟨b, o, none⟩) :=
  ⟨fun b o h => hb.cell (p := ⟨b, o, none⟩) h, fun b o h => hb.frozen (p := ⟨b, o, none⟩) h⟩

def endsB (k f t : Int) : Bool := decide (1 ≤ k ∧ k ≤ 7) && rightNodeB f && rightNodeB t
def msgV (k f t x : Int) : Value := .agg #[.int .i64 k, .int .i64 f, .int .i64 t, .int .i64 x]

set_option maxHeartbeats 1000000 in
theorem checkEnds_yes (k f t x : Int) (a : Addr) (w : World) (h : endsB k f t = true) :
    Calls Tryd.prog 29 #[.agg #[.int .i64 k, .int .i64 f, .int .i64 t, .int .i64 x], .iface 118 (.pointer (some a))] w fun e w' => e = .returned .nilIface ∧ Below w.heap.size w w' := by
  simp only [endsB, Bool.and_eq_true, decide_eq_true_eq] at h
  obtain ⟨⟨⟨h1, h2⟩, hf⟩, ht⟩ := h
  go_enter Tryd.func29, Tryd.ntmps29
  go_wp2_with (go_at_call 43; refine (rightNode_any _ _).mono ?_; rintro e w' ⟨rfl, rfl⟩)
  go_ret
  exact ⟨rfl, (Below.refl _ _).alloc (Nat.le_refl _) _⟩

set_option maxHeartbeats 1000000 in
theorem checkEnds_no (k f t x : Int) (a : Addr) (w : World) (h : endsB k f t = false) :
    Calls Tryd.prog 29 #[.agg #[.int .i64 k, .int .i64 f, .int .i64 t, .int .i64 x], .iface 118 (.pointer (some a))] w fun e w' => ∃ b, e = .returned (.iface 91 (.pointer (some ⟨b, 0, none⟩))) ∧ ErrAt w' b a ∧ Below w.heap.size w w' := by
  by_cases h1 : 1 ≤ k
  · by_cases h2 : k ≤ 7
    · simp only [endsB, h1, h2, and_self, decide_true, Bool.true_and] at h
      cases hf : rightNodeB f
      · clear h
        go_enter Tryd.func29, Tryd.ntmps29
        go_wp2_with (first | (go_at_call 43; refine (rightNode_any _ _).mono ?_; rintro e w' ⟨rfl, rfl⟩) | (go_at_call 31; refine (at_err _ _ _ _).mono ?_; rintro e w' ⟨b, rfl, he, hb⟩))
        go_ret
        exact ⟨b, rfl, he, ((Below.refl _ _).alloc (Nat.le_refl _) _).trans (hb.mono (by simp))⟩
      · simp only [hf, Bool.true_and] at h
        go_enter Tryd.func29, Tryd.ntmps29
        go_wp2_with (first | (go_at_call 43; refine (rightNode_any _ _).mono ?_; rintro e w' ⟨rfl, rfl⟩) | (go_at_call 31; refine (at_err _ _ _ _).mono ?_; rintro e w' ⟨b, rfl, he, hb⟩))
        go_ret
        exact ⟨b, rfl, he, ((Below.refl _ _).alloc (Nat.le_refl _) _).trans (hb.mono (by simp))⟩
    · clear h
      go_enter Tryd.func29, Tryd.ntmps29
      go_wp2_with (first | (go_at_call 31; refine (at_err _ _ _ _).mono ?_; rintro e w' ⟨b, rfl, he, hb⟩))
      go_ret
      exact ⟨b, rfl, he, ((Below.refl _ _).alloc (Nat.le_refl _) _).trans (hb.mono (by simp))⟩
  · clear h
    go_enter Tryd.func29, Tryd.ntmps29
    go_wp2_with (first | (go_at_call 31; refine (at_err _ _ _ _).mono ?_; rintro e w' ⟨b, rfl, he, hb⟩))
    go_ret
    exact ⟨b, rfl, he, ((Below.refl _ _).alloc (Nat.le_refl _) _).trans (hb.mono (by simp))⟩

/-- A message in bytes. -/
def msgL (k f t x : Int) : List UInt8 := frame 44 (nums [k, f, t] ++ txL x)

set_option maxRecDepth 100000 in
set_option maxHeartbeats 1000000 in
theorem writeMessage_yes (k f t x : Int) (a : Addr) (w : World) (hv : w.cell? ⟨0, 0, none⟩ = some (.iface 118 (.pointer (some a)))) (h : endsB k f t = true) (hx : rightTxB x = true) :
    Calls Tryd.prog 18 #[.agg #[.int .i64 k, .int .i64 f, .int .i64 t, .int .i64 x]] w fun e w' => e = .returned (.tuple #[.string (bs (msgL k f t x)), .nilIface]) ∧ Below w.heap.size w w' := by
  have hg := cell_block hv
  simp at hg
  have k3 := conv3
  have hx' := hx
  simp only [rightTxB, decide_eq_true_eq] at hx'
  obtain ⟨hx1, hx2⟩ := hx'
  have h' := h
  simp only [endsB, rightNodeB, Bool.and_eq_true, decide_eq_true_eq] at h'
  obtain ⟨⟨⟨hk1, hk2⟩, hf1, hf2⟩, ht1, ht2⟩ := h'
  have hlen := (txL_len x).2
  have hfin : bs (msgL k f t x) = bs (frame 44 (nums [k, f, t] ++ txL x)) := rfl
  have HF : Hid (bs (msgL k f t x) = bs (frame 44 (nums [k, f, t] ++ txL x))) := hfin
  clear hfin
  go_enter Tryd.func18, Tryd.ntmps18
  go_wp2_with fail
  refine (checkEnds_yes k f t x a _ h).mono ?_
  rintro e w1 ⟨rfl, hb1⟩
  obtain ⟨hc1, hf1⟩ := bcell hb1
  have hz1 : w.heap.size < w1.heap.size := by have := hb1.size; simp at this; omega
  go_wp2_with (first | (go_at_call 30; refine (rightTx_any _ _).mono ?_; rintro e w' ⟨rfl, rfl⟩))
  refine (writeTx_any x _ hx1 hx2).mono ?_
  rintro e w2 ⟨rfl, hb2⟩
  go_wp2_with (first | (go_at_call 32; refine (seal_any 44 _ _ (by decide) (by simp [nums_len]; omega)).mono ?_; rintro e w3 ⟨rfl, hb3⟩))
  go_ret2
  refine ⟨by rw [HF.out]; rfl, ?_⟩
  exact ((((Below.refl _ _).alloc (Nat.le_refl _) _).trans (hb1.mono (by simp))).alloc (by omega) _).trans ((hb2.mono (by simp; omega)).trans (hb3.mono (by have := hb2.size; simp at this; omega)))

set_option maxRecDepth 100000 in
set_option maxHeartbeats 1000000 in
theorem writeMessage_no (k f t x : Int) (a : Addr) (w : World) (hv : w.cell? ⟨0, 0, none⟩ = some (.iface 118 (.pointer (some a)))) (h : (endsB k f t && rightTxB x) = false) :
    Calls Tryd.prog 18 #[.agg #[.int .i64 k, .int .i64 f, .int .i64 t, .int .i64 x]] w fun e w' => ∃ b, e = .returned (.tuple #[.string (bs []), .iface 91 (.pointer (some ⟨b, 0, none⟩))]) ∧ ErrAt w' b a ∧ Below w.heap.size w w' := by
  have hg := cell_block hv
  simp at hg
  cases he : endsB k f t
  · go_enter Tryd.func18, Tryd.ntmps18
    go_wp2_with fail
    refine (checkEnds_no k f t x a _ he).mono ?_
    rintro e w1 ⟨b, rfl, hr, hb1⟩
    go_wp2
    go_ret2
    exact ⟨b, rfl, hr, ((Below.refl _ _).alloc (Nat.le_refl _) _).trans (hb1.mono (by simp))⟩
  · simp only [he, Bool.true_and] at h
    go_enter Tryd.func18, Tryd.ntmps18
    go_wp2_with fail
    refine (checkEnds_yes k f t x a _ he).mono ?_
    rintro e w1 ⟨rfl, hb1⟩
    obtain ⟨hc1, hf1⟩ := bcell hb1
    have hz1 : w.heap.size < w1.heap.size := by have := hb1.size; simp at this; omega
    go_wp2_with (first | (go_at_call 30; refine (rightTx_any _ _).mono ?_; rintro e w' ⟨rfl, rfl⟩) | (go_at_call 31; refine (at_err _ _ _ _).mono ?_; rintro e w2 ⟨b, rfl, hr, hb2⟩))
    go_ret2
    exact ⟨b, rfl, hr, (((Below.refl _ _).alloc (Nat.le_refl _) _).trans (hb1.mono (by simp))).trans (hb2.mono (by omega))⟩
end Go.Proofs.YtfpojgljgbgkkaaDoor
