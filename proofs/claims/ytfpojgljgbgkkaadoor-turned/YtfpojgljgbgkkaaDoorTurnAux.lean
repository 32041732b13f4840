/-
  Small things for the law Turned.
-/
import Derived.Test.YtfpojgljgbgkkaaDoorTurn1
import Derived.Test.YtfpojgljgbgkkaaDoorPick
import Derived.Test.YtfpojgljgbgkkaaDoorEnc2
import Derived.Deep.DrawnRows
import Derived.Deep.RegionHeld3
import Derived.Lib.ConvBytes
namespace Go.Proofs.YtfpojgljgbgkkaaDoor
open Go.RowKit

attribute [local go_sem] bs_append bs_size nums_len sumL_len List.length_append List.length_cons List.length_nil bs_get0 bs_get1 bs_get2
attribute [local go_sem ↓] Go.wp_at_zero Go.wp_at_succ

theorem decode_bad {i : Nat} {l : List UInt8} (hi : i < 6) (h : BadAs i l) (w : World) (a : Nat → Addr) (hS : Sent w a) :
    Calls Tryd.prog 7 #[.string (bs l)] w fun e w' => e = .returned (.tuple #[.agg #[.int .i64 0, .int .i64 0, .int .i64 0, .int .i64 0], .int .i64 (errnoOf i)]) ∧ Below w.heap.size w w' :=
  decode_err l i hi w hS (fun w1 hS1 => h w1 a hS1)

theorem picked (kind fr to tx : Int) : endsB (1 + pickI kind 7) (pickI fr 7) (pickI to 7) = true ∧ rightTxB (1 + pickI tx 16383) = true := by
  have h1 := pickI_bd kind 7 (by decide)
  have h2 := pickI_bd fr 7 (by decide)
  have h3 := pickI_bd to 7 (by decide)
  have h4 := pickI_bd tx 16383 (by decide)
  refine ⟨?_, ?_⟩
  · simp [endsB, rightNodeB]; omega
  · simp [rightTxB]; omega

/-- The bytes L lie in the block n, from its beginning on, and may be written. -/
def rowIs (w : World) (n : Nat) (L : List UInt8) : Prop := ∀ (i : Nat) (h : i < L.length), w.cell? ⟨n, i, none⟩ = some (.int .u8 L[i].toNat) ∧ w.frozen? ⟨n, i, none⟩ = false
theorem conv_bytes (W : World) (l : List UInt8) : ∃ cap W', (convert 9 45 (.string (bs l))).run Tryd.prog W = .ok (.slice (some ⟨W.heap.size, 0, none⟩) l.length cap) W' ∧ Below W.heap.size W W' ∧ rowIs W' W.heap.size l ∧ W'.heap.size = W.heap.size + 1 := by
  refine ⟨_, _, run_bytes_of_string (P := Tryd.prog) W 9 45 5 (bs l) Tryd.underlying9 Tryd.underlying45 Tryd.underlying5, ?_, ?_, ?_⟩
  · exact ((Below.refl _ W).drew).alloc (by simp) _
  · intro i hi
    refine ⟨?_, ?_⟩
    · have h := World.cell?_alloc_mark W.drew (bytesRow (bs l) (grownCap W (bs l).size 0 5)) 5 ((bytesRow (bs l) (grownCap W (bs l).size 0 5)).size, (bytesRow (bs l) (grownCap W (bs l).size 0 5)).size + 1) i
      refine Eq.trans h ?_
      have hi' : i < l.toArray.size := by simpa using hi
      simp [bytesRow, bs, Array.getElem?_append, hi]
    · have h := World.frozen?_alloc_mark W.drew (bytesRow (bs l) (grownCap W (bs l).size 0 5)) 5 (bytesRow (bs l) (grownCap W (bs l).size 0 5)).size ((bytesRow (bs l) (grownCap W (bs l).size 0 5)).size + 1) i
      refine Eq.trans h ?_
      have : ¬ ((bytesRow (bs l) (grownCap W (bs l).size 0 5)).size ≤ i) := by simp [bytesRow, bs]; omega
      simp [this]
  · simp
theorem conv_back (w : World) (n cap : Nat) (L : List UInt8) (h : rowIs w n L) : (convert 45 9 (.slice (some ⟨n, 0, none⟩) L.length cap)).run Tryd.prog w = .ok (.string (bs L)) w :=
  run_convert_bytes_back w 45 9 5 ⟨n, 0, none⟩ cap L Tryd.underlying45 Tryd.underlying5 Tryd.underlying9 (fun j hj => by
    have := (h j hj).1
    have hp : (⟨n, 0, none⟩ : Addr).add j = ⟨n, 0 + j, none⟩ := by unfold Addr.add; split <;> simp_all
    rw [hp, Nat.zero_add]
    exact this)
theorem row_mid {w : World} {n j0 j : Nat} {M v : List UInt8} (h : rowIs w n (M.take j0 ++ v ++ M.drop (j0 + j))) (hv : (M.take j0 ++ v).length = j0 + j) (hl : j0 + j < M.length) : w.cell? ⟨n, j0 + j, none⟩ = some (.int .u8 (M[j0 + j]'hl).toNat) := by
  have h1 := (h (j0 + j) (by rw [List.length_append, hv]; simp; omega)).1
  rw [List.getElem_append_right (by omega)] at h1
  simpa [hv] using h1
theorem row_free {w : World} {n i : Nat} {L : List UInt8} (h : rowIs w n L) (hl : i < L.length) : w.frozen? ⟨n, i, none⟩ = false := (h i hl).2
theorem wrap64' (x : Int) (h0 : 0 ≤ x) (h1 : x < 100000) : IntKind.i64.wrap x = x := by rw [IntKind.wrap_i64]; omega
theorem row_set {w : World} {n i : Nat} {L : List UInt8} (h : rowIs w n L) (y : UInt8) : rowIs (w.setCell ⟨n, i, none⟩ (.int .u8 y.toNat)) n (L.set i y) := by
  intro k hk
  have hk' : k < L.length := by simpa using hk
  obtain ⟨c, f⟩ := h k hk'
  refine ⟨?_, ?_⟩
  · by_cases e : i = k
    · subst e
      rw [World.cell?_setCell_same _ _ _ c]
      simp
    · rw [World.cell?_setCell_other _ _ _ _ (fun h => e (congrArg Addr.off h)), c]
      simp [e]
  · rw [World.frozen?_setCell]
    exact f
theorem row_drewN {w : World} {n : Nat} {L : List UInt8} (h : rowIs w n L) (q : Nat) : rowIs (w.drewN q) n L := h
theorem flag_true {v u : List UInt8} (y m : UInt8) (h : decide (v = u) = true) : ((y.toNat : Int) != (m.toNat : Int)) = !decide (v ++ [y] = u ++ [m]) := by
  have e : v = u := by simpa using h
  subst e
  by_cases hy : y = m
  · subst hy; simp
  · have : ¬ ((y.toNat : Int) = (m.toNat : Int)) := fun e => hy (UInt8.toNat.inj (by omega))
    simp [hy, bne, this]
theorem flag_false {v u : List UInt8} (y m : UInt8) (h : decide (v = u) = false) : true = !decide (v ++ [y] = u ++ [m]) := by
  have : ¬ (v ++ [y] = u ++ [m]) := fun e => by
    have := (List.append_inj' e rfl).1
    simp [this] at h
  simp [this]
theorem row_turn {j0 j : Nat} {M v : List UInt8} {y : UInt8} (hv : (M.take j0 ++ v).length = j0 + j) (hl : j0 + j < M.length) : (M.take j0 ++ v ++ M.drop (j0 + j)).set (j0 + j) y = M.take j0 ++ (v ++ [y]) ++ M.drop (j0 + (j + 1)) := by
  rw [List.set_append_right _ _ (by omega), hv, Nat.sub_self, List.drop_eq_getElem_cons hl]
  simp [Nat.add_assoc]
theorem take_more {j0 j : Nat} {M : List UInt8} (hl : j0 + j < M.length) : (M.drop j0).take (j + 1) = (M.drop j0).take j ++ [M[j0 + j]'hl] := by
  rw [List.take_succ_eq_append_getElem (by simp; omega)]
  simp
end Go.Proofs.YtfpojgljgbgkkaaDoor
