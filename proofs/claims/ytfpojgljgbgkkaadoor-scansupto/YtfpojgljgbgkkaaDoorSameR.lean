/-
  accordlaw.sameR, of two lists of the same records.
-/
import Derived.Test.YtfpojgljgbgkkaaDoorOwn
import Derived.Test.YtfpojgljgbgkkaaDoorScanM
import Derived.BigQuiet
namespace Go.Proofs.YtfpojgljgbgkkaaDoor
open Go.RowKit

theorem slice_form {w : World} {base : Nat} {e : TypeId} {size : Nat} {v : Value} {n : Nat} {xs : List Value} (h : w.ownsRow base e size v n xs) : ∃ p cap, v = .slice p n cap := by
  rcases h.2 with ⟨rfl, rfl⟩ | ⟨g, cap, cur, rfl, _⟩
  · exact ⟨_, _, rfl⟩
  · exact ⟨_, _, rfl⟩

theorem cellsRec : Tryd.prog.cellsOf 59 = 2 := by kernel_rfl

set_option maxRecDepth 100000 in
set_option maxHeartbeats 2000000 in
theorem sameR_yes (l : List (Int × Int)) (v1 v2 : Value) (B1 B2 : Nat) (w : World) (h1 : w.ownsRow B1 59 2 v1 l.length (flatR l)) (h2 : w.ownsRow B2 59 2 v2 l.length (flatR l)) (hl : l.length ≤ 1048576) :
    Calls Tryd.prog 14 #[v1, v2] w fun e w' => e = .returned (.bool true) ∧ Below w.heap.size w w' := by
  have c59 := cellsRec
  by_cases hn : l.length = 0
  · obtain ⟨p1, q1, rfl⟩ := slice_form h1
    obtain ⟨p2, q2, rfl⟩ := slice_form h2
    clear h1 h2
    rw [hn]
    go_enter Tryd.func14, Tryd.ntmps14
    go_wp2
    refine wp_loop_rounds 1 ?_
    rw [rounds_succ]
    go_wp2
    go_ret
    exact ⟨rfl, Below.refl _ _⟩
  · obtain ⟨g1, q1, rfl, -, hlt1⟩ := h1.form (by omega)
    obtain ⟨g2, q2, rfl, -, hlt2⟩ := h2.form (by omega)
    have ca := fun j (hj : j < l.length * 2) => h1.cellAt j hj
    have cb := fun j (hj : j < l.length * 2) => h2.cellAt j hj
    clear h1 h2
    go_enter Tryd.func14, Tryd.ntmps14
    go_wp2
    go_loopw [5] (fun i wr => ∃ j : Nat, j ≤ l.length ∧ i = .int .i64 j ∧ Below w.heap.size w wr) (fun i _ => l.length - (intOf i).toNat)
    case atStart => exact ⟨0, by omega, rfl, Below.refl _ _⟩
    case round =>
      obtain ⟨j, hj, rfl, hb⟩ := hrel
      by_cases hlt : j < l.length
      · have a0 : wr.cell? ⟨g1, j * 2, none⟩ = some (.int .i64 (l[j]).1) := by rw [hb.cell (p := ⟨g1, j * 2, none⟩) hlt1, ca _ (by omega), flatR_get0 l j hlt]
        have a1 : wr.cell? ⟨g1, j * 2 + 1, none⟩ = some (.int .i64 (l[j]).2) := by rw [hb.cell (p := ⟨g1, j * 2 + 1, none⟩) hlt1, ca _ (by omega), flatR_get1 l j hlt]
        have b0 : wr.cell? ⟨g2, j * 2, none⟩ = some (.int .i64 (l[j]).1) := by rw [hb.cell (p := ⟨g2, j * 2, none⟩) hlt2, cb _ (by omega), flatR_get0 l j hlt]
        have b1 : wr.cell? ⟨g2, j * 2 + 1, none⟩ = some (.int .i64 (l[j]).2) := by rw [hb.cell (p := ⟨g2, j * 2 + 1, none⟩) hlt2, cb _ (by omega), flatR_get1 l j hlt]
        have hix0 : (0 : Int) ≤ (j : Int) := by omega
        have hix1 : (j : Int) < (l.length : Int) := by omega
        clear ca cb
        go_wp2
        go_quiet (fail)
        go_wp2
        go_roundw
        case rel => exact ⟨j + 1, by omega, by go_num, below_drewN hb _⟩
        case measure => simp [intOf]; omega
      · go_wp2
        go_ret
        exact ⟨rfl, hb⟩
end Go.Proofs.YtfpojgljgbgkkaaDoor
