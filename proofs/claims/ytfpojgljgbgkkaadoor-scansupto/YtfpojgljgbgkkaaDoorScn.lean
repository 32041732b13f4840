/-
  accord.Scan.
-/
import Derived.Test.YtfpojgljgbgkkaaDoorLog1
import Derived.Test.YtfpojgljgbgkkaaDoorAs3
namespace Go.Proofs.YtfpojgljgbgkkaaDoor
open Go.RowKit

attribute [local go_sem] bs_append bs_size nums_len sumL_len List.length_append List.length_cons List.length_nil bs_get0 bs_get1 bs_get2

/-- The variables that Scan reads. -/
structure Five (w : World) : Prop where
  four : Four w
  hv : w.cell? ⟨5, 0, none⟩ = some (.iface 101 (.agg #[.pointer (some ⟨7, 48, none⟩)]))
theorem Five.later {w w' : World} (h : Five w) (hb : Below w.heap.size w w') : Five w' := ⟨h.four.later hb, cell_later h.hv hb (Nat.le_refl _)⟩

/-- What Scan answers. -/
def Scanned (b : List UInt8) (w : World) (e : Ending) (w' : World) : Prop :=
  ∃ l a v, Ends b l a ∧ w'.ownsRow w.heap.size 59 2 v l.length (flatR l) ∧ Below w.heap.size w w' ∧ e = .returned (.tuple #[v, .int .i64 (a : Nat)])

set_option maxRecDepth 100000 in
set_option maxHeartbeats 2000000 in
theorem scan_any (b : List UInt8) (w : World) (hF : Five w) (hl : b.length ≤ 1048576) :
    Calls Tryd.prog 13 #[.string (bs b)] w fun e w' => Scanned b w e w' := by
  have HF : Hid (Five w) := hF
  clear hF
  go_enter Tryd.func13, Tryd.ntmps13
  go_wp2_with fail
  refine (readLog_any b w HF.out.four hl).mono ?_
  rintro e w1 ⟨l, a, v, hE, hown, hb1, h⟩
  have HE : Hid (Ends b l a) := hE
  clear hE
  have hz1 := hb1.size
  rcases h with ⟨rfl, rfl⟩ | ⟨g, rfl, hg, hgf⟩
  · go_wp2_with fail
    refine (as_nil _ _).mono ?_
    rintro e w' ⟨rfl, rfl⟩
    go_wp2_with fail
    go_ret2
    exact ⟨l, b.length, v, HE.out, hown.alloc _, hb1.alloc hz1 _, rfl⟩
  · have hF1 := HF.out.later hb1
    have hF2 : Five (w1.alloc (.cells #[.pointer none] 63)) := hF1.later ((Below.refl _ _).alloc (Nat.le_refl _) _)
    have hv := hF2.hv
    have HV : Hid ((w1.alloc (.cells #[.pointer none] 63)).cell? ⟨5, 0, none⟩ = some (.iface 101 (.agg #[.pointer (some ⟨7, 48, none⟩)]))) := hv
    clear hF1 hF2 hv
    have hgl := cell_block hg
    simp at hgl
    go_wp2_with fail
    refine (as_hit ⟨g, 0, none⟩ ⟨w1.heap.size, 0, none⟩ (.pointer none) (w1.alloc (.cells #[.pointer none] 63)) HV.out (by simp) (by simp)).mono ?_
    rintro e w2 ⟨rfl, hw2⟩
    have hb2 : Below w1.heap.size w1 w2 := by
      rw [hw2]
      exact ((((((Below.refl _ _).alloc (Nat.le_refl _) _).alloc (by simp) _).alloc (by simp; omega) _).alloc (by simp; omega) _).alloc (by simp; omega) _).setCell (by simp) _
    have t2 : w2.cell? ⟨w1.heap.size, 0, none⟩ = some (.pointer (some ⟨g, 0, none⟩)) := by
      rw [hw2]
      refine World.cell?_setCell_same (u := .pointer none) _ _ _ ?_
      rw [World.cell?_alloc_lt _ _ _ (by simp; omega), World.cell?_alloc_lt _ _ _ (by simp; omega), World.cell?_alloc_lt _ _ _ (by simp; omega), World.cell?_alloc_lt _ _ _ (by simp)]
      simp
    have g2 : w2.cell? ⟨g, 0, none⟩ = some (.int .i64 a) := by rw [hb2.cell (p := ⟨g, 0, none⟩) hgl]; exact hg
    clear hw2
    have hown2 := ownsRow_below hown hb2 (Nat.le_refl _)
    have hbw2 : Below w.heap.size w w2 := hb1.trans (hb2.mono hz1)
    clear hown hb1 hb2 hg hgf
    go_wp2_with fail
    go_quiet (fail)
    go_wp2_with fail
    go_ret2
    exact ⟨l, a, v, HE.out, hown2, below_drewN hbw2 _, rfl⟩
end Go.Proofs.YtfpojgljgbgkkaaDoor
