/-
  wire.ReadLog.
-/
import Derived.Test.YtfpojgljgbgkkaaDoorRRd
import Derived.Test.YtfpojgljgbgkkaaDoorOwn
import Derived.OwnWalk
import Derived.BigQuiet
namespace Go.Proofs.YtfpojgljgbgkkaaDoor
open Go.RowKit

attribute [local go_sem] bs_append bs_size nums_len sumL_len List.length_append List.length_cons List.length_nil bs_get0 bs_get1 bs_get2

theorem infoRec : (Tryd.prog.info? 59).map (fun i => (i.zero, i.size, i.bytes)) = some (some (.agg #[.int .i64 0, .int .i64 0]), 2, 16) := by kernel_rfl

/-- What ReadLog answers. -/
def Logged (b : List UInt8) (w : World) (e : Ending) (w' : World) : Prop :=
  ∃ l a v, Ends b l a ∧ w'.ownsRow w.heap.size 59 2 v l.length (flatR l) ∧ Below w.heap.size w w' ∧
    ((e = .returned (.tuple #[v, .nilIface]) ∧ a = b.length) ∨
      ∃ g, e = .returned (.tuple #[v, .iface 63 (.pointer (some ⟨g, 0, none⟩))]) ∧ w'.cell? ⟨g, 0, none⟩ = some (.int .i64 a) ∧ w'.frozen? ⟨g, 0, none⟩ = false)

theorem cell_two_at (W : World) (a b : Value) (t : TypeId) (n : Nat) (hn : n = W.heap.size) : ∀ j u, [a, b][j]? = some u → (W.alloc (.cells #[a, b] t)).cell? ((⟨n, 0, none⟩ : Addr).add j) = some u := by
  subst hn
  exact World.news_of_block (heap_alloc_new W (.cells #[a, b] t))
theorem cell_two_new (W : World) (a b : Value) (t : TypeId) : ∀ j u, [a, b][j]? = some u → (W.alloc (.cells #[a, b] t)).cell? ((⟨W.heap.size, 0, none⟩ : Addr).add j) = some u :=
  World.news_of_block (heap_alloc_new W (.cells #[a, b] t))

set_option maxRecDepth 100000 in
set_option maxHeartbeats 2000000 in
theorem readLog_any (b : List UInt8) (w : World) (hF : Four w) (hl : b.length ≤ 1048576) :
    Calls Tryd.prog 27 #[.string (bs b)] w fun e w' => Logged b w e w' := by
  obtain ⟨i0, hi, hz0, hz1, hz2⟩ := info_parts infoRec
  have HF : Hid (Four w) := hF
  clear hF
  go_enter Tryd.func27, Tryd.ntmps27
  go_wp2
  go_loopw [4, 5] (fun v i wr => ∃ (m a : Nat) (l : List (Int × Int)), i = .int .i64 a ∧ Hid (stepsN b m = some (l, a)) ∧ wr.ownsRow w.heap.size 59 2 v l.length (flatR l) ∧ Below w.heap.size w wr) (fun _ i _ => b.length - (intOf i).toNat)
  case atStart => exact ⟨0, 0, [], rfl, rfl, World.ownsRow_nil _ _ _ _, Below.refl _ _⟩
  case round =>
    obtain ⟨m, a, l, rfl, hst, hown, hbw⟩ := hrel
    obtain ⟨hlm, hma, hab⟩ := stepsN_len hst.out
    by_cases hlt : a < b.length
    · have x1 : (bs b).extract a b.length = bs (b.drop a) := by rw [bs_extract, List.take_of_length_le (by simp)]
      have hn0 : b.drop a ≠ [] := by simp; omega
      have hdl : (b.drop a).length ≤ 9000000000000000000 := by simp; omega
      have hbz := hbw.size
      cases hr : readR (b.drop a) with
      | some p =>
        obtain ⟨k, x, z⟩ := p
        have hz := readR_size hr
        have hnx := stepsN_succ hst.out hr
        have HR : Hid (readR (b.drop a) = some (k, x, z)) := hr
        have HX : Hid (stepsN b (m + 1) = some (l ++ [(k, x)], a + z)) := hnx
        simp only [List.length_drop] at hz
        clear hr hnx
        generalize b.drop a = r at *
        go_wp2_with fail
        refine (rr_yes r k x z wr HR.out (by omega)).mono ?_
        rintro e w1 ⟨rfl, hb1⟩
        have hown1 := ownsRow_below hown hb1 (Nat.le_refl _)
        have hbw1 : Below w.heap.size w w1 := hbw.trans (hb1.mono hbz)
        have hz1' : w.heap.size ≤ w1.heap.size := Nat.le_trans hbz hb1.size
        clear hown hbw hb1
        go_wp2_with (at_builtin; refine wpList_append_own _ rfl _ _ 31 rfl w.heap.size 59 i0 (.agg #[.int .i64 0, .int .i64 0]) 2 16 Tryd.underlying31 hi hz0 hz1 hz2 rfl (by decide) _ l.length (flatR l) rfl ((hown1.alloc _).alloc _) ⟨w1.heap.size + 1, 0, none⟩ 1 1 [.int .i64 k, .int .i64 x] rfl rfl (cell_two_at _ _ _ _ _ (by simp)) (fun x hx => by simp at hx; rcases hx with rfl | rfl <;> rfl) (by unfold maxLen; omega) (by omega) (by simp; omega) ?_; intro v' w3 hown3 hgrow3 hnil3; clear hnil3)
        have hbw3 : Below w.heap.size w w3 := Below.grown ((hbw1.alloc hz1' _).alloc (by simp; omega) _) hgrow3 (by simp; omega) (fun j hj => (hown1.lt _ hj).1)
        go_roundw
        case rel => exact ⟨m + 1, a + z, l ++ [(k, x)], by go_num, HX, by rw [flatR_snoc, List.length_append]; exact hown3, hbw3⟩
        case measure => simp [intOf]; omega
      | none =>
        have HR : Hid (readR (b.drop a) = none) := hr
        clear hr
        have hFr : Four wr := HF.out.later hbw
        have HE : Hid (Ends b l a) := ⟨m, hst.out, HR.out⟩
        clear hst
        generalize b.drop a = r at *
        go_wp2_with fail
        refine (rr_no r wr hFr HR.out (by omega)).mono ?_
        rintro e w1 ⟨g, rfl, hb1⟩
        have hown1 := ownsRow_below hown hb1 (Nat.le_refl _)
        have hbw1 : Below w.heap.size w w1 := hbw.trans (hb1.mono hbz)
        have hz1' : w.heap.size ≤ w1.heap.size := Nat.le_trans hbz hb1.size
        clear hown hbw hb1 hFr
        go_wp2_with fail
        go_ret2
        exact ⟨l, a, _, HE.out, (hown1.alloc _).alloc _, (hbw1.alloc hz1' _).alloc (by simp; omega) _, .inr ⟨w1.heap.size + 1, rfl, by rw [World.cell?_alloc_at _ _ _ _ (by simp)]; rfl, by simp⟩⟩
    · obtain rfl : a = b.length := by omega
      have HE : Hid (Ends b l b.length) := ⟨m, hst.out, by rw [List.drop_length]; rfl⟩
      go_wp2_with fail
      go_ret2
      exact ⟨l, b.length, _, HE.out, hown, hbw, .inl ⟨rfl, rfl⟩⟩
end Go.Proofs.YtfpojgljgbgkkaaDoor
