import Derived.Test.YtfpojgljgbgkkaaGreatDoorPF
import Derived.Maps.RangeRun
/-
  The coordinator: isCollecting.
-/
namespace Go.Proofs.YtfpojgljgbgkkaaGreatDoor
open Go.RowKit
open Go.ChangeMaps (setBlock)

attribute [local go_sem ↓] Go.wp_at_zero Go.wp_at_succ

def lookM (x y : Int) : List ((Int × Int) × (Int × Int)) → Option (Int × Int)
  | [] => none
  | p :: L => if p.1.1 = x ∧ p.1.2 = y then some p.2 else lookM x y L
theorem pos_M (x y : Int) : ∀ (L : List ((Int × Int) × (Int × Int))) (i : Nat), (pos x y (toM L) i).map (·.2) = (lookM x y L).map fun v => .agg #[.int .i64 v.1, .int .i64 v.2]
  | [], _ => rfl
  | p :: L, i => by
    simp only [toM, List.map_cons, pos, lookM]
    by_cases hc : p.1.1 = x ∧ p.1.2 = y
    · simp [hc]
    · simp only [hc, if_false]
      exact pos_M x y L (i + 1)
theorem zeroMatter (w : World) : (zeroValue 184).run Tryz.prog w = .ok (.agg #[.int .i64 0, .int .i64 0]) w := by kernel_rfl
theorem run_lookM {w : World} {b : Nat} {L : List ((Int × Int) × (Int × Int))} (h : MapI w b (toM L)) (x y : Int) :
    (Instr.lookup 130 (.map (some b)) (keyV x y) true).run Tryz.prog w = .ok (.tuple #[.agg #[.int .i64 ((lookM x y L).getD (0, 0)).1, .int .i64 ((lookM x y L).getD (0, 0)).2], .bool (lookM x y L).isSome]) w := by
  rw [run_look h Tryz.underlying130 zeroMatter x y true]
  have e : lookV (toM L) x y = (lookM x y L).map fun v => .agg #[.int .i64 v.1, .int .i64 v.2] := pos_M x y L 0
  rw [e]
  cases lookM x y L <;> rfl

theorem two_set2 {W0 : World} {H : Nat} {T : TypeId} {a b : Value} (k x : Value) (h : W0.heap[H]? = some (.cells #[a, b] T (0, 0))) :
    ((W0.setCell ⟨H, 0, none⟩ k).setCell ⟨H, 1, none⟩ x).heap[H]? = some (.cells #[k, x] T (0, 0)) := by
  have h1 := heap_setCell_same W0 H 0 _ T k h
  have h2 := heap_setCell_same _ H 1 _ T x h1
  rw [h2]
  rfl

/-- Is it collecting? -/
def CS.coll (t : Int) (c : CS) : Bool := match lookM 0 t c.O with | some v => v.1 == 0 | none => false

set_option maxRecDepth 100000 in
set_option maxHeartbeats 8000000 in
theorem isCollecting_any (p : CoP) (ss : List Int) (wait : Int) (c : CS) (t : Int) (w : World) (hC : CoAt w p ss wait c) :
    Calls Tryz.prog 243 #[.pointer (some ⟨p.nb, 0, none⟩), .int .i64 t] w fun e w' => e = .returned (.bool (c.coll t)) ∧ Only [] w w' := by
  obtain ⟨c0, -⟩ := hC.node.cells
  obtain ⟨-, -, c6, -, -⟩ := hC.cells
  have HC : Hid (CoAt w p ss wait c) := hC
  clear hC
  have LK : Hid (∀ w', Only [] w w' → (Instr.lookup 130 (.map (some p.om)) (keyV 0 t) true).run Tryz.prog w' = .ok (.tuple #[.agg #[.int .i64 ((lookM 0 t c.O).getD (0, 0)).1, .int .i64 ((lookM 0 t c.O).getD (0, 0)).2], .bool (lookM 0 t c.O).isSome]) w') := fun w' ho => run_lookM (HC.out.opens.only ho (by simp)) 0 t
  have hres : c.coll t = ((lookM 0 t c.O).isSome && ((lookM 0 t c.O).getD (0, 0)).1 == 0) := by
    unfold CS.coll
    cases lookM 0 t c.O <;> simp
  have HR : Hid (c.coll t = ((lookM 0 t c.O).isSome && ((lookM 0 t c.O).getD (0, 0)).1 == 0)) := hres
  clear hres
  generalize ((lookM 0 t c.O).getD (0, 0)).1 = m1 at *
  generalize ((lookM 0 t c.O).getD (0, 0)).2 = m2 at *
  generalize (lookM 0 t c.O).isSome = op at *
  cases op <;> cases h0 : (m1 == 0)
  · go_enter Tryz.func243, Tryz.ntmps243
    go_wp2
    have kept : ∀ w', Only [] w w' → w'.cell? ⟨p.nb, 0, none⟩ = some (.int .i64 0) ∧ w'.cell? ⟨p.nb, 7, none⟩ = some (.map (some p.om)) ∧ (Instr.lookup 130 (.map (some p.om)) (keyV 0 t) true).run Tryz.prog w' = .ok (.tuple #[.agg #[.int .i64 m1, .int .i64 m2], .bool false]) w' := fun w' ho => ⟨ho.cell c0 (by simp), ho.cell c6 (by simp), LK.out w' ho⟩
    have KEPT : Hid _ := kept
    clear kept
    refine wp_region_held_drew (S := fun w' => w'.cell? ⟨p.nb, 0, none⟩ = some (.int .i64 0) ∧ w'.cell? ⟨p.nb, 7, none⟩ = some (.map (some p.om)) ∧ (Instr.lookup 130 (.map (some p.om)) (keyV 0 t) true).run Tryz.prog w' = .ok (.tuple #[.agg #[.int .i64 m1, .int .i64 m2], .bool false]) w') (by kernel_rfl) (KEPT.out _ (Only.refl _ _).drew) (fun hHeld => ?_)
    refine takeD 0 8 (.pointer (some ⟨p.nb, 0, none⟩)) rfl rfl (by kernel_rfl) (by kernel_rfl) (by kernel_rfl) (fun _ _ _ h => h) (Or.inl ⟨by kernel_rfl, ?_⟩) (by assumption) ?_
    · intro w hSw; go_simp
    simp only [List.setIfInBounds_toArray, List.set_cons_zero, List.set_cons_succ]
    refine takeD 1 9 (.pointer (some ⟨p.nb, 0, none⟩)) rfl rfl (by kernel_rfl) (by kernel_rfl) (by kernel_rfl) (fun _ _ _ h => h) (Or.inl ⟨by kernel_rfl, ?_⟩) (by assumption) ?_
    · intro w hSw; go_simp
    simp only [List.setIfInBounds_toArray, List.set_cons_zero, List.set_cons_succ]
    refine takeD 2 10 (.pointer (some ⟨p.nb, 7, none⟩)) rfl rfl (by kernel_rfl) (by kernel_rfl) (by kernel_rfl) (fun _ _ _ h => h) (Or.inl ⟨by kernel_rfl, ?_⟩) (by assumption) ?_
    · intro w hSw; go_simp
    simp only [List.setIfInBounds_toArray, List.set_cons_zero, List.set_cons_succ]
    refine takeD 3 11 (.map (some p.om)) rfl rfl (by kernel_rfl) (by kernel_rfl) (by kernel_rfl) (fun _ _ _ h => h) (Or.inl ⟨by kernel_rfl, ?_⟩) (by assumption) ?_
    · intro w hSw; go_simp
    simp only [List.setIfInBounds_toArray, List.set_cons_zero, List.set_cons_succ]
    refine takeD 4 12 (.pointer (some ⟨p.nb, 0, none⟩)) rfl rfl (by kernel_rfl) (by kernel_rfl) (by kernel_rfl) (fun _ _ _ h => h) (Or.inl ⟨by kernel_rfl, ?_⟩) (by assumption) ?_
    · intro w hSw; go_simp
    simp only [List.setIfInBounds_toArray, List.set_cons_zero, List.set_cons_succ]
    refine takeD 5 13 (.pointer (some ⟨p.nb, 0, none⟩)) rfl rfl (by kernel_rfl) (by kernel_rfl) (by kernel_rfl) (fun _ _ _ h => h) (Or.inl ⟨by kernel_rfl, ?_⟩) (by assumption) ?_
    · intro w hSw; go_simp
    simp only [List.setIfInBounds_toArray, List.set_cons_zero, List.set_cons_succ]
    refine takeD 6 14 (.pointer (some ⟨p.nb, 0, none⟩)) rfl rfl (by kernel_rfl) (by kernel_rfl) (by kernel_rfl) (fun _ _ _ h => h) (Or.inl ⟨by kernel_rfl, ?_⟩) (by assumption) ?_
    · intro w hSw; go_simp
    simp only [List.setIfInBounds_toArray, List.set_cons_zero, List.set_cons_succ]
    refine takeD 7 15 (.int .i64 t) rfl rfl (by kernel_rfl) (by kernel_rfl) (by kernel_rfl) (fun _ _ _ h => h) (Or.inl ⟨by kernel_rfl, ?_⟩) (by assumption) ?_
    · intro w hSw; go_simp
    simp only [List.setIfInBounds_toArray, List.set_cons_zero, List.set_cons_succ]
    refine wpAnyH_ready (rs := [8, 13]) (by kernel_rfl) (by simp) ?_
    refine (AllReadyH.cons rfl (fun K hK => ?ordA1) (AllReadyH.cons rfl (fun K hK => ?ordB1) AllReadyH.nil))
    case' ordA1 =>
      go_simp
      refine (key_any p.nb 0 t _ (by first | simpa using c0 | exact (KEPT.out _ ((Only.refl _ _).drew.alloc _)).1 | exact (KEPT.out _ (((Only.refl _ _).alloc _).drew)).1)).mono ?_
      rintro e w3 ⟨rfl, hw3⟩
      have hO3 : Only [] w w3 := by rw [hw3]; exact (Only.refl _ _).drew.alloc _
      clear hw3
      go_wp2_with fail
      refine hK.out _ _ (KEPT.out _ hO3) (fun hHeld => ?_)
      clear hK K
      refine takeD 9 17 (.tuple #[.agg #[.int .i64 m1, .int .i64 m2], .bool false]) rfl rfl (by kernel_rfl) (by kernel_rfl) (by kernel_rfl) (fun _ _ _ h => h) (Or.inl ⟨by kernel_rfl, ?_⟩) (by assumption) ?_
      · intro w hSw; go_simp
      simp only [List.setIfInBounds_toArray, List.set_cons_zero, List.set_cons_succ]
      refine takeD 10 7 (.tuple #[.agg #[.int .i64 m1, .int .i64 m2], .bool false]) rfl rfl (by kernel_rfl) (by kernel_rfl) (by kernel_rfl) (fun _ _ _ h => h) (Or.inl ⟨by kernel_rfl, ?_⟩) (by assumption) ?_
      · intro w hSw; go_simp
      simp only [List.setIfInBounds_toArray, List.set_cons_zero, List.set_cons_succ]
      refine takeD 11 18 (.agg #[.int .i64 m1, .int .i64 m2]) rfl rfl (by kernel_rfl) (by kernel_rfl) (by kernel_rfl) (fun _ _ _ h => h) (Or.inl ⟨by kernel_rfl, ?_⟩) (by assumption) ?_
      · intro w hSw; go_simp
      simp only [List.setIfInBounds_toArray, List.set_cons_zero, List.set_cons_succ]
      refine takeD 12 19 (.bool false) rfl rfl (by kernel_rfl) (by kernel_rfl) (by kernel_rfl) (fun _ _ _ h => h) (Or.inl ⟨by kernel_rfl, ?_⟩) (by assumption) ?_
      · intro w hSw; go_simp
      simp only [List.setIfInBounds_toArray, List.set_cons_zero, List.set_cons_succ]
      refine wpAnyH_ready (rs := [13]) (by kernel_rfl) (by simp) ?_
      refine (AllReadyH.cons rfl (fun K hK => ?_) AllReadyH.nil)
      go_simp
      have hb : (w3.alloc (.cells #[.int .i64 0, .int .i64 0] 184)).heap[w3.heap.size]? = some (.cells #[.int .i64 0, .int .i64 0] 184 (0, 0)) := heap_alloc_new _ _
      have hO4 : Only [] w (w3.alloc (.cells #[.int .i64 0, .int .i64 0] 184)) := hO3.alloc _
      have hg : w.heap.size ≤ w3.heap.size := hO3.size
      refine hK.out _ _ (KEPT.out _ hO4) (fun hHeld => ?_)
      clear hK K hO3
      generalize hG : w3.heap.size = G at *
      generalize (w3.alloc (.cells #[.int .i64 0, .int .i64 0] 184)) = w4 at *
      clear hG
    case' ordB1 =>
      go_simp
      refine hK.out _ _ (KEPT.out _ (((Only.refl _ _).alloc _).drew)) (fun hHeld => ?_)
      clear hK K
      refine wpAnyH_ready (rs := [8]) (by kernel_rfl) (by simp) ?_
      refine (AllReadyH.cons rfl (fun K hK => ?_) AllReadyH.nil)
      go_simp
      refine (key_any p.nb 0 t _ (by first | simpa using c0 | exact (KEPT.out _ ((Only.refl _ _).drew.alloc _)).1 | exact (KEPT.out _ (((Only.refl _ _).alloc _).drew)).1)).mono ?_
      rintro e w3 ⟨rfl, hw3⟩
      have hO4 : Only [] w w3 := by rw [hw3]; first | exact (((Only.refl _ _).alloc _).drew.alloc _) | exact (((Only.refl _ _).drew.alloc _).alloc _)
      have hb : w3.heap[w.heap.size]? = some (.cells #[.int .i64 0, .int .i64 0] 184 (0, 0)) := by
        rw [hw3, Below.heap_alloc _ _ _ (by simp)]
        exact heap_alloc_new w _
      have hg : w.heap.size ≤ w.heap.size := Nat.le_refl _
      clear hw3
      go_wp2_with fail
      refine hK.out _ _ (KEPT.out _ hO4) (fun hHeld => ?_)
      clear hK K
      refine takeD 9 17 (.tuple #[.agg #[.int .i64 m1, .int .i64 m2], .bool false]) rfl rfl (by kernel_rfl) (by kernel_rfl) (by kernel_rfl) (fun _ _ _ h => h) (Or.inl ⟨by kernel_rfl, ?_⟩) (by assumption) ?_
      · intro w hSw; go_simp
      simp only [List.setIfInBounds_toArray, List.set_cons_zero, List.set_cons_succ]
      refine takeD 10 7 (.tuple #[.agg #[.int .i64 m1, .int .i64 m2], .bool false]) rfl rfl (by kernel_rfl) (by kernel_rfl) (by kernel_rfl) (fun _ _ _ h => h) (Or.inl ⟨by kernel_rfl, ?_⟩) (by assumption) ?_
      · intro w hSw; go_simp
      simp only [List.setIfInBounds_toArray, List.set_cons_zero, List.set_cons_succ]
      refine takeD 11 18 (.agg #[.int .i64 m1, .int .i64 m2]) rfl rfl (by kernel_rfl) (by kernel_rfl) (by kernel_rfl) (fun _ _ _ h => h) (Or.inl ⟨by kernel_rfl, ?_⟩) (by assumption) ?_
      · intro w hSw; go_simp
      simp only [List.setIfInBounds_toArray, List.set_cons_zero, List.set_cons_succ]
      refine takeD 12 19 (.bool false) rfl rfl (by kernel_rfl) (by kernel_rfl) (by kernel_rfl) (fun _ _ _ h => h) (Or.inl ⟨by kernel_rfl, ?_⟩) (by assumption) ?_
      · intro w hSw; go_simp
      simp only [List.setIfInBounds_toArray, List.set_cons_zero, List.set_cons_succ]
      generalize hG : w.heap.size = G at hb ⊢
      have hg : w.heap.size ≤ G := by omega
      clear hG
      generalize hW : w3 = w4 at *
      clear hW
    all_goals
      have q0 : w4.cell? ⟨G, 0, none⟩ = some (.int .i64 0) := by rw [cell_of_row _ _ _ _ _ _ hb]; rfl
      have q1 : w4.cell? ⟨G, 1, none⟩ = some (.int .i64 0) := by rw [cell_of_row _ _ _ _ _ _ hb]; rfl
      have qf : ∀ i, w4.frozen? ⟨G, i, none⟩ = false := fun i => frozen_of_row _ _ _ _ _ hb
      refine wpAnyH_ready (rs := [14]) (by kernel_rfl) (by simp) ?_
      refine (AllReadyH.cons rfl (fun K hK => ?_) AllReadyH.nil)
      go_simp
      have key := two_set2 (.int .i64 m1) (.int .i64 m2) hb
      have hO5 : Only [] w ((w4.setCell ⟨G, 0, none⟩ (.int .i64 m1)).setCell ⟨G, 1, none⟩ (.int .i64 m2)) := (hO4.setCell (.inr hg) _).setCell (.inr hg) _
      refine hK.out _ _ (KEPT.out _ hO5) (fun hHeld => ?_)
      clear hK K q0 q1 qf
      generalize ((w4.setCell ⟨G, 0, none⟩ (.int .i64 m1)).setCell ⟨G, 1, none⟩ (.int .i64 m2)) = w5 at *
      have q0 : w5.cell? ⟨G, 0, none⟩ = some (.int .i64 m1) := by rw [cell_of_row _ _ _ _ _ _ key]; rfl
      refine takeD 15 6 (.bool false) rfl rfl (by kernel_rfl) (by kernel_rfl) (by kernel_rfl) (fun _ _ _ h => h) (Or.inl ⟨by kernel_rfl, ?_⟩) (by assumption) ?_
      · intro w hSw; go_simp
      simp only [List.setIfInBounds_toArray, List.set_cons_zero, List.set_cons_succ]
      refine wpAnyH_done (by kernel_rfl) ?_ _
      go_wp2_with fail
      go_ret
      exact ⟨by rw [HR.out]; simp [h0], hO5⟩
  · go_enter Tryz.func243, Tryz.ntmps243
    go_wp2
    have kept : ∀ w', Only [] w w' → w'.cell? ⟨p.nb, 0, none⟩ = some (.int .i64 0) ∧ w'.cell? ⟨p.nb, 7, none⟩ = some (.map (some p.om)) ∧ (Instr.lookup 130 (.map (some p.om)) (keyV 0 t) true).run Tryz.prog w' = .ok (.tuple #[.agg #[.int .i64 m1, .int .i64 m2], .bool false]) w' := fun w' ho => ⟨ho.cell c0 (by simp), ho.cell c6 (by simp), LK.out w' ho⟩
    have KEPT : Hid _ := kept
    clear kept
    refine wp_region_held_drew (S := fun w' => w'.cell? ⟨p.nb, 0, none⟩ = some (.int .i64 0) ∧ w'.cell? ⟨p.nb, 7, none⟩ = some (.map (some p.om)) ∧ (Instr.lookup 130 (.map (some p.om)) (keyV 0 t) true).run Tryz.prog w' = .ok (.tuple #[.agg #[.int .i64 m1, .int .i64 m2], .bool false]) w') (by kernel_rfl) (KEPT.out _ (Only.refl _ _).drew) (fun hHeld => ?_)
    refine takeD 0 8 (.pointer (some ⟨p.nb, 0, none⟩)) rfl rfl (by kernel_rfl) (by kernel_rfl) (by kernel_rfl) (fun _ _ _ h => h) (Or.inl ⟨by kernel_rfl, ?_⟩) (by assumption) ?_
    · intro w hSw; go_simp
    simp only [List.setIfInBounds_toArray, List.set_cons_zero, List.set_cons_succ]
    refine takeD 1 9 (.pointer (some ⟨p.nb, 0, none⟩)) rfl rfl (by kernel_rfl) (by kernel_rfl) (by kernel_rfl) (fun _ _ _ h => h) (Or.inl ⟨by kernel_rfl, ?_⟩) (by assumption) ?_
    · intro w hSw; go_simp
    simp only [List.setIfInBounds_toArray, List.set_cons_zero, List.set_cons_succ]
    refine takeD 2 10 (.pointer (some ⟨p.nb, 7, none⟩)) rfl rfl (by kernel_rfl) (by kernel_rfl) (by kernel_rfl) (fun _ _ _ h => h) (Or.inl ⟨by kernel_rfl, ?_⟩) (by assumption) ?_
    · intro w hSw; go_simp
    simp only [List.setIfInBounds_toArray, List.set_cons_zero, List.set_cons_succ]
    refine takeD 3 11 (.map (some p.om)) rfl rfl (by kernel_rfl) (by kernel_rfl) (by kernel_rfl) (fun _ _ _ h => h) (Or.inl ⟨by kernel_rfl, ?_⟩) (by assumption) ?_
    · intro w hSw; go_simp
    simp only [List.setIfInBounds_toArray, List.set_cons_zero, List.set_cons_succ]
    refine takeD 4 12 (.pointer (some ⟨p.nb, 0, none⟩)) rfl rfl (by kernel_rfl) (by kernel_rfl) (by kernel_rfl) (fun _ _ _ h => h) (Or.inl ⟨by kernel_rfl, ?_⟩) (by assumption) ?_
    · intro w hSw; go_simp
    simp only [List.setIfInBounds_toArray, List.set_cons_zero, List.set_cons_succ]
    refine takeD 5 13 (.pointer (some ⟨p.nb, 0, none⟩)) rfl rfl (by kernel_rfl) (by kernel_rfl) (by kernel_rfl) (fun _ _ _ h => h) (Or.inl ⟨by kernel_rfl, ?_⟩) (by assumption) ?_
    · intro w hSw; go_simp
    simp only [List.setIfInBounds_toArray, List.set_cons_zero, List.set_cons_succ]
    refine takeD 6 14 (.pointer (some ⟨p.nb, 0, none⟩)) rfl rfl (by kernel_rfl) (by kernel_rfl) (by kernel_rfl) (fun _ _ _ h => h) (Or.inl ⟨by kernel_rfl, ?_⟩) (by assumption) ?_
    · intro w hSw; go_simp
    simp only [List.setIfInBounds_toArray, List.set_cons_zero, List.set_cons_succ]
    refine takeD 7 15 (.int .i64 t) rfl rfl (by kernel_rfl) (by kernel_rfl) (by kernel_rfl) (fun _ _ _ h => h) (Or.inl ⟨by kernel_rfl, ?_⟩) (by assumption) ?_
    · intro w hSw; go_simp
    simp only [List.setIfInBounds_toArray, List.set_cons_zero, List.set_cons_succ]
    refine wpAnyH_ready (rs := [8, 13]) (by kernel_rfl) (by simp) ?_
    refine (AllReadyH.cons rfl (fun K hK => ?ordA2) (AllReadyH.cons rfl (fun K hK => ?ordB2) AllReadyH.nil))
    case' ordA2 =>
      go_simp
      refine (key_any p.nb 0 t _ (by first | simpa using c0 | exact (KEPT.out _ ((Only.refl _ _).drew.alloc _)).1 | exact (KEPT.out _ (((Only.refl _ _).alloc _).drew)).1)).mono ?_
      rintro e w3 ⟨rfl, hw3⟩
      have hO3 : Only [] w w3 := by rw [hw3]; exact (Only.refl _ _).drew.alloc _
      clear hw3
      go_wp2_with fail
      refine hK.out _ _ (KEPT.out _ hO3) (fun hHeld => ?_)
      clear hK K
      refine takeD 9 17 (.tuple #[.agg #[.int .i64 m1, .int .i64 m2], .bool false]) rfl rfl (by kernel_rfl) (by kernel_rfl) (by kernel_rfl) (fun _ _ _ h => h) (Or.inl ⟨by kernel_rfl, ?_⟩) (by assumption) ?_
      · intro w hSw; go_simp
      simp only [List.setIfInBounds_toArray, List.set_cons_zero, List.set_cons_succ]
      refine takeD 10 7 (.tuple #[.agg #[.int .i64 m1, .int .i64 m2], .bool false]) rfl rfl (by kernel_rfl) (by kernel_rfl) (by kernel_rfl) (fun _ _ _ h => h) (Or.inl ⟨by kernel_rfl, ?_⟩) (by assumption) ?_
      · intro w hSw; go_simp
      simp only [List.setIfInBounds_toArray, List.set_cons_zero, List.set_cons_succ]
      refine takeD 11 18 (.agg #[.int .i64 m1, .int .i64 m2]) rfl rfl (by kernel_rfl) (by kernel_rfl) (by kernel_rfl) (fun _ _ _ h => h) (Or.inl ⟨by kernel_rfl, ?_⟩) (by assumption) ?_
      · intro w hSw; go_simp
      simp only [List.setIfInBounds_toArray, List.set_cons_zero, List.set_cons_succ]
      refine takeD 12 19 (.bool false) rfl rfl (by kernel_rfl) (by kernel_rfl) (by kernel_rfl) (fun _ _ _ h => h) (Or.inl ⟨by kernel_rfl, ?_⟩) (by assumption) ?_
      · intro w hSw; go_simp
      simp only [List.setIfInBounds_toArray, List.set_cons_zero, List.set_cons_succ]
      refine wpAnyH_ready (rs := [13]) (by kernel_rfl) (by simp) ?_
      refine (AllReadyH.cons rfl (fun K hK => ?_) AllReadyH.nil)
      go_simp
      have hb : (w3.alloc (.cells #[.int .i64 0, .int .i64 0] 184)).heap[w3.heap.size]? = some (.cells #[.int .i64 0, .int .i64 0] 184 (0, 0)) := heap_alloc_new _ _
      have hO4 : Only [] w (w3.alloc (.cells #[.int .i64 0, .int .i64 0] 184)) := hO3.alloc _
      have hg : w.heap.size ≤ w3.heap.size := hO3.size
      refine hK.out _ _ (KEPT.out _ hO4) (fun hHeld => ?_)
      clear hK K hO3
      generalize hG : w3.heap.size = G at *
      generalize (w3.alloc (.cells #[.int .i64 0, .int .i64 0] 184)) = w4 at *
      clear hG
    case' ordB2 =>
      go_simp
      refine hK.out _ _ (KEPT.out _ (((Only.refl _ _).alloc _).drew)) (fun hHeld => ?_)
      clear hK K
      refine wpAnyH_ready (rs := [8]) (by kernel_rfl) (by simp) ?_
      refine (AllReadyH.cons rfl (fun K hK => ?_) AllReadyH.nil)
      go_simp
      refine (key_any p.nb 0 t _ (by first | simpa using c0 | exact (KEPT.out _ ((Only.refl _ _).drew.alloc _)).1 | exact (KEPT.out _ (((Only.refl _ _).alloc _).drew)).1)).mono ?_
      rintro e w3 ⟨rfl, hw3⟩
      have hO4 : Only [] w w3 := by rw [hw3]; first | exact (((Only.refl _ _).alloc _).drew.alloc _) | exact (((Only.refl _ _).drew.alloc _).alloc _)
      have hb : w3.heap[w.heap.size]? = some (.cells #[.int .i64 0, .int .i64 0] 184 (0, 0)) := by
        rw [hw3, Below.heap_alloc _ _ _ (by simp)]
        exact heap_alloc_new w _
      have hg : w.heap.size ≤ w.heap.size := Nat.le_refl _
      clear hw3
      go_wp2_with fail
      refine hK.out _ _ (KEPT.out _ hO4) (fun hHeld => ?_)
      clear hK K
      refine takeD 9 17 (.tuple #[.agg #[.int .i64 m1, .int .i64 m2], .bool false]) rfl rfl (by kernel_rfl) (by kernel_rfl) (by kernel_rfl) (fun _ _ _ h => h) (Or.inl ⟨by kernel_rfl, ?_⟩) (by assumption) ?_
      · intro w hSw; go_simp
      simp only [List.setIfInBounds_toArray, List.set_cons_zero, List.set_cons_succ]
      refine takeD 10 7 (.tuple #[.agg #[.int .i64 m1, .int .i64 m2], .bool false]) rfl rfl (by kernel_rfl) (by kernel_rfl) (by kernel_rfl) (fun _ _ _ h => h) (Or.inl ⟨by kernel_rfl, ?_⟩) (by assumption) ?_
      · intro w hSw; go_simp
      simp only [List.setIfInBounds_toArray, List.set_cons_zero, List.set_cons_succ]
      refine takeD 11 18 (.agg #[.int .i64 m1, .int .i64 m2]) rfl rfl (by kernel_rfl) (by kernel_rfl) (by kernel_rfl) (fun _ _ _ h => h) (Or.inl ⟨by kernel_rfl, ?_⟩) (by assumption) ?_
      · intro w hSw; go_simp
      simp only [List.setIfInBounds_toArray, List.set_cons_zero, List.set_cons_succ]
      refine takeD 12 19 (.bool false) rfl rfl (by kernel_rfl) (by kernel_rfl) (by kernel_rfl) (fun _ _ _ h => h) (Or.inl ⟨by kernel_rfl, ?_⟩) (by assumption) ?_
      · intro w hSw; go_simp
      simp only [List.setIfInBounds_toArray, List.set_cons_zero, List.set_cons_succ]
      generalize hG : w.heap.size = G at hb ⊢
      have hg : w.heap.size ≤ G := by omega
      clear hG
      generalize hW : w3 = w4 at *
      clear hW
    all_goals
      have q0 : w4.cell? ⟨G, 0, none⟩ = some (.int .i64 0) := by rw [cell_of_row _ _ _ _ _ _ hb]; rfl
      have q1 : w4.cell? ⟨G, 1, none⟩ = some (.int .i64 0) := by rw [cell_of_row _ _ _ _ _ _ hb]; rfl
      have qf : ∀ i, w4.frozen? ⟨G, i, none⟩ = false := fun i => frozen_of_row _ _ _ _ _ hb
      refine wpAnyH_ready (rs := [14]) (by kernel_rfl) (by simp) ?_
      refine (AllReadyH.cons rfl (fun K hK => ?_) AllReadyH.nil)
      go_simp
      have key := two_set2 (.int .i64 m1) (.int .i64 m2) hb
      have hO5 : Only [] w ((w4.setCell ⟨G, 0, none⟩ (.int .i64 m1)).setCell ⟨G, 1, none⟩ (.int .i64 m2)) := (hO4.setCell (.inr hg) _).setCell (.inr hg) _
      refine hK.out _ _ (KEPT.out _ hO5) (fun hHeld => ?_)
      clear hK K q0 q1 qf
      generalize ((w4.setCell ⟨G, 0, none⟩ (.int .i64 m1)).setCell ⟨G, 1, none⟩ (.int .i64 m2)) = w5 at *
      have q0 : w5.cell? ⟨G, 0, none⟩ = some (.int .i64 m1) := by rw [cell_of_row _ _ _ _ _ _ key]; rfl
      refine takeD 15 6 (.bool false) rfl rfl (by kernel_rfl) (by kernel_rfl) (by kernel_rfl) (fun _ _ _ h => h) (Or.inl ⟨by kernel_rfl, ?_⟩) (by assumption) ?_
      · intro w hSw; go_simp
      simp only [List.setIfInBounds_toArray, List.set_cons_zero, List.set_cons_succ]
      refine wpAnyH_done (by kernel_rfl) ?_ _
      go_wp2_with fail
      go_ret
      exact ⟨by rw [HR.out]; simp [h0], hO5⟩
  · go_enter Tryz.func243, Tryz.ntmps243
    go_wp2
    have kept : ∀ w', Only [] w w' → w'.cell? ⟨p.nb, 0, none⟩ = some (.int .i64 0) ∧ w'.cell? ⟨p.nb, 7, none⟩ = some (.map (some p.om)) ∧ (Instr.lookup 130 (.map (some p.om)) (keyV 0 t) true).run Tryz.prog w' = .ok (.tuple #[.agg #[.int .i64 m1, .int .i64 m2], .bool true]) w' := fun w' ho => ⟨ho.cell c0 (by simp), ho.cell c6 (by simp), LK.out w' ho⟩
    have KEPT : Hid _ := kept
    clear kept
    refine wp_region_held_drew (S := fun w' => w'.cell? ⟨p.nb, 0, none⟩ = some (.int .i64 0) ∧ w'.cell? ⟨p.nb, 7, none⟩ = some (.map (some p.om)) ∧ (Instr.lookup 130 (.map (some p.om)) (keyV 0 t) true).run Tryz.prog w' = .ok (.tuple #[.agg #[.int .i64 m1, .int .i64 m2], .bool true]) w') (by kernel_rfl) (KEPT.out _ (Only.refl _ _).drew) (fun hHeld => ?_)
    refine takeD 0 8 (.pointer (some ⟨p.nb, 0, none⟩)) rfl rfl (by kernel_rfl) (by kernel_rfl) (by kernel_rfl) (fun _ _ _ h => h) (Or.inl ⟨by kernel_rfl, ?_⟩) (by assumption) ?_
    · intro w hSw; go_simp
    simp only [List.setIfInBounds_toArray, List.set_cons_zero, List.set_cons_succ]
    refine takeD 1 9 (.pointer (some ⟨p.nb, 0, none⟩)) rfl rfl (by kernel_rfl) (by kernel_rfl) (by kernel_rfl) (fun _ _ _ h => h) (Or.inl ⟨by kernel_rfl, ?_⟩) (by assumption) ?_
    · intro w hSw; go_simp
    simp only [List.setIfInBounds_toArray, List.set_cons_zero, List.set_cons_succ]
    refine takeD 2 10 (.pointer (some ⟨p.nb, 7, none⟩)) rfl rfl (by kernel_rfl) (by kernel_rfl) (by kernel_rfl) (fun _ _ _ h => h) (Or.inl ⟨by kernel_rfl, ?_⟩) (by assumption) ?_
    · intro w hSw; go_simp
    simp only [List.setIfInBounds_toArray, List.set_cons_zero, List.set_cons_succ]
    refine takeD 3 11 (.map (some p.om)) rfl rfl (by kernel_rfl) (by kernel_rfl) (by kernel_rfl) (fun _ _ _ h => h) (Or.inl ⟨by kernel_rfl, ?_⟩) (by assumption) ?_
    · intro w hSw; go_simp
    simp only [List.setIfInBounds_toArray, List.set_cons_zero, List.set_cons_succ]
    refine takeD 4 12 (.pointer (some ⟨p.nb, 0, none⟩)) rfl rfl (by kernel_rfl) (by kernel_rfl) (by kernel_rfl) (fun _ _ _ h => h) (Or.inl ⟨by kernel_rfl, ?_⟩) (by assumption) ?_
    · intro w hSw; go_simp
    simp only [List.setIfInBounds_toArray, List.set_cons_zero, List.set_cons_succ]
    refine takeD 5 13 (.pointer (some ⟨p.nb, 0, none⟩)) rfl rfl (by kernel_rfl) (by kernel_rfl) (by kernel_rfl) (fun _ _ _ h => h) (Or.inl ⟨by kernel_rfl, ?_⟩) (by assumption) ?_
    · intro w hSw; go_simp
    simp only [List.setIfInBounds_toArray, List.set_cons_zero, List.set_cons_succ]
    refine takeD 6 14 (.pointer (some ⟨p.nb, 0, none⟩)) rfl rfl (by kernel_rfl) (by kernel_rfl) (by kernel_rfl) (fun _ _ _ h => h) (Or.inl ⟨by kernel_rfl, ?_⟩) (by assumption) ?_
    · intro w hSw; go_simp
    simp only [List.setIfInBounds_toArray, List.set_cons_zero, List.set_cons_succ]
    refine takeD 7 15 (.int .i64 t) rfl rfl (by kernel_rfl) (by kernel_rfl) (by kernel_rfl) (fun _ _ _ h => h) (Or.inl ⟨by kernel_rfl, ?_⟩) (by assumption) ?_
    · intro w hSw; go_simp
    simp only [List.setIfInBounds_toArray, List.set_cons_zero, List.set_cons_succ]
    refine wpAnyH_ready (rs := [8, 13]) (by kernel_rfl) (by simp) ?_
    refine (AllReadyH.cons rfl (fun K hK => ?ordA3) (AllReadyH.cons rfl (fun K hK => ?ordB3) AllReadyH.nil))
    case' ordA3 =>
      go_simp
      refine (key_any p.nb 0 t _ (by first | simpa using c0 | exact (KEPT.out _ ((Only.refl _ _).drew.alloc _)).1 | exact (KEPT.out _ (((Only.refl _ _).alloc _).drew)).1)).mono ?_
      rintro e w3 ⟨rfl, hw3⟩
      have hO3 : Only [] w w3 := by rw [hw3]; exact (Only.refl _ _).drew.alloc _
      clear hw3
      go_wp2_with fail
      refine hK.out _ _ (KEPT.out _ hO3) (fun hHeld => ?_)
      clear hK K
      refine takeD 9 17 (.tuple #[.agg #[.int .i64 m1, .int .i64 m2], .bool true]) rfl rfl (by kernel_rfl) (by kernel_rfl) (by kernel_rfl) (fun _ _ _ h => h) (Or.inl ⟨by kernel_rfl, ?_⟩) (by assumption) ?_
      · intro w hSw; go_simp
      simp only [List.setIfInBounds_toArray, List.set_cons_zero, List.set_cons_succ]
      refine takeD 10 7 (.tuple #[.agg #[.int .i64 m1, .int .i64 m2], .bool true]) rfl rfl (by kernel_rfl) (by kernel_rfl) (by kernel_rfl) (fun _ _ _ h => h) (Or.inl ⟨by kernel_rfl, ?_⟩) (by assumption) ?_
      · intro w hSw; go_simp
      simp only [List.setIfInBounds_toArray, List.set_cons_zero, List.set_cons_succ]
      refine takeD 11 18 (.agg #[.int .i64 m1, .int .i64 m2]) rfl rfl (by kernel_rfl) (by kernel_rfl) (by kernel_rfl) (fun _ _ _ h => h) (Or.inl ⟨by kernel_rfl, ?_⟩) (by assumption) ?_
      · intro w hSw; go_simp
      simp only [List.setIfInBounds_toArray, List.set_cons_zero, List.set_cons_succ]
      refine takeD 12 19 (.bool true) rfl rfl (by kernel_rfl) (by kernel_rfl) (by kernel_rfl) (fun _ _ _ h => h) (Or.inl ⟨by kernel_rfl, ?_⟩) (by assumption) ?_
      · intro w hSw; go_simp
      simp only [List.setIfInBounds_toArray, List.set_cons_zero, List.set_cons_succ]
      refine wpAnyH_ready (rs := [13]) (by kernel_rfl) (by simp) ?_
      refine (AllReadyH.cons rfl (fun K hK => ?_) AllReadyH.nil)
      go_simp
      have hb : (w3.alloc (.cells #[.int .i64 0, .int .i64 0] 184)).heap[w3.heap.size]? = some (.cells #[.int .i64 0, .int .i64 0] 184 (0, 0)) := heap_alloc_new _ _
      have hO4 : Only [] w (w3.alloc (.cells #[.int .i64 0, .int .i64 0] 184)) := hO3.alloc _
      have hg : w.heap.size ≤ w3.heap.size := hO3.size
      refine hK.out _ _ (KEPT.out _ hO4) (fun hHeld => ?_)
      clear hK K hO3
      generalize hG : w3.heap.size = G at *
      generalize (w3.alloc (.cells #[.int .i64 0, .int .i64 0] 184)) = w4 at *
      clear hG
    case' ordB3 =>
      go_simp
      refine hK.out _ _ (KEPT.out _ (((Only.refl _ _).alloc _).drew)) (fun hHeld => ?_)
      clear hK K
      refine wpAnyH_ready (rs := [8]) (by kernel_rfl) (by simp) ?_
      refine (AllReadyH.cons rfl (fun K hK => ?_) AllReadyH.nil)
      go_simp
      refine (key_any p.nb 0 t _ (by first | simpa using c0 | exact (KEPT.out _ ((Only.refl _ _).drew.alloc _)).1 | exact (KEPT.out _ (((Only.refl _ _).alloc _).drew)).1)).mono ?_
      rintro e w3 ⟨rfl, hw3⟩
      have hO4 : Only [] w w3 := by rw [hw3]; first | exact (((Only.refl _ _).alloc _).drew.alloc _) | exact (((Only.refl _ _).drew.alloc _).alloc _)
      have hb : w3.heap[w.heap.size]? = some (.cells #[.int .i64 0, .int .i64 0] 184 (0, 0)) := by
        rw [hw3, Below.heap_alloc _ _ _ (by simp)]
        exact heap_alloc_new w _
      have hg : w.heap.size ≤ w.heap.size := Nat.le_refl _
      clear hw3
      go_wp2_with fail
      refine hK.out _ _ (KEPT.out _ hO4) (fun hHeld => ?_)
      clear hK K
      refine takeD 9 17 (.tuple #[.agg #[.int .i64 m1, .int .i64 m2], .bool true]) rfl rfl (by kernel_rfl) (by kernel_rfl) (by kernel_rfl) (fun _ _ _ h => h) (Or.inl ⟨by kernel_rfl, ?_⟩) (by assumption) ?_
      · intro w hSw; go_simp
      simp only [List.setIfInBounds_toArray, List.set_cons_zero, List.set_cons_succ]
      refine takeD 10 7 (.tuple #[.agg #[.int .i64 m1, .int .i64 m2], .bool true]) rfl rfl (by kernel_rfl) (by kernel_rfl) (by kernel_rfl) (fun _ _ _ h => h) (Or.inl ⟨by kernel_rfl, ?_⟩) (by assumption) ?_
      · intro w hSw; go_simp
      simp only [List.setIfInBounds_toArray, List.set_cons_zero, List.set_cons_succ]
      refine takeD 11 18 (.agg #[.int .i64 m1, .int .i64 m2]) rfl rfl (by kernel_rfl) (by kernel_rfl) (by kernel_rfl) (fun _ _ _ h => h) (Or.inl ⟨by kernel_rfl, ?_⟩) (by assumption) ?_
      · intro w hSw; go_simp
      simp only [List.setIfInBounds_toArray, List.set_cons_zero, List.set_cons_succ]
      refine takeD 12 19 (.bool true) rfl rfl (by kernel_rfl) (by kernel_rfl) (by kernel_rfl) (fun _ _ _ h => h) (Or.inl ⟨by kernel_rfl, ?_⟩) (by assumption) ?_
      · intro w hSw; go_simp
      simp only [List.setIfInBounds_toArray, List.set_cons_zero, List.set_cons_succ]
      generalize hG : w.heap.size = G at hb ⊢
      have hg : w.heap.size ≤ G := by omega
      clear hG
      generalize hW : w3 = w4 at *
      clear hW
    all_goals
      have q0 : w4.cell? ⟨G, 0, none⟩ = some (.int .i64 0) := by rw [cell_of_row _ _ _ _ _ _ hb]; rfl
      have q1 : w4.cell? ⟨G, 1, none⟩ = some (.int .i64 0) := by rw [cell_of_row _ _ _ _ _ _ hb]; rfl
      have qf : ∀ i, w4.frozen? ⟨G, i, none⟩ = false := fun i => frozen_of_row _ _ _ _ _ hb
      refine wpAnyH_ready (rs := [14]) (by kernel_rfl) (by simp) ?_
      refine (AllReadyH.cons rfl (fun K hK => ?_) AllReadyH.nil)
      go_simp
      have key := two_set2 (.int .i64 m1) (.int .i64 m2) hb
      have hO5 : Only [] w ((w4.setCell ⟨G, 0, none⟩ (.int .i64 m1)).setCell ⟨G, 1, none⟩ (.int .i64 m2)) := (hO4.setCell (.inr hg) _).setCell (.inr hg) _
      refine hK.out _ _ (KEPT.out _ hO5) (fun hHeld => ?_)
      clear hK K q0 q1 qf
      generalize ((w4.setCell ⟨G, 0, none⟩ (.int .i64 m1)).setCell ⟨G, 1, none⟩ (.int .i64 m2)) = w5 at *
      have q0 : w5.cell? ⟨G, 0, none⟩ = some (.int .i64 m1) := by rw [cell_of_row _ _ _ _ _ _ key]; rfl
      refine takeD 15 6 (.bool true) rfl rfl (by kernel_rfl) (by kernel_rfl) (by kernel_rfl) (fun _ _ _ h => h) (Or.inl ⟨by kernel_rfl, ?_⟩) (by assumption) ?_
      · intro w hSw; go_simp
      simp only [List.setIfInBounds_toArray, List.set_cons_zero, List.set_cons_succ]
      refine wpAnyH_done (by kernel_rfl) ?_ _
      go_wp2_with fail
      go_ret
      exact ⟨by rw [HR.out]; simp [h0], hO5⟩
  · go_enter Tryz.func243, Tryz.ntmps243
    go_wp2
    have kept : ∀ w', Only [] w w' → w'.cell? ⟨p.nb, 0, none⟩ = some (.int .i64 0) ∧ w'.cell? ⟨p.nb, 7, none⟩ = some (.map (some p.om)) ∧ (Instr.lookup 130 (.map (some p.om)) (keyV 0 t) true).run Tryz.prog w' = .ok (.tuple #[.agg #[.int .i64 m1, .int .i64 m2], .bool true]) w' := fun w' ho => ⟨ho.cell c0 (by simp), ho.cell c6 (by simp), LK.out w' ho⟩
    have KEPT : Hid _ := kept
    clear kept
    refine wp_region_held_drew (S := fun w' => w'.cell? ⟨p.nb, 0, none⟩ = some (.int .i64 0) ∧ w'.cell? ⟨p.nb, 7, none⟩ = some (.map (some p.om)) ∧ (Instr.lookup 130 (.map (some p.om)) (keyV 0 t) true).run Tryz.prog w' = .ok (.tuple #[.agg #[.int .i64 m1, .int .i64 m2], .bool true]) w') (by kernel_rfl) (KEPT.out _ (Only.refl _ _).drew) (fun hHeld => ?_)
    refine takeD 0 8 (.pointer (some ⟨p.nb, 0, none⟩)) rfl rfl (by kernel_rfl) (by kernel_rfl) (by kernel_rfl) (fun _ _ _ h => h) (Or.inl ⟨by kernel_rfl, ?_⟩) (by assumption) ?_
    · intro w hSw; go_simp
    simp only [List.setIfInBounds_toArray, List.set_cons_zero, List.set_cons_succ]
    refine takeD 1 9 (.pointer (some ⟨p.nb, 0, none⟩)) rfl rfl (by kernel_rfl) (by kernel_rfl) (by kernel_rfl) (fun _ _ _ h => h) (Or.inl ⟨by kernel_rfl, ?_⟩) (by assumption) ?_
    · intro w hSw; go_simp
    simp only [List.setIfInBounds_toArray, List.set_cons_zero, List.set_cons_succ]
    refine takeD 2 10 (.pointer (some ⟨p.nb, 7, none⟩)) rfl rfl (by kernel_rfl) (by kernel_rfl) (by kernel_rfl) (fun _ _ _ h => h) (Or.inl ⟨by kernel_rfl, ?_⟩) (by assumption) ?_
    · intro w hSw; go_simp
    simp only [List.setIfInBounds_toArray, List.set_cons_zero, List.set_cons_succ]
    refine takeD 3 11 (.map (some p.om)) rfl rfl (by kernel_rfl) (by kernel_rfl) (by kernel_rfl) (fun _ _ _ h => h) (Or.inl ⟨by kernel_rfl, ?_⟩) (by assumption) ?_
    · intro w hSw; go_simp
    simp only [List.setIfInBounds_toArray, List.set_cons_zero, List.set_cons_succ]
    refine takeD 4 12 (.pointer (some ⟨p.nb, 0, none⟩)) rfl rfl (by kernel_rfl) (by kernel_rfl) (by kernel_rfl) (fun _ _ _ h => h) (Or.inl ⟨by kernel_rfl, ?_⟩) (by assumption) ?_
    · intro w hSw; go_simp
    simp only [List.setIfInBounds_toArray, List.set_cons_zero, List.set_cons_succ]
    refine takeD 5 13 (.pointer (some ⟨p.nb, 0, none⟩)) rfl rfl (by kernel_rfl) (by kernel_rfl) (by kernel_rfl) (fun _ _ _ h => h) (Or.inl ⟨by kernel_rfl, ?_⟩) (by assumption) ?_
    · intro w hSw; go_simp
    simp only [List.setIfInBounds_toArray, List.set_cons_zero, List.set_cons_succ]
    refine takeD 6 14 (.pointer (some ⟨p.nb, 0, none⟩)) rfl rfl (by kernel_rfl) (by kernel_rfl) (by kernel_rfl) (fun _ _ _ h => h) (Or.inl ⟨by kernel_rfl, ?_⟩) (by assumption) ?_
    · intro w hSw; go_simp
    simp only [List.setIfInBounds_toArray, List.set_cons_zero, List.set_cons_succ]
    refine takeD 7 15 (.int .i64 t) rfl rfl (by kernel_rfl) (by kernel_rfl) (by kernel_rfl) (fun _ _ _ h => h) (Or.inl ⟨by kernel_rfl, ?_⟩) (by assumption) ?_
    · intro w hSw; go_simp
    simp only [List.setIfInBounds_toArray, List.set_cons_zero, List.set_cons_succ]
    refine wpAnyH_ready (rs := [8, 13]) (by kernel_rfl) (by simp) ?_
    refine (AllReadyH.cons rfl (fun K hK => ?ordA4) (AllReadyH.cons rfl (fun K hK => ?ordB4) AllReadyH.nil))
    case' ordA4 =>
      go_simp
      refine (key_any p.nb 0 t _ (by first | simpa using c0 | exact (KEPT.out _ ((Only.refl _ _).drew.alloc _)).1 | exact (KEPT.out _ (((Only.refl _ _).alloc _).drew)).1)).mono ?_
      rintro e w3 ⟨rfl, hw3⟩
      have hO3 : Only [] w w3 := by rw [hw3]; exact (Only.refl _ _).drew.alloc _
      clear hw3
      go_wp2_with fail
      refine hK.out _ _ (KEPT.out _ hO3) (fun hHeld => ?_)
      clear hK K
      refine takeD 9 17 (.tuple #[.agg #[.int .i64 m1, .int .i64 m2], .bool true]) rfl rfl (by kernel_rfl) (by kernel_rfl) (by kernel_rfl) (fun _ _ _ h => h) (Or.inl ⟨by kernel_rfl, ?_⟩) (by assumption) ?_
      · intro w hSw; go_simp
      simp only [List.setIfInBounds_toArray, List.set_cons_zero, List.set_cons_succ]
      refine takeD 10 7 (.tuple #[.agg #[.int .i64 m1, .int .i64 m2], .bool true]) rfl rfl (by kernel_rfl) (by kernel_rfl) (by kernel_rfl) (fun _ _ _ h => h) (Or.inl ⟨by kernel_rfl, ?_⟩) (by assumption) ?_
      · intro w hSw; go_simp
      simp only [List.setIfInBounds_toArray, List.set_cons_zero, List.set_cons_succ]
      refine takeD 11 18 (.agg #[.int .i64 m1, .int .i64 m2]) rfl rfl (by kernel_rfl) (by kernel_rfl) (by kernel_rfl) (fun _ _ _ h => h) (Or.inl ⟨by kernel_rfl, ?_⟩) (by assumption) ?_
      · intro w hSw; go_simp
      simp only [List.setIfInBounds_toArray, List.set_cons_zero, List.set_cons_succ]
      refine takeD 12 19 (.bool true) rfl rfl (by kernel_rfl) (by kernel_rfl) (by kernel_rfl) (fun _ _ _ h => h) (Or.inl ⟨by kernel_rfl, ?_⟩) (by assumption) ?_
      · intro w hSw; go_simp
      simp only [List.setIfInBounds_toArray, List.set_cons_zero, List.set_cons_succ]
      refine wpAnyH_ready (rs := [13]) (by kernel_rfl) (by simp) ?_
      refine (AllReadyH.cons rfl (fun K hK => ?_) AllReadyH.nil)
      go_simp
      have hb : (w3.alloc (.cells #[.int .i64 0, .int .i64 0] 184)).heap[w3.heap.size]? = some (.cells #[.int .i64 0, .int .i64 0] 184 (0, 0)) := heap_alloc_new _ _
      have hO4 : Only [] w (w3.alloc (.cells #[.int .i64 0, .int .i64 0] 184)) := hO3.alloc _
      have hg : w.heap.size ≤ w3.heap.size := hO3.size
      refine hK.out _ _ (KEPT.out _ hO4) (fun hHeld => ?_)
      clear hK K hO3
      generalize hG : w3.heap.size = G at *
      generalize (w3.alloc (.cells #[.int .i64 0, .int .i64 0] 184)) = w4 at *
      clear hG
    case' ordB4 =>
      go_simp
      refine hK.out _ _ (KEPT.out _ (((Only.refl _ _).alloc _).drew)) (fun hHeld => ?_)
      clear hK K
      refine wpAnyH_ready (rs := [8]) (by kernel_rfl) (by simp) ?_
      refine (AllReadyH.cons rfl (fun K hK => ?_) AllReadyH.nil)
      go_simp
      refine (key_any p.nb 0 t _ (by first | simpa using c0 | exact (KEPT.out _ ((Only.refl _ _).drew.alloc _)).1 | exact (KEPT.out _ (((Only.refl _ _).alloc _).drew)).1)).mono ?_
      rintro e w3 ⟨rfl, hw3⟩
      have hO4 : Only [] w w3 := by rw [hw3]; first | exact (((Only.refl _ _).alloc _).drew.alloc _) | exact (((Only.refl _ _).drew.alloc _).alloc _)
      have hb : w3.heap[w.heap.size]? = some (.cells #[.int .i64 0, .int .i64 0] 184 (0, 0)) := by
        rw [hw3, Below.heap_alloc _ _ _ (by simp)]
        exact heap_alloc_new w _
      have hg : w.heap.size ≤ w.heap.size := Nat.le_refl _
      clear hw3
      go_wp2_with fail
      refine hK.out _ _ (KEPT.out _ hO4) (fun hHeld => ?_)
      clear hK K
      refine takeD 9 17 (.tuple #[.agg #[.int .i64 m1, .int .i64 m2], .bool true]) rfl rfl (by kernel_rfl) (by kernel_rfl) (by kernel_rfl) (fun _ _ _ h => h) (Or.inl ⟨by kernel_rfl, ?_⟩) (by assumption) ?_
      · intro w hSw; go_simp
      simp only [List.setIfInBounds_toArray, List.set_cons_zero, List.set_cons_succ]
      refine takeD 10 7 (.tuple #[.agg #[.int .i64 m1, .int .i64 m2], .bool true]) rfl rfl (by kernel_rfl) (by kernel_rfl) (by kernel_rfl) (fun _ _ _ h => h) (Or.inl ⟨by kernel_rfl, ?_⟩) (by assumption) ?_
      · intro w hSw; go_simp
      simp only [List.setIfInBounds_toArray, List.set_cons_zero, List.set_cons_succ]
      refine takeD 11 18 (.agg #[.int .i64 m1, .int .i64 m2]) rfl rfl (by kernel_rfl) (by kernel_rfl) (by kernel_rfl) (fun _ _ _ h => h) (Or.inl ⟨by kernel_rfl, ?_⟩) (by assumption) ?_
      · intro w hSw; go_simp
      simp only [List.setIfInBounds_toArray, List.set_cons_zero, List.set_cons_succ]
      refine takeD 12 19 (.bool true) rfl rfl (by kernel_rfl) (by kernel_rfl) (by kernel_rfl) (fun _ _ _ h => h) (Or.inl ⟨by kernel_rfl, ?_⟩) (by assumption) ?_
      · intro w hSw; go_simp
      simp only [List.setIfInBounds_toArray, List.set_cons_zero, List.set_cons_succ]
      generalize hG : w.heap.size = G at hb ⊢
      have hg : w.heap.size ≤ G := by omega
      clear hG
      generalize hW : w3 = w4 at *
      clear hW
    all_goals
      have q0 : w4.cell? ⟨G, 0, none⟩ = some (.int .i64 0) := by rw [cell_of_row _ _ _ _ _ _ hb]; rfl
      have q1 : w4.cell? ⟨G, 1, none⟩ = some (.int .i64 0) := by rw [cell_of_row _ _ _ _ _ _ hb]; rfl
      have qf : ∀ i, w4.frozen? ⟨G, i, none⟩ = false := fun i => frozen_of_row _ _ _ _ _ hb
      refine wpAnyH_ready (rs := [14]) (by kernel_rfl) (by simp) ?_
      refine (AllReadyH.cons rfl (fun K hK => ?_) AllReadyH.nil)
      go_simp
      have key := two_set2 (.int .i64 m1) (.int .i64 m2) hb
      have hO5 : Only [] w ((w4.setCell ⟨G, 0, none⟩ (.int .i64 m1)).setCell ⟨G, 1, none⟩ (.int .i64 m2)) := (hO4.setCell (.inr hg) _).setCell (.inr hg) _
      refine hK.out _ _ (KEPT.out _ hO5) (fun hHeld => ?_)
      clear hK K q0 q1 qf
      generalize ((w4.setCell ⟨G, 0, none⟩ (.int .i64 m1)).setCell ⟨G, 1, none⟩ (.int .i64 m2)) = w5 at *
      have q0 : w5.cell? ⟨G, 0, none⟩ = some (.int .i64 m1) := by rw [cell_of_row _ _ _ _ _ _ key]; rfl
      refine takeD 15 6 (.bool true) rfl rfl (by kernel_rfl) (by kernel_rfl) (by kernel_rfl) (fun _ _ _ h => h) (Or.inl ⟨by kernel_rfl, ?_⟩) (by assumption) ?_
      · intro w hSw; go_simp
      simp only [List.setIfInBounds_toArray, List.set_cons_zero, List.set_cons_succ]
      refine wpAnyH_done (by kernel_rfl) ?_ _
      go_wp2_with fail
      go_ret
      exact ⟨by rw [HR.out]; simp [h0], hO5⟩
end Go.Proofs.YtfpojgljgbgkkaaGreatDoor

/-
  maps.DeleteFunc over a set, by decide's own test.
-/
namespace Go.Proofs.YtfpojgljgbgkkaaGreatDoor
open Go.RowKit
open Go.ChangeMaps (setBlock)

set_option maxRecDepth 100000 in
set_option maxHeartbeats 1000000 in
theorem decide1_any (tp : Addr) (x y t : Int) (w : World) (ht : w.cell? tp = some (.int .i64 t)) :
    Calls Tryz.prog 252 #[.agg #[.int .i64 x, .int .i64 y], .agg #[], .pointer (some tp)] w fun e w' => e = .returned (.bool (y == t)) ∧ Only [] w w' := by
  have hl := cell_block ht
  have ht' : ((w.alloc (.cells #[.int .i64 x, .int .i64 y] 150)).alloc (.cells #[] 100)).cell? tp = some (.int .i64 t) := by
    rw [World.cell?_alloc_lt _ _ _ (by simp; omega), World.cell?_alloc_lt _ _ _ hl]; exact ht
  go_enter Tryz.func252, Tryz.ntmps252
  go_wp2
  go_ret
  exact ⟨rfl, ((Only.refl _ _).alloc _).alloc _⟩

/-- Is the entry about this transaction? -/
def about (t : Int) (e : MapEntry) : Bool := match e.key with | .agg cs => (match (cs[1]? : Option Value) with | some (Value.int _ y) => y == t | _ => false) | _ => false
theorem about_key (t x y : Int) (e : MapEntry) (h : e.key = keyV x y) : about t e = (y == t) := by simp [about, h, keyV]
theorem erase_born : ∀ (l : List MapEntry) (k : Nat) (e : MapEntry), (l.map (·.born)).Nodup → l[k]? = some e → l.eraseIdx k = l.filter fun x => !(x.born == e.born)
  | [], _, _, _, h => by simp at h
  | a :: l, 0, e, hn, h => by
    simp only [List.getElem?_cons_zero, Option.some.injEq] at h
    subst h
    simp only [List.map_cons, List.nodup_cons] at hn
    simp only [List.eraseIdx_cons_zero, List.filter_cons, beq_self_eq_true, Bool.not_true, Bool.false_eq_true, if_false]
    symm
    rw [List.filter_eq_self]
    intro x hx
    have : x.born ≠ a.born := fun e => hn.1 (by rw [← e]; exact List.mem_map.2 ⟨x, hx, rfl⟩)
    simpa using this
  | a :: l, k + 1, e, hn, h => by
    simp only [List.map_cons, List.nodup_cons] at hn
    simp only [List.getElem?_cons_succ] at h
    have ha : a.born ≠ e.born := fun e' => hn.1 (by rw [e']; exact List.mem_map.2 ⟨e, List.mem_of_getElem? h, rfl⟩)
    have hb : (!(a.born == e.born)) = true := by simpa using ha
    rw [List.eraseIdx_cons_succ, List.filter_cons, if_pos hb, erase_born l k e hn.2 h]

def seenN (w : World) (r : Nat) : Nat := match w.heap[r]? with | some (.mapIter _ _ s _) => s.size | _ => 0
theorem seenN_of {w : World} {r : Nat} {m : Option Nat} {a c : Nat} {s : Array Nat} (h : w.heap[r]? = some (.mapIter m a s c)) : seenN w r = s.size := by simp [seenN, h]

theorem nodup_len : ∀ (l m : List Nat), l.Nodup → l ⊆ m → l.length ≤ m.length
  | [], m, _, _ => by simp
  | a :: l, m, hn, hs => by
    rw [List.nodup_cons] at hn
    have ha : a ∈ m := hs (by simp)
    have := nodup_len l (m.erase a) hn.2 (fun x hx => by
      have hxa : x ≠ a := fun e => hn.1 (e ▸ hx)
      exact (List.mem_erase_of_ne hxa).2 (hs (by simp [hx])))
    rw [List.length_erase_of_mem ha] at this
    have hpos : 0 < m.length := List.length_pos_of_mem ha
    simp only [List.length_cons]
    omega
theorem nodup_inj {α β : Type} (f : α → β) : ∀ (l : List α), (l.map f).Nodup → ∀ a ∈ l, ∀ b ∈ l, f a = f b → a = b
  | [], _, a, ha, _, _, _ => by simp at ha
  | c :: l, hn, a, ha, b, hb, h => by
    rw [List.map_cons, List.nodup_cons] at hn
    rcases List.mem_cons.1 ha with ha1 | ha1
    · rcases List.mem_cons.1 hb with hb1 | hb1
      · rw [ha1, hb1]
      · exact absurd (List.mem_map.2 ⟨b, hb1, by rw [← h, ha1]⟩) hn.1
    · rcases List.mem_cons.1 hb with hb1 | hb1
      · exact absurd (List.mem_map.2 ⟨a, ha1, by rw [h, hb1]⟩) hn.1
      · exact nodup_inj f l hn.2 a ha1 b hb1 h

/-- The round of a range over a set from which some are deleted. -/
structure Rng (w0 : World) (b r : Nat) (es0 : Array MapEntry) (clock : Nat) (t : Int) (es : Array MapEntry) (seen : Array Nat) (w : World) : Prop where
  map : w.heap[b]? = some (.map es clock)
  it : w.heap[r]? = some (.mapIter (some b) clock seen clock)
  es : es.toList = es0.toList.filter fun e => !(seen.contains e.born && about t e)
  nd : seen.toList.Nodup
  sub : ∀ s ∈ seen.toList, s ∈ es0.toList.map (·.born)
  only : Only [b] w0 w
theorem Rng.size {w0 : World} {b r : Nat} {es0 : Array MapEntry} {clock : Nat} {t : Int} {es : Array MapEntry} {seen : Array Nat} {w : World} (h : Rng w0 b r es0 clock t es seen w) : seen.size ≤ es0.size := by
  have hs : seen.toList ⊆ es0.toList.map (·.born) := fun s hs => h.sub s hs
  have := nodup_len _ _ h.nd hs
  simpa using this

theorem filt_map (t : Int) : ∀ (l : List MapEntry) (V : List (Int × Int)), l.map entE = (toS V).map encE → (l.filter fun e => !about t e).map entE = (toS (V.filter fun p => !(p.2 == t))).map encE
  | [], [], _ => rfl
  | [], p :: V, h => by simp [toS] at h
  | e :: l, [], h => by simp [toS] at h
  | e :: l, p :: V, h => by
    simp only [toS, List.map_cons, List.cons.injEq] at h
    obtain ⟨h1, h2⟩ := h
    have hk : e.key = keyV p.1 p.2 := congrArg Prod.fst h1
    have ih := filt_map t l V h2
    rw [List.filter_cons, List.filter_cons, about_key t p.1 p.2 e hk]
    cases hb : (p.2 == t)
    · simp only [Bool.not_false, if_true, List.map_cons, toS] at ih ⊢
      rw [h1, ih]
    · simpa using ih
theorem entry_key {V : List (Int × Int)} {l : List MapEntry} (h : l.map entE = (toS V).map encE) {e : MapEntry} (he : e ∈ l) : ∃ q ∈ V, e.key = keyV q.1 q.2 ∧ e.val = .agg #[] := by
  have : entE e ∈ l.map entE := List.mem_map.2 ⟨e, he, rfl⟩
  rw [h] at this
  obtain ⟨a, ha, hq⟩ := List.mem_map.1 this
  obtain ⟨q, hq', rfl⟩ := List.mem_map.1 ha
  exact ⟨q, hq', (congrArg Prod.fst hq).symm, (congrArg Prod.snd hq).symm⟩
theorem keyV_inj {a b c d : Int} (h : keyV a b = keyV c d) : a = c ∧ b = d := by
  simp [keyV] at h
  exact h
theorem keys_nodup : ∀ (l : List MapEntry) (V : List (Int × Int)), l.map entE = (toS V).map encE → V.Nodup → (l.map (·.key)).Nodup
  | [], _, _, _ => by simp
  | e :: l, [], h, _ => by simp [toS] at h
  | e :: l, p :: V, h, hn => by
    simp only [toS, List.map_cons, List.cons.injEq] at h
    obtain ⟨h1, h2⟩ := h
    rw [List.nodup_cons] at hn
    rw [List.map_cons, List.nodup_cons]
    refine ⟨fun hm => ?_, keys_nodup l V h2 hn.2⟩
    obtain ⟨e', he', hk⟩ := List.mem_map.1 hm
    obtain ⟨q, hq, hqk, -⟩ := entry_key (l := l) (V := V) h2 he'
    have hk0 : e.key = keyV p.1 p.2 := congrArg Prod.fst h1
    rw [hqk, hk0] at hk
    have := keyV_inj hk
    exact hn.1 (by rw [show p = q from Prod.ext this.1.symm this.2.symm]; exact hq)
/-- A key that is there is found where it stands. -/
theorem find_entry (w : World) : ∀ (l : List MapEntry) (V : List (Int × Int)), l.map entE = (toS V).map encE → (l.map (·.key)).Nodup → ∀ e ∈ l, ∀ x y, e.key = keyV x y → ∃ k, l[k]? = some e ∧ (Instr.findKey 150 (keyV x y) l).run Tryz.prog w = .ok (some (k, .agg #[])) w := by
  intro l V h hn e he x y hk
  have hf := run_findKey x y w l (toS V) h
  cases hp : pos x y (toS V) 0 with
  | none =>
    exfalso
    have := pos_set x y V 0
    rw [hp] at this
    obtain ⟨q, hq, hqk, -⟩ := entry_key h he
    rw [hk] at hqk
    have hqq := keyV_inj hqk
    have hmem : (x, y) ∈ V := by rw [show (x, y) = q from Prod.ext hqq.1 hqq.2]; exact hq
    simp [hmem] at this
  | some q =>
    obtain ⟨j, u⟩ := q
    obtain ⟨k, rfl, h2, -, -⟩ := pos_some x y .nilIface (toS V) 0 j u hp
    rw [Nat.zero_add] at hp
    rw [hp] at hf
    have hu : u = .agg #[] := by
      have := List.mem_of_getElem? h2
      obtain ⟨q, -, hq⟩ := List.mem_map.1 this
      exact (congrArg Prod.snd hq).symm
    subst hu
    refine ⟨k, ?_, hf⟩
    have hek : (l[k]?).map entE = some (keyV x y, .agg #[]) := by
      have := congrArg (fun z => z[k]?) h
      simp only [List.getElem?_map, h2, Option.map_some] at this
      exact this
    cases hlk : l[k]? with
    | none => rw [hlk] at hek; simp at hek
    | some e' =>
      rw [hlk] at hek
      simp only [Option.map_some, Option.some.injEq] at hek
      have hk' : e'.key = keyV x y := congrArg Prod.fst hek
      have he'm := List.mem_of_getElem? hlk
      -- two entries with one key are one
      have : e' = e := nodup_inj (·.key) l hn e' he'm e he (by rw [hk', hk])
      rw [this]
end Go.Proofs.YtfpojgljgbgkkaaGreatDoor

/-
  maps.DeleteFunc over a set, by decide's own test: the walk.
-/
namespace Go.Proofs.YtfpojgljgbgkkaaGreatDoor
open Go.RowKit
open Go.ChangeMaps (setBlock)

theorem run_rangeSet {w : World} {b : Nat} {es : Array MapEntry} {clock : Nat} (hb : w.heap[b]? = some (.map es clock)) :
    (Instr.range 132 (.map (some b))).run Tryz.prog w = .ok (.pointer (some ⟨w.heap.size, 0, none⟩)) (w.alloc (.mapIter (some b) clock #[] clock)) := by
  simp [Instr.range, run_underlying Tryz.underlying132, MapKept.run_getObj_map hb, newObj, Sem.run, Result.andThen]
theorem sub_set : ∀ {l l0 : List MapEntry}, l.Sublist l0 → ∀ V : List (Int × Int), l0.map entE = (toS V).map encE → ∃ V', l.map entE = (toS V').map encE ∧ V'.Sublist V := by
  intro l l0 h
  induction h with
  | slnil => intro V hV; exact ⟨V, hV, List.Sublist.refl _⟩
  | cons a _ ih =>
    intro V hV
    cases V with
    | nil => simp [toS] at hV
    | cons p V =>
      simp only [toS, List.map_cons, List.cons.injEq] at hV
      obtain ⟨V', h1, h2⟩ := ih V hV.2
      exact ⟨V', h1, h2.cons _⟩
  | cons_cons a _ ih =>
    intro V hV
    cases V with
    | nil => simp [toS] at hV
    | cons p V =>
      simp only [toS, List.map_cons, List.cons.injEq] at hV
      obtain ⟨V', h1, h2⟩ := ih V hV.2
      exact ⟨p :: V', by simp only [toS, List.map_cons, hV.1]; rw [h1]; rfl, h2.cons_cons _⟩
theorem contains_push (s : Array Nat) (a b : Nat) : (s.push a).contains b = (s.contains b || b == a) := by
  rw [Bool.eq_iff_iff]
  simp only [Array.contains_iff_mem, Array.mem_push, Bool.or_eq_true, beq_iff_eq]
theorem Rng.next {w0 : World} {b r : Nat} {es0 : Array MapEntry} {clock : Nat} {t : Int} {es : Array MapEntry} {seen : Array Nat} {w : World} (h : Rng w0 b r es0 clock t es seen w) (hst : Stamp es0 clock) {e : MapEntry} (he : e ∈ es.toList) (hs : seen.contains e.born = false) (ha : about t e = false) {w' : World} (hm : w'.heap[b]? = some (.map es clock)) (hi : w'.heap[r]? = some (.mapIter (some b) clock (seen.push e.born) clock)) (ho : Only [b] w0 w') :
    Rng w0 b r es0 clock t es (seen.push e.born) w' := by
  have he0 : e ∈ es0.toList := by rw [h.es] at he; exact (List.mem_filter.1 he).1
  refine ⟨hm, hi, ?_, ?_, ?_, ho⟩
  · rw [h.es]
    apply List.filter_congr
    intro x hx
    rw [contains_push]
    by_cases hb : x.born = e.born
    · have : x = e := nodup_inj (·.born) _ hst.2 x hx e he0 hb
      rw [this, ha]; simp
    · have : (x.born == e.born) = false := by simpa using hb
      rw [this]; simp
  · rw [Array.toList_push, List.nodup_append]
    refine ⟨h.nd, by simp, fun a ha' b' hb' => ?_⟩
    simp only [List.mem_singleton] at hb'
    subst hb'
    intro heq
    subst heq
    have : seen.contains e.born = true := Array.contains_iff_mem.2 (by simpa using ha')
    rw [hs] at this
    cases this
  · intro s hs'
    rw [Array.toList_push, List.mem_append, List.mem_singleton] at hs'
    rcases hs' with hs' | rfl
    · exact h.sub s hs'
    · exact List.mem_map.2 ⟨e, he0, rfl⟩
theorem Rng.drop {w0 : World} {b r : Nat} {es0 : Array MapEntry} {clock : Nat} {t : Int} {es es' : Array MapEntry} {seen : Array Nat} {w : World} (h : Rng w0 b r es0 clock t es seen w) (hst : Stamp es0 clock) {e : MapEntry} (he : e ∈ es.toList) (hs : seen.contains e.born = false) (ha : about t e = true) (hes : es'.toList = es.toList.filter fun x => !(x.born == e.born)) {w' : World} (hm : w'.heap[b]? = some (.map es' clock)) (hi : w'.heap[r]? = some (.mapIter (some b) clock (seen.push e.born) clock)) (ho : Only [b] w0 w') :
    Rng w0 b r es0 clock t es' (seen.push e.born) w' := by
  have he0 : e ∈ es0.toList := by rw [h.es] at he; exact (List.mem_filter.1 he).1
  refine ⟨hm, hi, ?_, ?_, ?_, ho⟩
  · rw [hes, h.es, List.filter_filter]
    apply List.filter_congr
    intro x hx
    rw [contains_push]
    by_cases hb : x.born = e.born
    · have : x = e := nodup_inj (·.born) _ hst.2 x hx e he0 hb
      rw [this, ha]; simp
    · have : (x.born == e.born) = false := by simpa using hb
      rw [this]; simp
  · rw [Array.toList_push, List.nodup_append]
    refine ⟨h.nd, by simp, fun a ha' b' hb' => ?_⟩
    simp only [List.mem_singleton] at hb'
    subst hb'
    intro heq
    subst heq
    have : seen.contains e.born = true := Array.contains_iff_mem.2 (by simpa using ha')
    rw [hs] at this
    cases this
  · intro s hs'
    rw [Array.toList_push, List.mem_append, List.mem_singleton] at hs'
    rcases hs' with hs' | rfl
    · exact h.sub s hs'
    · exact List.mem_map.2 ⟨e, he0, rfl⟩
/-- Nothing is left: what is about the transaction has gone. -/
theorem Rng.fin {w0 : World} {b r : Nat} {es0 : Array MapEntry} {clock : Nat} {t : Int} {es : Array MapEntry} {seen : Array Nat} {w : World} (h : Rng w0 b r es0 clock t es seen w) (hl : (leftOf es seen).size = 0) : es.toList = es0.toList.filter fun e => !about t e := by
  rw [h.es]
  apply List.filter_congr
  intro x hx
  cases ha : about t x
  · simp
  · cases hs : seen.contains x.born
    · exfalso
      have hs' : x.born ∉ seen := fun hm => by have := Array.contains_iff_mem.2 hm; rw [hs] at this; cases this
      have hxe : x ∈ es.toList := by rw [h.es]; exact List.mem_filter.2 ⟨hx, by simp [hs']⟩
      have : x ∈ leftOf es seen := by unfold leftOf; rw [Array.mem_filter]; exact ⟨by simpa using hxe, by simp [hs']⟩
      have h0 : leftOf es seen = #[] := Array.eq_empty_of_size_eq_zero hl
      rw [h0] at this
      simp at this
    · simp

set_option maxRecDepth 100000 in
set_option maxHeartbeats 4000000 in
theorem deleteFunc_any (b : Nat) (V : List (Int × Int)) (tp : Addr) (t : Int) (w : World) (hM : MapI w b (toS V)) (hnd : V.Nodup) (ht : w.cell? tp = some (.int .i64 t)) :
    Calls Tryz.prog 251 #[.map (some b), .func (.func 252) #[] #[.pointer (some tp)]] w fun e w' => e = .returned (.tuple #[]) ∧ Only [b] w w' ∧ MapI w' b (toS (V.filter fun p => !(p.2 == t))) := by
  obtain ⟨es0, clock, hb, he, hst⟩ := hM
  have hrng := run_rangeSet hb
  have hbl := block_lt hb
  have htb : tp.block ≠ b := by
    intro e
    have : w.cell? tp = none := by simp [World.cell?, e, hb]
    rw [this] at ht
    cases ht
  have HE : Hid (es0.toList.map entE = (toS V).map encE) := he
  have HKN : Hid ((es0.toList.map (·.key)).Nodup) := keys_nodup _ V he hnd
  have HST : Hid (Stamp es0 clock) := hst
  have HT : Hid (w.cell? tp = some (.int .i64 t)) := ht
  have R0 : Hid (Rng w b w.heap.size es0 clock t es0 #[] (w.alloc (.mapIter (some b) clock #[] clock))) :=
    ⟨by rw [Below.heap_alloc _ _ _ hbl]; exact hb, heap_alloc_new w _, (List.filter_eq_self.2 (by simp)).symm, by simp, by simp, (Only.refl _ _).alloc _⟩
  clear he hst ht hnd
  go_enter Tryz.func251, Tryz.ntmps251
  go_wp2
  go_loopw [8] (fun _ wr => ∃ es seen, Hid (Rng w b w.heap.size es0 clock t es seen wr)) (fun _ wr => es0.size - seenN wr w.heap.size)
  case atStart => exact ⟨es0, #[], R0⟩
  case round =>
    clear R0 hrng
    obtain ⟨es, seen, hR⟩ := hrel
    have hsub : es.toList.Sublist es0.toList := by rw [hR.out.es]; exact List.filter_sublist
    have hsteq : Stamp es clock := HST.out.sub hsub
    have hse := seenN_of hR.out.it
    rcases run_next_at (P := Tryz.prog) wr 0 w.heap.size b clock clock seen es clock hR.out.it hR.out.map hsteq.1 (Nat.le_refl _) with ⟨h0, hrun⟩ | ⟨e, hel, w1, hw1, hrun⟩
    · have hnx : ∀ ty, (Instr.next (.pointer (some ⟨w.heap.size, 0, none⟩)) false ty).run Tryz.prog wr = .ok (.tuple #[.bool false]) wr := fun ty => hrun
      have hfin := hR.out.fin h0
      have HM : Hid (MapI wr b (toS (V.filter fun p => !(p.2 == t)))) := ⟨es, clock, hR.out.map, by rw [hfin]; exact filt_map t _ V HE.out, hsteq⟩
      clear hrun hfin
      go_wp2_with fail
      exact bodyPost_end (v := .tuple #[]) (by simp [results, Tryz.results251, go_sem]) rfl ⟨rfl, hR.out.only, HM.out⟩
    · have hnx : ∀ ty, (Instr.next (.pointer (some ⟨w.heap.size, 0, none⟩)) false ty).run Tryz.prog wr = .ok (.tuple #[.bool true, e.key, e.val]) (setBlock w1 w.heap.size (.mapIter (some b) clock (seen.push e.born) clock)) := fun ty => hrun
      have hel' : e ∈ es.toList ∧ seen.contains e.born = false := by
        unfold leftOf at hel
        simp only [Array.toList_filter, List.mem_filter] at hel
        exact ⟨hel.1, by simpa using hel.2⟩
      obtain ⟨he1, he2⟩ := hel'
      obtain ⟨q, hq, hqk, hqv⟩ := entry_key HE.out (hsub.subset he1)
      obtain ⟨x, y⟩ := q
      have hab := about_key t x y e hqk
      have hOw1 : Only [] wr w1 := by rcases hw1 with rfl | rfl <;> first | exact Only.refl _ _ | exact (Only.refl _ _).drew
      have hit1 := hOw1.at hR.out.it (by simp)
      have hm1 := hOw1.at hR.out.map (by simp)
      have W1 : ∃ W, W = setBlock w1 w.heap.size (.mapIter (some b) clock (seen.push e.born) clock) := ⟨_, rfl⟩
      obtain ⟨W, hW⟩ := W1
      rw [← hW] at hnx
      have hWi : W.heap[w.heap.size]? = some (.mapIter (some b) clock (seen.push e.born) clock) := by rw [hW]; exact heap_setBlock hit1 _
      have hWo : Only [w.heap.size] w1 W := by rw [hW]; exact (Only.refl _ _).setBlock (.inl (by simp)) _
      have hWm : W.heap[b]? = some (.map es clock) := hWo.at hm1 (by simp; omega)
      have hWb : Only [b] w W := ⟨hWo.os.trans (hOw1.os.trans hR.out.only.os), hWo.tape.trans (hOw1.tape.trans hR.out.only.tape), hWo.output.trans (hOw1.output.trans hR.out.only.output), Nat.le_trans hR.out.only.size (Nat.le_trans hOw1.size hWo.size), fun k hk hs => by
        have hz1 : k < wr.heap.size := Nat.lt_of_lt_of_le hk hR.out.only.size
        have hz2 : k < w1.heap.size := Nat.lt_of_lt_of_le hz1 hOw1.size
        rw [hWo.block k hz2 (by simp; omega), hOw1.block k hz1 (by simp), hR.out.only.block k hk hs]⟩
      have hen := run_entry_at (P := Tryz.prog) W w.heap.size b clock seen es clock e hWi hWm he1 hsteq.2
      rw [hqk, hqv] at hnx hen
      unfold keyV at hnx hen
      obtain ⟨V', hV', -⟩ := sub_set hsub V HE.out
      have HKE : Hid ((es.toList.map (·.key)).Nodup) := HKN.out.sublist (hsub.map _)
      have htW := hWb.cell HT.out (by simpa using htb)
      have HW : Hid (W.heap[b]? = some (.map es clock) ∧ W.heap[w.heap.size]? = some (.mapIter (some b) clock (seen.push e.born) clock) ∧ Only [b] w W) := ⟨hWm, hWi, hWb⟩
      have hbW : b < W.heap.size := block_lt hWm
      have hzW : w.heap.size < W.heap.size := block_lt hWi
      have HV' : Hid (es.toList.map entE = (toS V').map encE) := hV'
      have HQK : Hid (e.key = keyV x y) := hqk
      have HE12 : Hid (e ∈ es.toList ∧ seen.contains e.born = false) := ⟨he1, he2⟩
      have HAB : Hid (about t e = (y == t)) := hab
      have HSS : Hid (seen.size < es0.size ∧ seenN wr w.heap.size = seen.size) := ⟨by
        have hcnt : (seen.push e.born).size ≤ es0.size := by
          have h1 : (seen.push e.born).toList.Nodup := by
            rw [Array.toList_push, List.nodup_append]
            refine ⟨hR.out.nd, by simp, fun a ha' b' hb' => ?_⟩
            simp only [List.mem_singleton] at hb'
            subst hb'
            intro heq
            subst heq
            have : seen.contains e.born = true := Array.contains_iff_mem.2 (by simpa using ha')
            rw [he2] at this
            cases this
          have h2 : (seen.push e.born).toList ⊆ es0.toList.map (·.born) := by
            intro s hs'
            rw [Array.toList_push, List.mem_append, List.mem_singleton] at hs'
            rcases hs' with hs' | rfl
            · exact hR.out.sub s hs'
            · exact List.mem_map.2 ⟨e, hsub.subset he1, rfl⟩
          have := nodup_len _ _ h1 h2
          simpa using this
        simp at hcnt
        omega, hse⟩
      clear hrun hel he1 he2 hq hqk hqv hab hOw1 hit1 hm1 hW hWi hWo hWm hWb hV' hse hw1
      go_wp2_with fail
      have hO2 : Only [] W ((W.alloc (.cells #[.int .i64 x, .int .i64 y] 150)).alloc (.cells #[] 100)) := ((Only.refl _ _).alloc _).alloc _
      refine (decide1_any tp x y t _ (hO2.cell htW (by simp))).mono ?_
      rintro e' w3 ⟨rfl, hO3⟩
      have k0 := hO3.cell (p := ⟨W.heap.size, 0, none⟩) (u := .int .i64 x) (by simp) (by simp)
      have k1 := hO3.cell (p := ⟨W.heap.size, 1, none⟩) (u := .int .i64 y) (by simp) (by simp)
      have hO4 := hO2.trans hO3
      have hm3 := hO4.at HW.out.1 (by simp)
      have hi3 := hO4.at HW.out.2.1 (by simp)
      have ho3 : Only [b] w w3 := HW.out.2.2.trans (hO4.mono (by simp))
      have hs3 := seenN_of hi3
      cases hyt : (y == t)
      · have RN : Hid (Rng w b w.heap.size es0 clock t es (seen.push e.born) w3) := hR.out.next HST.out HE12.out.1 HE12.out.2 (by rw [HAB.out, hyt]) hm3 hi3 ho3
        have HS3 : Hid (seenN w3 w.heap.size = (seen.push e.born).size) := hs3
        clear hO2 hO3 hO4 hm3 hi3 ho3 hs3 htW
        go_wp2_with fail
        go_roundw
        case rel => exact ⟨es, seen.push e.born, RN⟩
        case measure => rw [HS3.out, HSS.out.2]; have := HSS.out.1; simp; omega
      · obtain ⟨k, hk, hfind⟩ := find_entry w3 es.toList V' HV'.out HKE.out e HE12.out.1 x y HQK.out
        have hdel : ∀ ty, (Builtin.delete_ #[132, 150] ty #[.map (some b), .agg #[.int .i64 x, .int .i64 y]]).run Tryz.prog w3 = .ok (.tuple #[]) (setBlock w3 b (.map (es.eraseIdxIfInBounds k) clock)) := fun ty => by
          have hck := key_check es.isEmpty x y w3
          unfold keyV at hck hfind
          simp [Builtin.delete_, run_underlying Tryz.underlying132, MapKept.run_getObj_map hm3, hck, hfind, MapKept.run_setObj_map _ hm3, Result.andThen]
          rfl
        have hOs : Only [b] w3 (setBlock w3 b (.map (es.eraseIdxIfInBounds k) clock)) := (Only.refl _ _).setBlock (.inl (by simp)) _
        have hi4 := hOs.at hi3 (by simp; omega)
        have RN : Hid (Rng w b w.heap.size es0 clock t (es.eraseIdxIfInBounds k) (seen.push e.born) (setBlock w3 b (.map (es.eraseIdxIfInBounds k) clock))) := hR.out.drop HST.out HE12.out.1 HE12.out.2 (by rw [HAB.out, hyt]) (by
          have := erase_born es.toList k e hsteq.2 hk
          rw [← this]; simp) (heap_setBlock hm3 _) hi4 (ho3.trans hOs)
        have HS3 : Hid (seenN (setBlock w3 b (.map (es.eraseIdxIfInBounds k) clock)) w.heap.size = (seen.push e.born).size) := seenN_of hi4
        clear hO2 hO3 hO4 hm3 hi3 ho3 hs3 htW hfind hOs hi4 hk
        go_wp2_with fail
        go_roundw
        case rel => exact ⟨es.eraseIdxIfInBounds k, seen.push e.born, RN⟩
        case measure => rw [HS3.out, HSS.out.2]; have := HSS.out.1; simp; omega
end Go.Proofs.YtfpojgljgbgkkaaGreatDoor

/-
  The coordinator: decide.
-/
namespace Go.Proofs.YtfpojgljgbgkkaaGreatDoor
open Go.RowKit
open Go.ChangeMaps (setBlock)

attribute [local go_sem ↓] Go.wp_at_zero Go.wp_at_succ

set_option maxRecDepth 100000 in
set_option maxHeartbeats 2000000 in
theorem index_any (sb scap : Nat) (ss : List Int) (v : Int) (w : World) (hS : Head w sb 3 (intsV ss)) (hN : ss.length ≤ 100) :
    Calls Tryz.prog 132 #[.slice (some ⟨sb, 0, none⟩) ss.length scap, .int .i64 v] w fun e w' => ∃ i : Int, e = .returned (.int .i64 i) ∧ (0 ≤ i ↔ v ∈ ss) ∧ Only [] w w' := by
  have cint := cellsInt2
  go_enter Tryz.func132, Tryz.ntmps132
  go_wp2
  go_loopw [8] (fun i wr => ∃ j : Nat, j ≤ ss.length ∧ i = .int .i64 j ∧ Only [] w wr ∧ Hid (∀ i (h : i < j) (h2 : i < ss.length), ss[i] ≠ v)) (fun i _ => ss.length - (intOf i).toNat)
  case atStart => exact ⟨0, by omega, rfl, Only.refl _ _, fun i h => by omega⟩
  case round =>
    obtain ⟨j, hj, rfl, hO, hne⟩ := hrel
    by_cases hlt : j < ss.length
    · have hc : wr.cell? ⟨sb, j, none⟩ = some (.int .i64 ss[j]) := by
        rw [(hS.only hO (by simp)).cell j (by simp [intsV]; exact hlt)]; simp [intsV, hlt]
      have hix0 : (0 : Int) ≤ (j : Int) := by omega
      have hix1 : (j : Int) < (ss.length : Int) := by omega
      have HM : Hid (ss[j] ∈ ss) := List.getElem_mem hlt
      cases heq : (v == ss[j])
      · have hn' : ∀ i (h : i < j + 1) (h2 : i < ss.length), ss[i] ≠ v := by
          intro i h h2 e
          by_cases hij : i < j
          · exact hne.out i hij h2 e
          · have : i = j := by omega
            subst this
            rw [beq_eq_false_iff_ne] at heq
            exact heq e.symm
        have HN' : Hid (∀ i (h : i < j + 1) (h2 : i < ss.length), ss[i] ≠ v) := hn'
        clear hn' hne HM
        generalize ss[j] = x at *
        go_wp2_with fail
        go_roundw
        case rel => exact ⟨j + 1, by omega, by go_num, hO, HN'⟩
        case measure => simp [intOf]; omega
      · have HV : Hid (v ∈ ss) := by rw [beq_iff_eq.1 heq]; exact HM.out
        clear hne HM
        generalize ss[j] = x at *
        go_wp2_with fail
        go_ret
        exact ⟨(j : Int), rfl, ⟨fun _ => HV.out, fun _ => by omega⟩, hO⟩
    · obtain rfl : j = ss.length := by omega
      have HV : Hid (v ∉ ss) := fun hm => by
        obtain ⟨i, hi, he⟩ := List.getElem_of_mem hm
        exact hne.out i hi hi he
      go_wp2_with fail
      go_ret
      exact ⟨-1, rfl, ⟨fun h => by omega, fun h => absurd h HV.out⟩, hO⟩

set_option maxRecDepth 100000 in
set_option maxHeartbeats 2000000 in
theorem contains_any (sb scap : Nat) (ss : List Int) (v : Int) (w : World) (hS : Head w sb 3 (intsV ss)) (hN : ss.length ≤ 100) :
    Calls Tryz.prog 91 #[.slice (some ⟨sb, 0, none⟩) ss.length scap, .int .i64 v] w fun e w' => e = .returned (.bool (decide (v ∈ ss))) ∧ Only [] w w' := by
  go_enter Tryz.func91, Tryz.ntmps91
  go_wp2_with fail
  refine (index_any sb scap ss v w hS hN).mono ?_
  rintro e w2 ⟨i, rfl, hi, hO⟩
  by_cases h : 0 ≤ i
  · have hm := hi.1 h
    clear hi hS
    go_wp2_with fail
    go_ret
    exact ⟨by simp [hm], hO⟩
  · have hm : v ∉ ss := fun hm => h (hi.2 hm)
    clear hi hS
    go_wp2_with fail
    go_ret
    exact ⟨by simp [hm]; omega, hO⟩
end Go.Proofs.YtfpojgljgbgkkaaGreatDoor

/-
  The coordinator: decide.
-/
namespace Go.Proofs.YtfpojgljgbgkkaaGreatDoor
open Go.RowKit
open Go.ChangeMaps (setBlock)

attribute [local go_sem ↓] Go.wp_at_zero Go.wp_at_succ

theorem ownsRow_only {S : List Nat} {w w' : World} {base : Nat} {e : TypeId} {size n : Nat} {v : Value} {xs : List Value} (h : w.ownsRow base e size v n xs) (ho : Only S w w') (hS : ∀ k ∈ S, k < base) : w'.ownsRow base e size v n xs := by
  refine ⟨h.1, ?_⟩
  rcases h.2 with h2 | ⟨g, cap, cur, rfl, hb, hh, r⟩
  · exact .inl h2
  · exact .inr ⟨g, cap, cur, rfl, hb, ho.at hh (fun hm => by have := hS g hm; omega), r⟩
theorem chosen_in (b : Int → Bool) (N : Nat) : ∀ x ∈ chosen b N, ∃ i : Nat, i < N ∧ x = (i : Int) + 1 := by
  intro x hx
  have := (List.mem_filter.1 hx).1
  obtain ⟨i, hi, rfl⟩ := List.mem_map.1 this
  exact ⟨i, List.mem_range.1 hi, rfl⟩

/-- Decided: what is written; what is safe; who is waited for. -/
def CS.put (o t : Int) (c : CS) : CS := { c with text := c.text ++ recL (recOfI o) t, L := putI 0 t (recOfI o) c.L }
def CS.force (c : CS) : CS := { c with safe := (c.text.length : Int) }
def CS.forceIf (b : Bool) (c : CS) : CS := if b = true then c.force else c
def CS.clear (t : Int) (c : CS) : CS := { c with V := c.V.filter fun p => !(p.2 == t) }
def CS.dec (ss : List Int) (o t left : Int) (c : CS) : CS := (((c.put o t).forceIf (o == 4 || decide ((0 : Int) ∈ ss))).clear t).await ss o t (chosen (fun x => x != left) ss.length)

theorem coPut_any (p : CoP) (ss : List Int) (wait : Int) (c : CS) (o t : Int) (w : World) (hC : CoAt w p ss wait c) (hl : c.text.length ≤ 900000) (ht1 : 1 ≤ t) (ht2 : t ≤ 16383) :
    Calls Tryz.prog 92 #[.pointer (some ⟨p.nb, 0, none⟩), .int .i64 (recOfI o), .int .i64 t] w fun e w' => e = .returned (.tuple #[]) ∧ Only p.blocks w w' ∧ CoAt w' p ss wait (c.put o t) := by
  have hb := recOfI_bd o
  refine (baseWrite_any p.nb _ 0 c.safe c.text p.kn _ (toV c.L) (recOfI o) t w hC.node hC.known (by omega) hb.1 hb.2 ht1 ht2).mono ?_
  rintro e w4 ⟨rfl, ho4, hn4, hm4⟩
  rw [putL_int] at hm4
  obtain ⟨n1, n2, n3, n4, n5, n6⟩ := nodup_parts hC.apart
  have hsb := hC.sb_out
  simp only [CoP.blocks, List.mem_cons, List.not_mem_nil, or_false, not_or] at hsb
  exact ⟨rfl, ho4.mono (by simp [CoP.blocks]), hn4, hC.sorts.only ho4 (by simp [hsb]), hm4, hC.opens.only ho4 (by simp [hC.opens.ne hC.node, Ne.symm n1]), hC.votes.only ho4 (by simp [hC.votes.ne hC.node, Ne.symm n2]), hC.awaited.only ho4 (by simp [hC.awaited.ne hC.node, Ne.symm n3]), hC.apart⟩
theorem coForce_any (p : CoP) (ss : List Int) (wait : Int) (c : CS) (w : World) (hC : CoAt w p ss wait c) :
    Calls Tryz.prog 93 #[.pointer (some ⟨p.nb, 1, none⟩)] w fun e w' => e = .returned (.tuple #[]) ∧ Only p.blocks w w' ∧ CoAt w' p ss wait c.force := by
  obtain ⟨-, d1, d2, -, df⟩ := hC.node.cells
  refine (force_any p.nb c.text c.safe w d1 d2 (df 2)).mono ?_
  rintro e w' ⟨rfl, rfl⟩
  have ho : Only [p.nb] w (w.setCell ⟨p.nb, 2, none⟩ (.int .i64 (c.text.length : Int))) := (Only.refl _ _).setCell (.inl (by simp)) _
  have hsb := hC.sb_out
  simp only [CoP.blocks, List.mem_cons, List.not_mem_nil, or_false, not_or] at hsb
  exact ⟨rfl, ho.mono (by simp [CoP.blocks]), hC.node.setSafe _, hC.sorts.only ho (by simp [hsb]), hC.known.only ho (by simp [hC.known.ne hC.node]), hC.opens.only ho (by simp [hC.opens.ne hC.node]), hC.votes.only ho (by simp [hC.votes.ne hC.node]), hC.awaited.only ho (by simp [hC.awaited.ne hC.node]), hC.apart⟩
theorem coClear_any (p : CoP) (ss : List Int) (wait : Int) (c : CS) (tp : Addr) (t : Int) (w : World) (hC : CoAt w p ss wait c) (hnd : c.V.Nodup) (ht : w.cell? tp = some (.int .i64 t)) :
    Calls Tryz.prog 251 #[.map (some p.vm), .func (.func 252) #[] #[.pointer (some tp)]] w fun e w' => e = .returned (.tuple #[]) ∧ Only p.blocks w w' ∧ CoAt w' p ss wait (c.clear t) := by
  refine (deleteFunc_any p.vm c.V tp t w hC.votes hnd ht).mono ?_
  rintro e w' ⟨rfl, ho, hm⟩
  obtain ⟨n1, n2, n3, n4, n5, n6⟩ := nodup_parts hC.apart
  have hsb := hC.sb_out
  simp only [CoP.blocks, List.mem_cons, List.not_mem_nil, or_false, not_or] at hsb
  exact ⟨rfl, ho.mono (by simp [CoP.blocks]), hC.node.only ho (by simp [Ne.symm (hC.votes.ne hC.node)]), hC.sorts.only ho (by simp [hsb]), hC.known.only ho (by simp [n2]), hC.opens.only ho (by simp [n4]), hm, hC.awaited.only ho (by simp [Ne.symm n6]), hC.apart⟩

set_option maxRecDepth 100000 in
set_option maxHeartbeats 8000000 in
theorem decide_any (p : CoP) (ss : List Int) (wait : Int) (c : CS) (o t left : Int) (w : World) (hC : CoAt w p ss wait c) (hN : ss.length ≤ 100) (hl : c.text.length ≤ 900000) (hnd : c.V.Nodup) (ht1 : 1 ≤ t) (ht2 : t ≤ 16383) :
    Calls Tryz.prog 245 #[.pointer (some ⟨p.nb, 0, none⟩), .int .i64 o, .int .i64 t, .int .i64 left] w fun e w' => ∃ v, e = .returned v ∧ Only p.blocks w w' ∧ CoAt w' p ss wait (c.dec ss o t left) ∧ Sent2 w.heap.size w' v (toAll o t (chosen (fun x => x != left) ss.length)) := by
  have hO0 : Only [] w (w.alloc (.cells #[.int .i64 t] 3)) := (Only.refl _ _).alloc _
  have hC0 := hC.only0 hO0
  obtain ⟨c0, -⟩ := hC0.node.cells
  have ct : (w.alloc (.cells #[.int .i64 t] 3)).cell? ⟨w.heap.size, 0, none⟩ = some (.int .i64 t) := by simp
  have hbl : ∀ k ∈ p.blocks, k < w.heap.size := by
    obtain ⟨a1, b1, e1, -⟩ := hC.known
    obtain ⟨a2, b2, e2, -⟩ := hC.opens
    obtain ⟨a3, b3, e3, -⟩ := hC.votes
    obtain ⟨a4, b4, e4, -⟩ := hC.awaited
    have e0 := block_lt hC.node
    have f1 := block_lt e1
    have f2 := block_lt e2
    have f3 := block_lt e3
    have f4 := block_lt e4
    intro k hk
    simp only [CoP.blocks, List.mem_cons, List.not_mem_nil, or_false] at hk
    rcases hk with rfl | rfl | rfl | rfl | rfl <;> assumption
  have HBL : Hid (∀ k ∈ p.blocks, k < w.heap.size) := hbl
  have htb : w.heap.size ∉ p.blocks := fun hm => by have := hbl _ hm; omega
  have HC0 : Hid (CoAt (w.alloc (.cells #[.int .i64 t] 3)) p ss wait c) := hC0
  have HO0 : Hid (Only p.blocks w (w.alloc (.cells #[.int .i64 t] 3))) := hO0.mono (by simp)
  have hput : (c.put o t).text.length ≤ 1000000 := by
    have := recL_len (recOfI o) t
    simp only [CS.put, List.length_append]
    omega
  have HPUT : Hid ((c.put o t).text.length ≤ 1000000) := hput
  clear hC hO0 hC0 hbl hput
  have fin : ∀ (b : Bool) (w2 : World), (o == 4 || decide ((0 : Int) ∈ ss)) = b → Only p.blocks (w.alloc (.cells #[.int .i64 t] 3)) w2 → CoAt w2 p ss wait ((c.put o t).forceIf b) → w2.cell? ⟨w.heap.size, 0, none⟩ = some (.int .i64 t) := fun b w2 _ ho _ => ho.cell ct htb
  have FIN : Hid _ := fin
  clear fin
  cases ho4 : (o == 4)
  · cases h0 : (decide ((0 : Int) ∈ ss))
    · go_enter Tryz.func245, Tryz.ntmps245
      go_wp2_with fail
      refine wp_region_held_drew (S := fun w' => w'.cell? ⟨w.heap.size, 0, none⟩ = some (.int .i64 t)) (by kernel_rfl) ct (fun hHeld => ?_)
      refine takeD 0 10 (.pointer (some ⟨p.nb, 0, none⟩)) rfl rfl (by kernel_rfl) (by kernel_rfl) (by kernel_rfl) (fun _ _ _ h => h) (Or.inl ⟨by kernel_rfl, ?_⟩) (by assumption) ?_
      · intro w hSw; go_simp
      simp only [List.setIfInBounds_toArray, List.set_cons_zero, List.set_cons_succ]
      refine takeD 1 11 (.pointer (some ⟨p.nb, 0, none⟩)) rfl rfl (by kernel_rfl) (by kernel_rfl) (by kernel_rfl) (fun _ _ _ h => h) (Or.inl ⟨by kernel_rfl, ?_⟩) (by assumption) ?_
      · intro w hSw; go_simp
      simp only [List.setIfInBounds_toArray, List.set_cons_zero, List.set_cons_succ]
      refine takeD 2 12 (.pointer (some ⟨p.nb, 0, none⟩)) rfl rfl (by kernel_rfl) (by kernel_rfl) (by kernel_rfl) (fun _ _ _ h => h) (Or.inl ⟨by kernel_rfl, ?_⟩) (by assumption) ?_
      · intro w hSw; go_simp
      simp only [List.setIfInBounds_toArray, List.set_cons_zero, List.set_cons_succ]
      refine takeD 3 13 (.int .i64 o) rfl rfl (by kernel_rfl) (by kernel_rfl) (by kernel_rfl) (fun _ _ _ h => h) (Or.inl ⟨by kernel_rfl, ?_⟩) (by assumption) ?_
      · intro w hSw; go_simp
      simp only [List.setIfInBounds_toArray, List.set_cons_zero, List.set_cons_succ]
      refine takeD 5 15 (.int .i64 t) rfl rfl (by kernel_rfl) (by kernel_rfl) (by kernel_rfl) (fun _ _ _ h => h) (Or.inl ⟨by kernel_rfl, ?_⟩) (by assumption) ?_
      · intro w hSw; go_simp
      simp only [List.setIfInBounds_toArray, List.set_cons_zero, List.set_cons_succ]
      refine wpAnyH_ready (rs := [4]) (by kernel_rfl) (by simp) ?_
      refine (AllReadyH.cons rfl (fun K hK => ?_) AllReadyH.nil)
      go_simp
      refine (recordOf_any o _).mono ?_
      rintro e w2 ⟨rfl, rfl⟩
      go_wp2_with fail
      refine hK.out _ _ ct (fun hHeld => ?_)
      clear hK K
      refine wpAnyH_ready (rs := [6]) (by kernel_rfl) (by simp) ?_
      refine (AllReadyH.cons rfl (fun K hK => ?_) AllReadyH.nil)
      go_simp
      refine (coPut_any p ss wait c o t _ (HC0.out.only0 (Only.refl _ _).drew) hl ht1 ht2).mono ?_
      rintro e w3 ⟨rfl, hO3, hC3⟩
      have hO3' : Only p.blocks (w.alloc (.cells #[.int .i64 t] 3)) w3 := (Only.refl _ _).drew.trans hO3
      have ct3 := hO3'.cell ct htb
      have HO3 : Hid (Only p.blocks (w.alloc (.cells #[.int .i64 t] 3)) w3) := hO3'
      have HC3 : Hid (CoAt w3 p ss wait (c.put o t)) := hC3
      obtain ⟨d4, -⟩ := hC3.cells
      clear hO3 hO3' hC3
      go_wp2_with fail
      refine hK.out _ _ ct3 (fun hHeld => ?_)
      clear hK K
      refine wpAnyH_done (by kernel_rfl) ?_ _
      go_wp2_with fail
      refine (contains_any p.sb p.scap ss 0 w3 HC3.out.sorts hN).mono ?_
      rintro e w4 ⟨rfl, hO4⟩
      rw [h0]
      have HO4 : Hid (Only p.blocks (w.alloc (.cells #[.int .i64 t] 3)) w4) := HO3.out.trans (hO4.mono (by simp))
      have HC4 : Hid (CoAt w4 p ss wait (c.put o t)) := HC3.out.only0 hO4
      clear hO4
      have HO5 := HO4
      have HC5 : Hid (CoAt w4 p ss wait ((c.put o t).forceIf false)) := HC4
      have HD : Hid (c.dec ss o t left = (((c.put o t).forceIf false).clear t).await ss o t (chosen (fun x => x != left) ss.length)) := by show _ = _; simp [CS.dec, ho4, of_decide_eq_false h0]
      have HT5 : Hid (((c.put o t).forceIf false).text.length ≤ 1000000 ∧ ((c.put o t).forceIf false).V = c.V) := ⟨HPUT.out, rfl⟩
      have ct5 := HO5.out.cell ct htb
      obtain ⟨-, -, -, f7, -⟩ := HC5.out.cells
      generalize (c.put o t).forceIf false = c5 at *
      go_wp2_with fail
      refine (coClear_any p ss wait c5 ⟨w.heap.size, 0, none⟩ t w4 HC5.out (by rw [HT5.out.2]; exact hnd) ct5).mono ?_
      rintro e w6 ⟨rfl, hO6, hC6⟩
      have HO6 : Hid (Only p.blocks (w.alloc (.cells #[.int .i64 t] 3)) w6) := HO5.out.trans hO6
      have HC6 : Hid (CoAt w6 p ss wait (c5.clear t)) := hC6
      have ct6 := HO6.out.cell ct htb
      clear hO6 hC6 f7
      go_wp2_with fail
      refine (allBut_any p ss wait (c5.clear t) left w6 HC6.out hN).mono ?_
      rintro e w7 ⟨tv, rfl, hO7, hv7⟩
      have HV7 : Hid (Nums2 w6.heap.size w7 tv (chosen (fun x => x != left) ss.length)) := hv7
      have HO7 : Hid (Only p.blocks (w.alloc (.cells #[.int .i64 t] 3)) w7) := HO6.out.trans (hO7.mono (by simp))
      have HC7 : Hid (CoAt w7 p ss wait (c5.clear t)) := HC6.out.only0 hO7
      have ct7 := HO7.out.cell ct htb
      have hz6 : w.heap.size < w6.heap.size := by have := HO6.out.size; simp at this; omega
      have hcl := chosen_len (fun x => x != left) ss.length
      clear hO7 hv7
      go_wp2_with fail
      refine (await_any p ss wait (c5.clear t) o t w6.heap.size tv (chosen (fun x => x != left) ss.length) w7 HC7.out HV7.out (by omega) (chosen_in _ _) hN HT5.out.1 ht1 ht2).mono ?_
      rintro e w8 ⟨rfl, hO8, hC8⟩
      have hO8b : Only p.blocks w7 w8 := hO8.mono (by simp [CoP.blocks])
      have HV8 : Hid (Nums2 w6.heap.size w8 tv (chosen (fun x => x != left) ss.length)) := ownsRow_only HV7.out hO8b (fun k hk => by have := HBL.out k hk; omega)
      have HO8 : Hid (Only p.blocks (w.alloc (.cells #[.int .i64 t] 3)) w8) := HO7.out.trans hO8b
      have HC8 : Hid (CoAt w8 p ss wait ((c5.clear t).await ss o t (chosen (fun x => x != left) ss.length))) := hC8
      have ct8 := HO8.out.cell ct htb
      have hz8 : w.heap.size ≤ w8.heap.size := by have := HO8.out.size; simp at this; omega
      clear hO8 hO8b hC8
      go_wp2_with fail
      refine (tell_any p ss wait _ o t w6.heap.size tv (chosen (fun x => x != left) ss.length) w8 HC8.out HV8.out (by omega)).mono ?_
      rintro e w9 ⟨v, rfl, hO9, hs9⟩
      have R : Hid (Only p.blocks w w9 ∧ CoAt w9 p ss wait (c.dec ss o t left) ∧ Sent2 w.heap.size w9 v (toAll o t (chosen (fun x => x != left) ss.length))) := ⟨HO0.out.trans (HO8.out.trans (hO9.mono (by simp))), by rw [HD.out]; exact HC8.out.only0 hO9, ownsRow_base hs9 hz8⟩
      clear hO9 hs9
      go_wp2_with fail
      go_ret
      exact ⟨v, rfl, R.out⟩
    · go_enter Tryz.func245, Tryz.ntmps245
      go_wp2_with fail
      refine wp_region_held_drew (S := fun w' => w'.cell? ⟨w.heap.size, 0, none⟩ = some (.int .i64 t)) (by kernel_rfl) ct (fun hHeld => ?_)
      refine takeD 0 10 (.pointer (some ⟨p.nb, 0, none⟩)) rfl rfl (by kernel_rfl) (by kernel_rfl) (by kernel_rfl) (fun _ _ _ h => h) (Or.inl ⟨by kernel_rfl, ?_⟩) (by assumption) ?_
      · intro w hSw; go_simp
      simp only [List.setIfInBounds_toArray, List.set_cons_zero, List.set_cons_succ]
      refine takeD 1 11 (.pointer (some ⟨p.nb, 0, none⟩)) rfl rfl (by kernel_rfl) (by kernel_rfl) (by kernel_rfl) (fun _ _ _ h => h) (Or.inl ⟨by kernel_rfl, ?_⟩) (by assumption) ?_
      · intro w hSw; go_simp
      simp only [List.setIfInBounds_toArray, List.set_cons_zero, List.set_cons_succ]
      refine takeD 2 12 (.pointer (some ⟨p.nb, 0, none⟩)) rfl rfl (by kernel_rfl) (by kernel_rfl) (by kernel_rfl) (fun _ _ _ h => h) (Or.inl ⟨by kernel_rfl, ?_⟩) (by assumption) ?_
      · intro w hSw; go_simp
      simp only [List.setIfInBounds_toArray, List.set_cons_zero, List.set_cons_succ]
      refine takeD 3 13 (.int .i64 o) rfl rfl (by kernel_rfl) (by kernel_rfl) (by kernel_rfl) (fun _ _ _ h => h) (Or.inl ⟨by kernel_rfl, ?_⟩) (by assumption) ?_
      · intro w hSw; go_simp
      simp only [List.setIfInBounds_toArray, List.set_cons_zero, List.set_cons_succ]
      refine takeD 5 15 (.int .i64 t) rfl rfl (by kernel_rfl) (by kernel_rfl) (by kernel_rfl) (fun _ _ _ h => h) (Or.inl ⟨by kernel_rfl, ?_⟩) (by assumption) ?_
      · intro w hSw; go_simp
      simp only [List.setIfInBounds_toArray, List.set_cons_zero, List.set_cons_succ]
      refine wpAnyH_ready (rs := [4]) (by kernel_rfl) (by simp) ?_
      refine (AllReadyH.cons rfl (fun K hK => ?_) AllReadyH.nil)
      go_simp
      refine (recordOf_any o _).mono ?_
      rintro e w2 ⟨rfl, rfl⟩
      go_wp2_with fail
      refine hK.out _ _ ct (fun hHeld => ?_)
      clear hK K
      refine wpAnyH_ready (rs := [6]) (by kernel_rfl) (by simp) ?_
      refine (AllReadyH.cons rfl (fun K hK => ?_) AllReadyH.nil)
      go_simp
      refine (coPut_any p ss wait c o t _ (HC0.out.only0 (Only.refl _ _).drew) hl ht1 ht2).mono ?_
      rintro e w3 ⟨rfl, hO3, hC3⟩
      have hO3' : Only p.blocks (w.alloc (.cells #[.int .i64 t] 3)) w3 := (Only.refl _ _).drew.trans hO3
      have ct3 := hO3'.cell ct htb
      have HO3 : Hid (Only p.blocks (w.alloc (.cells #[.int .i64 t] 3)) w3) := hO3'
      have HC3 : Hid (CoAt w3 p ss wait (c.put o t)) := hC3
      obtain ⟨d4, -⟩ := hC3.cells
      clear hO3 hO3' hC3
      go_wp2_with fail
      refine hK.out _ _ ct3 (fun hHeld => ?_)
      clear hK K
      refine wpAnyH_done (by kernel_rfl) ?_ _
      go_wp2_with fail
      refine (contains_any p.sb p.scap ss 0 w3 HC3.out.sorts hN).mono ?_
      rintro e w4 ⟨rfl, hO4⟩
      rw [h0]
      have HO4 : Hid (Only p.blocks (w.alloc (.cells #[.int .i64 t] 3)) w4) := HO3.out.trans (hO4.mono (by simp))
      have HC4 : Hid (CoAt w4 p ss wait (c.put o t)) := HC3.out.only0 hO4
      clear hO4
      go_wp2_with fail
      refine (coForce_any p ss wait (c.put o t) w4 HC4.out).mono ?_
      rintro e w5 ⟨rfl, hO5, hC5⟩
      have HO5 : Hid (Only p.blocks (w.alloc (.cells #[.int .i64 t] 3)) w5) := HO4.out.trans hO5
      have HC5 : Hid (CoAt w5 p ss wait ((c.put o t).forceIf true)) := hC5
      clear hO5 hC5
      have HD : Hid (c.dec ss o t left = (((c.put o t).forceIf true).clear t).await ss o t (chosen (fun x => x != left) ss.length)) := by show _ = _; simp [CS.dec, ho4, of_decide_eq_true h0]
      have HT5 : Hid (((c.put o t).forceIf true).text.length ≤ 1000000 ∧ ((c.put o t).forceIf true).V = c.V) := ⟨HPUT.out, rfl⟩
      have ct5 := HO5.out.cell ct htb
      obtain ⟨-, -, -, f7, -⟩ := HC5.out.cells
      generalize (c.put o t).forceIf true = c5 at *
      go_wp2_with fail
      refine (coClear_any p ss wait c5 ⟨w.heap.size, 0, none⟩ t w5 HC5.out (by rw [HT5.out.2]; exact hnd) ct5).mono ?_
      rintro e w6 ⟨rfl, hO6, hC6⟩
      have HO6 : Hid (Only p.blocks (w.alloc (.cells #[.int .i64 t] 3)) w6) := HO5.out.trans hO6
      have HC6 : Hid (CoAt w6 p ss wait (c5.clear t)) := hC6
      have ct6 := HO6.out.cell ct htb
      clear hO6 hC6 f7
      go_wp2_with fail
      refine (allBut_any p ss wait (c5.clear t) left w6 HC6.out hN).mono ?_
      rintro e w7 ⟨tv, rfl, hO7, hv7⟩
      have HV7 : Hid (Nums2 w6.heap.size w7 tv (chosen (fun x => x != left) ss.length)) := hv7
      have HO7 : Hid (Only p.blocks (w.alloc (.cells #[.int .i64 t] 3)) w7) := HO6.out.trans (hO7.mono (by simp))
      have HC7 : Hid (CoAt w7 p ss wait (c5.clear t)) := HC6.out.only0 hO7
      have ct7 := HO7.out.cell ct htb
      have hz6 : w.heap.size < w6.heap.size := by have := HO6.out.size; simp at this; omega
      have hcl := chosen_len (fun x => x != left) ss.length
      clear hO7 hv7
      go_wp2_with fail
      refine (await_any p ss wait (c5.clear t) o t w6.heap.size tv (chosen (fun x => x != left) ss.length) w7 HC7.out HV7.out (by omega) (chosen_in _ _) hN HT5.out.1 ht1 ht2).mono ?_
      rintro e w8 ⟨rfl, hO8, hC8⟩
      have hO8b : Only p.blocks w7 w8 := hO8.mono (by simp [CoP.blocks])
      have HV8 : Hid (Nums2 w6.heap.size w8 tv (chosen (fun x => x != left) ss.length)) := ownsRow_only HV7.out hO8b (fun k hk => by have := HBL.out k hk; omega)
      have HO8 : Hid (Only p.blocks (w.alloc (.cells #[.int .i64 t] 3)) w8) := HO7.out.trans hO8b
      have HC8 : Hid (CoAt w8 p ss wait ((c5.clear t).await ss o t (chosen (fun x => x != left) ss.length))) := hC8
      have ct8 := HO8.out.cell ct htb
      have hz8 : w.heap.size ≤ w8.heap.size := by have := HO8.out.size; simp at this; omega
      clear hO8 hO8b hC8
      go_wp2_with fail
      refine (tell_any p ss wait _ o t w6.heap.size tv (chosen (fun x => x != left) ss.length) w8 HC8.out HV8.out (by omega)).mono ?_
      rintro e w9 ⟨v, rfl, hO9, hs9⟩
      have R : Hid (Only p.blocks w w9 ∧ CoAt w9 p ss wait (c.dec ss o t left) ∧ Sent2 w.heap.size w9 v (toAll o t (chosen (fun x => x != left) ss.length))) := ⟨HO0.out.trans (HO8.out.trans (hO9.mono (by simp))), by rw [HD.out]; exact HC8.out.only0 hO9, ownsRow_base hs9 hz8⟩
      clear hO9 hs9
      go_wp2_with fail
      go_ret
      exact ⟨v, rfl, R.out⟩
  · go_enter Tryz.func245, Tryz.ntmps245
    go_wp2_with fail
    refine wp_region_held_drew (S := fun w' => w'.cell? ⟨w.heap.size, 0, none⟩ = some (.int .i64 t)) (by kernel_rfl) ct (fun hHeld => ?_)
    refine takeD 0 10 (.pointer (some ⟨p.nb, 0, none⟩)) rfl rfl (by kernel_rfl) (by kernel_rfl) (by kernel_rfl) (fun _ _ _ h => h) (Or.inl ⟨by kernel_rfl, ?_⟩) (by assumption) ?_
    · intro w hSw; go_simp
    simp only [List.setIfInBounds_toArray, List.set_cons_zero, List.set_cons_succ]
    refine takeD 1 11 (.pointer (some ⟨p.nb, 0, none⟩)) rfl rfl (by kernel_rfl) (by kernel_rfl) (by kernel_rfl) (fun _ _ _ h => h) (Or.inl ⟨by kernel_rfl, ?_⟩) (by assumption) ?_
    · intro w hSw; go_simp
    simp only [List.setIfInBounds_toArray, List.set_cons_zero, List.set_cons_succ]
    refine takeD 2 12 (.pointer (some ⟨p.nb, 0, none⟩)) rfl rfl (by kernel_rfl) (by kernel_rfl) (by kernel_rfl) (fun _ _ _ h => h) (Or.inl ⟨by kernel_rfl, ?_⟩) (by assumption) ?_
    · intro w hSw; go_simp
    simp only [List.setIfInBounds_toArray, List.set_cons_zero, List.set_cons_succ]
    refine takeD 3 13 (.int .i64 o) rfl rfl (by kernel_rfl) (by kernel_rfl) (by kernel_rfl) (fun _ _ _ h => h) (Or.inl ⟨by kernel_rfl, ?_⟩) (by assumption) ?_
    · intro w hSw; go_simp
    simp only [List.setIfInBounds_toArray, List.set_cons_zero, List.set_cons_succ]
    refine takeD 5 15 (.int .i64 t) rfl rfl (by kernel_rfl) (by kernel_rfl) (by kernel_rfl) (fun _ _ _ h => h) (Or.inl ⟨by kernel_rfl, ?_⟩) (by assumption) ?_
    · intro w hSw; go_simp
    simp only [List.setIfInBounds_toArray, List.set_cons_zero, List.set_cons_succ]
    refine wpAnyH_ready (rs := [4]) (by kernel_rfl) (by simp) ?_
    refine (AllReadyH.cons rfl (fun K hK => ?_) AllReadyH.nil)
    go_simp
    refine (recordOf_any o _).mono ?_
    rintro e w2 ⟨rfl, rfl⟩
    go_wp2_with fail
    refine hK.out _ _ ct (fun hHeld => ?_)
    clear hK K
    refine wpAnyH_ready (rs := [6]) (by kernel_rfl) (by simp) ?_
    refine (AllReadyH.cons rfl (fun K hK => ?_) AllReadyH.nil)
    go_simp
    refine (coPut_any p ss wait c o t _ (HC0.out.only0 (Only.refl _ _).drew) hl ht1 ht2).mono ?_
    rintro e w3 ⟨rfl, hO3, hC3⟩
    have hO3' : Only p.blocks (w.alloc (.cells #[.int .i64 t] 3)) w3 := (Only.refl _ _).drew.trans hO3
    have ct3 := hO3'.cell ct htb
    have HO3 : Hid (Only p.blocks (w.alloc (.cells #[.int .i64 t] 3)) w3) := hO3'
    have HC3 : Hid (CoAt w3 p ss wait (c.put o t)) := hC3
    obtain ⟨d4, -⟩ := hC3.cells
    clear hO3 hO3' hC3
    go_wp2_with fail
    refine hK.out _ _ ct3 (fun hHeld => ?_)
    clear hK K
    refine wpAnyH_done (by kernel_rfl) ?_ _
    go_wp2_with fail
    have HO4 := HO3
    have HC4 := HC3
    refine (coForce_any p ss wait (c.put o t) w3 HC4.out).mono ?_
    rintro e w5 ⟨rfl, hO5, hC5⟩
    have HO5 : Hid (Only p.blocks (w.alloc (.cells #[.int .i64 t] 3)) w5) := HO4.out.trans hO5
    have HC5 : Hid (CoAt w5 p ss wait ((c.put o t).forceIf true)) := hC5
    clear hO5 hC5
    have HD : Hid (c.dec ss o t left = (((c.put o t).forceIf true).clear t).await ss o t (chosen (fun x => x != left) ss.length)) := by show _ = _; simp [CS.dec, ho4]
    have HT5 : Hid (((c.put o t).forceIf true).text.length ≤ 1000000 ∧ ((c.put o t).forceIf true).V = c.V) := ⟨HPUT.out, rfl⟩
    have ct5 := HO5.out.cell ct htb
    obtain ⟨-, -, -, f7, -⟩ := HC5.out.cells
    generalize (c.put o t).forceIf true = c5 at *
    go_wp2_with fail
    refine (coClear_any p ss wait c5 ⟨w.heap.size, 0, none⟩ t w5 HC5.out (by rw [HT5.out.2]; exact hnd) ct5).mono ?_
    rintro e w6 ⟨rfl, hO6, hC6⟩
    have HO6 : Hid (Only p.blocks (w.alloc (.cells #[.int .i64 t] 3)) w6) := HO5.out.trans hO6
    have HC6 : Hid (CoAt w6 p ss wait (c5.clear t)) := hC6
    have ct6 := HO6.out.cell ct htb
    clear hO6 hC6 f7
    go_wp2_with fail
    refine (allBut_any p ss wait (c5.clear t) left w6 HC6.out hN).mono ?_
    rintro e w7 ⟨tv, rfl, hO7, hv7⟩
    have HV7 : Hid (Nums2 w6.heap.size w7 tv (chosen (fun x => x != left) ss.length)) := hv7
    have HO7 : Hid (Only p.blocks (w.alloc (.cells #[.int .i64 t] 3)) w7) := HO6.out.trans (hO7.mono (by simp))
    have HC7 : Hid (CoAt w7 p ss wait (c5.clear t)) := HC6.out.only0 hO7
    have ct7 := HO7.out.cell ct htb
    have hz6 : w.heap.size < w6.heap.size := by have := HO6.out.size; simp at this; omega
    have hcl := chosen_len (fun x => x != left) ss.length
    clear hO7 hv7
    go_wp2_with fail
    refine (await_any p ss wait (c5.clear t) o t w6.heap.size tv (chosen (fun x => x != left) ss.length) w7 HC7.out HV7.out (by omega) (chosen_in _ _) hN HT5.out.1 ht1 ht2).mono ?_
    rintro e w8 ⟨rfl, hO8, hC8⟩
    have hO8b : Only p.blocks w7 w8 := hO8.mono (by simp [CoP.blocks])
    have HV8 : Hid (Nums2 w6.heap.size w8 tv (chosen (fun x => x != left) ss.length)) := ownsRow_only HV7.out hO8b (fun k hk => by have := HBL.out k hk; omega)
    have HO8 : Hid (Only p.blocks (w.alloc (.cells #[.int .i64 t] 3)) w8) := HO7.out.trans hO8b
    have HC8 : Hid (CoAt w8 p ss wait ((c5.clear t).await ss o t (chosen (fun x => x != left) ss.length))) := hC8
    have ct8 := HO8.out.cell ct htb
    have hz8 : w.heap.size ≤ w8.heap.size := by have := HO8.out.size; simp at this; omega
    clear hO8 hO8b hC8
    go_wp2_with fail
    refine (tell_any p ss wait _ o t w6.heap.size tv (chosen (fun x => x != left) ss.length) w8 HC8.out HV8.out (by omega)).mono ?_
    rintro e w9 ⟨v, rfl, hO9, hs9⟩
    have R : Hid (Only p.blocks w w9 ∧ CoAt w9 p ss wait (c.dec ss o t left) ∧ Sent2 w.heap.size w9 v (toAll o t (chosen (fun x => x != left) ss.length))) := ⟨HO0.out.trans (HO8.out.trans (hO9.mono (by simp))), by rw [HD.out]; exact HC8.out.only0 hO9, ownsRow_base hs9 hz8⟩
    clear hO9 hs9
    go_wp2_with fail
    go_ret
    exact ⟨v, rfl, R.out⟩
end Go.Proofs.YtfpojgljgbgkkaaGreatDoor
