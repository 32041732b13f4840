import Derived.Test.YtfpojgljgbgkkaaGreatDoorPG
import Derived.BigQuiet
/-
  The coordinator: takeYes, takeNo.
-/
namespace Go.Proofs.YtfpojgljgbgkkaaGreatDoor
open Go.RowKit
open Go.ChangeMaps (setBlock)

theorem addS_nodup (x y : Int) (S : List (Int × Int)) (h : S.Nodup) : (addS x y S).Nodup := by
  unfold addS
  split
  · exact h
  · rename_i hm
    rw [List.nodup_append]
    refine ⟨h, by simp, fun a ha b hb => ?_⟩
    simp only [List.mem_singleton] at hb
    subst hb
    exact fun e => hm (e ▸ ha)

theorem Sent2.base {B B' : Nat} {w : World} {v : Value} {ms : List (Int × Int × Int × Int)} (h : Sent2 B w v ms) (hb : B' ≤ B) : Sent2 B' w v ms := ownsRow_base h hb

def CS.vote (f t : Int) (c : CS) : CS := { c with V := addS f t c.V }
def CS.all (N : Nat) (t : Int) (c : CS) : Bool := (chosen (fun x => !Decidable.decide ((x, t) ∈ c.V)) N).length == 0
def CS.yes (ss : List Int) (f t : Int) (c : CS) : CS := if c.coll t = true then (if (c.vote f t).all ss.length t = true then (c.vote f t).dec ss 4 t 0 else c.vote f t) else c
def CS.yesM (ss : List Int) (f t : Int) (c : CS) : List (Int × Int × Int × Int) := if c.coll t = true then (if (c.vote f t).all ss.length t = true then toAll 4 t (chosen (fun x => x != 0) ss.length) else []) else []
def CS.no (ss : List Int) (f t : Int) (c : CS) : CS := if c.coll t = true then c.dec ss 5 t f else c
def CS.noM (ss : List Int) (f t : Int) (c : CS) : List (Int × Int × Int × Int) := if c.coll t = true then toAll 5 t (chosen (fun x => x != f) ss.length) else []

set_option maxRecDepth 100000 in
set_option maxHeartbeats 4000000 in
theorem takeNo_any (p : CoP) (ss : List Int) (wait : Int) (c : CS) (f t : Int) (w : World) (hC : CoAt w p ss wait c) (hN : ss.length ≤ 100) (hl : c.text.length ≤ 900000) (hnd : c.V.Nodup) (ht1 : 1 ≤ t) (ht2 : t ≤ 16383) :
    Calls Tryz.prog 235 #[.pointer (some ⟨p.nb, 0, none⟩), .int .i64 f, .int .i64 t] w fun e w' => ∃ v, e = .returned v ∧ Only p.blocks w w' ∧ CoAt w' p ss wait (c.no ss f t) ∧ Sent2 w.heap.size w' v (c.noM ss f t) := by
  have HC : Hid (CoAt w p ss wait c) := hC
  clear hC
  go_enter Tryz.func235, Tryz.ntmps235
  go_wp2_with fail
  refine (isCollecting_any p ss wait c t w HC.out).mono ?_
  rintro e w1 ⟨rfl, hO1⟩
  have HC1 : Hid (CoAt w1 p ss wait c) := HC.out.only0 hO1
  have HO1 : Hid (Only p.blocks w w1) := hO1.mono (by simp)
  have hz1 := hO1.size
  clear hO1
  cases hcl : c.coll t
  · go_wp2_with fail
    go_ret
    exact ⟨_, rfl, HO1.out, by simpa [CS.no, hcl] using HC1.out, by simpa [CS.noM, hcl] using sent_none _ _⟩
  · go_wp2_with fail
    refine (decide_any p ss wait c 5 t f w1 HC1.out hN hl hnd ht1 ht2).mono ?_
    rintro e w2 ⟨v, rfl, hO2, hC2, hs2⟩
    have R : Hid (Only p.blocks w w2 ∧ CoAt w2 p ss wait (c.no ss f t) ∧ Sent2 w.heap.size w2 v (c.noM ss f t)) := ⟨HO1.out.trans hO2, by simpa [CS.no, hcl] using hC2, by simpa [CS.noM, hcl] using Sent2.base hs2 hz1⟩
    clear hO2 hC2 hs2
    go_wp2_with fail
    go_ret
    exact ⟨v, rfl, R.out⟩

set_option maxRecDepth 100000 in
set_option maxHeartbeats 4000000 in
theorem takeYes_any (p : CoP) (ss : List Int) (wait : Int) (c : CS) (f t : Int) (w : World) (hC : CoAt w p ss wait c) (hN : ss.length ≤ 100) (hl : c.text.length ≤ 900000) (hnd : c.V.Nodup) (ht1 : 1 ≤ t) (ht2 : t ≤ 16383) :
    Calls Tryz.prog 234 #[.pointer (some ⟨p.nb, 0, none⟩), .int .i64 f, .int .i64 t] w fun e w' => ∃ v, e = .returned v ∧ Only p.blocks w w' ∧ CoAt w' p ss wait (c.yes ss f t) ∧ Sent2 w.heap.size w' v (c.yesM ss f t) := by
  have HC : Hid (CoAt w p ss wait c) := hC
  clear hC
  go_enter Tryz.func234, Tryz.ntmps234
  go_wp2_with fail
  refine (isCollecting_any p ss wait c t w HC.out).mono ?_
  rintro e w1 ⟨rfl, hO1⟩
  have HC1 : Hid (CoAt w1 p ss wait c) := HC.out.only0 hO1
  have HO1 : Hid (Only p.blocks w w1) := hO1.mono (by simp)
  have hz1 := hO1.size
  clear hO1
  cases hcl : c.coll t
  · go_wp2_with fail
    go_ret
    exact ⟨_, rfl, HO1.out, by simpa [CS.yes, hcl] using HC1.out, by simpa [CS.yesM, hcl] using sent_none _ _⟩
  · obtain ⟨-, -, -, c7, -⟩ := HC1.out.cells
    go_wp2_with fail
    refine (add_any p.vm c.V f t w1 HC1.out.votes).mono ?_
    rintro e w2 ⟨rfl, hO2, hM2⟩
    have hC2 : CoAt w2 p ss wait (c.vote f t) := by
      have h := HC1.out
      obtain ⟨n1, n2, n3, n4, n5, n6⟩ := nodup_parts h.apart
      have hsb := h.sb_out
      simp only [CoP.blocks, List.mem_cons, List.not_mem_nil, or_false, not_or] at hsb
      exact ⟨h.node.only hO2 (by simp [Ne.symm (h.votes.ne h.node)]), h.sorts.only hO2 (by simp [hsb]), h.known.only hO2 (by simp [n2]), h.opens.only hO2 (by simp [n4]), hM2, h.awaited.only hO2 (by simp [Ne.symm n6]), h.apart⟩
    have HC2 : Hid (CoAt w2 p ss wait (c.vote f t)) := hC2
    have HO2 : Hid (Only p.blocks w w2) := HO1.out.trans (hO2.mono (by simp [CoP.blocks]))
    have hz2 : w.heap.size ≤ w2.heap.size := HO2.out.size
    have HND : Hid ((c.vote f t).V.Nodup) := addS_nodup f t c.V hnd
    clear hO2 hM2 hC2 c7
    go_wp2_with fail
    refine (silent_any p ss wait (c.vote f t) t w2 HC2.out hN).mono ?_
    rintro e w3 ⟨v, rfl, hO3, hv⟩
    obtain ⟨q, cap, rfl⟩ : ∃ q cap, v = .slice q (chosen (fun x => !Decidable.decide ((x, t) ∈ (c.vote f t).V)) ss.length).length cap := by
      rcases hv.2 with ⟨rfl, h0⟩ | ⟨g, cap, cur, rfl, _⟩
      · rw [h0]; exact ⟨_, _, rfl⟩
      · exact ⟨_, _, rfl⟩
    have HC3 : Hid (CoAt w3 p ss wait (c.vote f t)) := HC2.out.only0 hO3
    have HO3 : Hid (Only p.blocks w w3) := HO2.out.trans (hO3.mono (by simp))
    have hz3 : w.heap.size ≤ w3.heap.size := HO3.out.size
    have HA : Hid ((c.vote f t).all ss.length t = ((chosen (fun x => !Decidable.decide ((x, t) ∈ (c.vote f t).V)) ss.length).length == 0)) := rfl
    clear hO3 hv
    generalize (chosen (fun x => !Decidable.decide ((x, t) ∈ (c.vote f t).V)) ss.length).length = m at *
    by_cases hm : m = 0
    · subst hm
      have ha : (c.vote f t).all ss.length t = true := HA.out
      have HA' : Hid ((c.vote f t).all ss.length t = true) := ha
      clear HA ha
      go_wp2_with fail
      refine (decide_any p ss wait (c.vote f t) 4 t 0 w3 HC3.out hN hl HND.out ht1 ht2).mono ?_
      rintro e w4 ⟨v, rfl, hO4, hC4, hs4⟩
      have R : Hid (Only p.blocks w w4 ∧ CoAt w4 p ss wait (c.yes ss f t) ∧ Sent2 w.heap.size w4 v (c.yesM ss f t)) := ⟨HO3.out.trans hO4, by simpa [CS.yes, hcl, HA'.out] using hC4, by simpa [CS.yesM, hcl, HA'.out] using Sent2.base hs4 hz3⟩
      clear hO4 hC4 hs4
      go_wp2_with fail
      go_ret
      exact ⟨v, rfl, R.out⟩
    · have hgt : (0 : Int) < (m : Int) := by omega
      have HA' : Hid ((c.vote f t).all ss.length t = false) := by show _ = _; rw [HA.out]; simpa using hm
      clear HA
      go_wp2_with fail
      go_ret
      exact ⟨_, rfl, HO3.out, by simpa [CS.yes, hcl, HA'.out] using HC3.out, by simpa [CS.yesM, hcl, HA'.out] using sent_none _ _⟩
end Go.Proofs.YtfpojgljgbgkkaaGreatDoor

/-
  The coordinator: takeAck.
-/
namespace Go.Proofs.YtfpojgljgbgkkaaGreatDoor
open Go.RowKit
open Go.ChangeMaps (setBlock)

attribute [local go_sem ↓] Go.wp_at_zero Go.wp_at_succ

def delS (x y : Int) : List (Int × Int) → List (Int × Int)
  | [] => []
  | p :: L => if p.1 = x ∧ p.2 = y then L else p :: delS x y L
theorem delL_S (x y : Int) : ∀ L : List (Int × Int), delL x y (toS L) = toS (delS x y L)
  | [] => rfl
  | p :: L => by
    simp only [toS, List.map_cons, delL, delS]
    by_cases hc : p.1 = x ∧ p.2 = y
    · simp [hc]
    · simp only [hc, if_false, List.map_cons, List.cons.injEq, true_and]
      exact delL_S x y L

/-- An Ack has come. -/
def CS.ack (N : Nat) (f t : Int) (c : CS) : CS := if (lookM 0 t c.O).isSome = true ∧ c.coll t = false then ({ c with A := delS f t c.A } : CS).over N t else c

set_option maxRecDepth 100000 in
set_option maxHeartbeats 8000000 in
theorem takeAck_any (p : CoP) (ss : List Int) (wait : Int) (c : CS) (f t : Int) (w : World) (hC : CoAt w p ss wait c) (hN : ss.length ≤ 100) (hl : c.text.length ≤ 1000000) (ht1 : 1 ≤ t) (ht2 : t ≤ 16383) :
    Calls Tryz.prog 236 #[.pointer (some ⟨p.nb, 0, none⟩), .int .i64 f, .int .i64 t] w fun e w' => e = .returned (.tuple #[]) ∧ Only p.blocks w w' ∧ CoAt w' p ss wait (c.ack ss.length f t) := by
  obtain ⟨c0, -⟩ := hC.node.cells
  obtain ⟨-, -, c6, -, -⟩ := hC.cells
  have HC : Hid (CoAt w p ss wait c) := hC
  clear hC
  have LK : Hid (∀ w', Only [] w w' → (Instr.lookup 130 (.map (some p.om)) (keyV 0 t) true).run Tryz.prog w' = .ok (.tuple #[.agg #[.int .i64 ((lookM 0 t c.O).getD (0, 0)).1, .int .i64 ((lookM 0 t c.O).getD (0, 0)).2], .bool (lookM 0 t c.O).isSome]) w') := fun w' ho => run_lookM (HC.out.opens.only ho (by simp)) 0 t
  have HR : Hid (c.ack ss.length f t = if (lookM 0 t c.O).isSome = true ∧ c.coll t = false then ({ c with A := delS f t c.A } : CS).over ss.length t else c) := rfl
  generalize ((lookM 0 t c.O).getD (0, 0)).1 = m1 at *
  generalize ((lookM 0 t c.O).getD (0, 0)).2 = m2 at *
  generalize (lookM 0 t c.O).isSome = op at *
  cases op
  · go_enter Tryz.func236, Tryz.ntmps236
    go_wp2
    have kept : ∀ w', Only [] w w' → w'.cell? ⟨p.nb, 0, none⟩ = some (.int .i64 0) ∧ w'.cell? ⟨p.nb, 7, none⟩ = some (.map (some p.om)) ∧ (Instr.lookup 130 (.map (some p.om)) (keyV 0 t) true).run Tryz.prog w' = .ok (.tuple #[.agg #[.int .i64 m1, .int .i64 m2], .bool false]) w' := fun w' ho => ⟨ho.cell c0 (by simp), ho.cell c6 (by simp), LK.out w' ho⟩
    have KEPT : Hid _ := kept
    clear kept
    refine wp_region_held_drew (S := fun w' => w'.cell? ⟨p.nb, 0, none⟩ = some (.int .i64 0) ∧ w'.cell? ⟨p.nb, 7, none⟩ = some (.map (some p.om)) ∧ (Instr.lookup 130 (.map (some p.om)) (keyV 0 t) true).run Tryz.prog w' = .ok (.tuple #[.agg #[.int .i64 m1, .int .i64 m2], .bool false]) w') (by kernel_rfl) (KEPT.out _ (Only.refl _ _).drew) (fun hHeld => ?_)
    refine takeD 0 9 (.pointer (some ⟨p.nb, 0, none⟩)) rfl rfl (by kernel_rfl) (by kernel_rfl) (by kernel_rfl) (fun _ _ _ h => h) (Or.inl ⟨by kernel_rfl, ?_⟩) (by assumption) ?_
    · intro w hSw; go_simp
    simp only [List.setIfInBounds_toArray, List.set_cons_zero, List.set_cons_succ]
    refine takeD 1 10 (.pointer (some ⟨p.nb, 0, none⟩)) rfl rfl (by kernel_rfl) (by kernel_rfl) (by kernel_rfl) (fun _ _ _ h => h) (Or.inl ⟨by kernel_rfl, ?_⟩) (by assumption) ?_
    · intro w hSw; go_simp
    simp only [List.setIfInBounds_toArray, List.set_cons_zero, List.set_cons_succ]
    refine takeD 2 11 (.pointer (some ⟨p.nb, 7, none⟩)) rfl rfl (by kernel_rfl) (by kernel_rfl) (by kernel_rfl) (fun _ _ _ h => h) (Or.inl ⟨by kernel_rfl, ?_⟩) (by assumption) ?_
    · intro w hSw; go_simp
    simp only [List.setIfInBounds_toArray, List.set_cons_zero, List.set_cons_succ]
    refine takeD 3 12 (.map (some p.om)) rfl rfl (by kernel_rfl) (by kernel_rfl) (by kernel_rfl) (fun _ _ _ h => h) (Or.inl ⟨by kernel_rfl, ?_⟩) (by assumption) ?_
    · intro w hSw; go_simp
    simp only [List.setIfInBounds_toArray, List.set_cons_zero, List.set_cons_succ]
    refine takeD 4 13 (.pointer (some ⟨p.nb, 0, none⟩)) rfl rfl (by kernel_rfl) (by kernel_rfl) (by kernel_rfl) (fun _ _ _ h => h) (Or.inl ⟨by kernel_rfl, ?_⟩) (by assumption) ?_
    · intro w hSw; go_simp
    simp only [List.setIfInBounds_toArray, List.set_cons_zero, List.set_cons_succ]
    refine takeD 5 14 (.pointer (some ⟨p.nb, 0, none⟩)) rfl rfl (by kernel_rfl) (by kernel_rfl) (by kernel_rfl) (fun _ _ _ h => h) (Or.inl ⟨by kernel_rfl, ?_⟩) (by assumption) ?_
    · intro w hSw; go_simp
    simp only [List.setIfInBounds_toArray, List.set_cons_zero, List.set_cons_succ]
    refine takeD 6 15 (.pointer (some ⟨p.nb, 0, none⟩)) rfl rfl (by kernel_rfl) (by kernel_rfl) (by kernel_rfl) (fun _ _ _ h => h) (Or.inl ⟨by kernel_rfl, ?_⟩) (by assumption) ?_
    · intro w hSw; go_simp
    simp only [List.setIfInBounds_toArray, List.set_cons_zero, List.set_cons_succ]
    refine takeD 7 16 (.int .i64 t) rfl rfl (by kernel_rfl) (by kernel_rfl) (by kernel_rfl) (fun _ _ _ h => h) (Or.inl ⟨by kernel_rfl, ?_⟩) (by assumption) ?_
    · intro w hSw; go_simp
    simp only [List.setIfInBounds_toArray, List.set_cons_zero, List.set_cons_succ]
    refine wpAnyH_ready (rs := [8, 13]) (by kernel_rfl) (by simp) ?_
    refine (AllReadyH.cons rfl (fun K hK => ?ordA1) (AllReadyH.cons rfl (fun K hK => ?ordB1) AllReadyH.nil))
    case' ordA1 =>
      go_simp
      refine (key_any p.nb 0 t _ (by first | simpa using c0 | exact (KEPT.out _ ((Only.refl _ _).drew.alloc _)).1 | exact (KEPT.out _ (((Only.refl _ _).alloc _).drew)).1)).mono ?_
      rintro e w3 ⟨rfl, hw3⟩
      have hO3 : Only [] w w3 := by rw [hw3]; exact (Only.refl _ _).drew.alloc _
      clear hw3
      go_wp2_with fail
      refine hK.out _ _ (KEPT.out _ hO3) (fun hHeld => ?_)
      clear hK K
      refine takeD 9 18 (.tuple #[.agg #[.int .i64 m1, .int .i64 m2], .bool false]) rfl rfl (by kernel_rfl) (by kernel_rfl) (by kernel_rfl) (fun _ _ _ h => h) (Or.inl ⟨by kernel_rfl, ?_⟩) (by assumption) ?_
      · intro w hSw; go_simp
      simp only [List.setIfInBounds_toArray, List.set_cons_zero, List.set_cons_succ]
      refine takeD 10 8 (.tuple #[.agg #[.int .i64 m1, .int .i64 m2], .bool false]) rfl rfl (by kernel_rfl) (by kernel_rfl) (by kernel_rfl) (fun _ _ _ h => h) (Or.inl ⟨by kernel_rfl, ?_⟩) (by assumption) ?_
      · intro w hSw; go_simp
      simp only [List.setIfInBounds_toArray, List.set_cons_zero, List.set_cons_succ]
      refine takeD 11 19 (.agg #[.int .i64 m1, .int .i64 m2]) rfl rfl (by kernel_rfl) (by kernel_rfl) (by kernel_rfl) (fun _ _ _ h => h) (Or.inl ⟨by kernel_rfl, ?_⟩) (by assumption) ?_
      · intro w hSw; go_simp
      simp only [List.setIfInBounds_toArray, List.set_cons_zero, List.set_cons_succ]
      refine takeD 12 20 (.bool false) rfl rfl (by kernel_rfl) (by kernel_rfl) (by kernel_rfl) (fun _ _ _ h => h) (Or.inl ⟨by kernel_rfl, ?_⟩) (by assumption) ?_
      · intro w hSw; go_simp
      simp only [List.setIfInBounds_toArray, List.set_cons_zero, List.set_cons_succ]
      refine wpAnyH_ready (rs := [13]) (by kernel_rfl) (by simp) ?_
      refine (AllReadyH.cons rfl (fun K hK => ?_) AllReadyH.nil)
      go_simp
      have hb : (w3.alloc (.cells #[.int .i64 0, .int .i64 0] 184)).heap[w3.heap.size]? = some (.cells #[.int .i64 0, .int .i64 0] 184 (0, 0)) := heap_alloc_new _ _
      have hO4 : Only [] w (w3.alloc (.cells #[.int .i64 0, .int .i64 0] 184)) := hO3.alloc _
      have hg : w.heap.size ≤ w3.heap.size := hO3.size
      refine hK.out _ _ (KEPT.out _ hO4) (fun hHeld => ?_)
      clear hK K hO3
      generalize hG : w3.heap.size = G at *
      generalize (w3.alloc (.cells #[.int .i64 0, .int .i64 0] 184)) = w4 at *
      clear hG
    case' ordB1 =>
      go_simp
      refine hK.out _ _ (KEPT.out _ (((Only.refl _ _).alloc _).drew)) (fun hHeld => ?_)
      clear hK K
      refine wpAnyH_ready (rs := [8]) (by kernel_rfl) (by simp) ?_
      refine (AllReadyH.cons rfl (fun K hK => ?_) AllReadyH.nil)
      go_simp
      refine (key_any p.nb 0 t _ (by first | simpa using c0 | exact (KEPT.out _ ((Only.refl _ _).drew.alloc _)).1 | exact (KEPT.out _ (((Only.refl _ _).alloc _).drew)).1)).mono ?_
      rintro e w3 ⟨rfl, hw3⟩
      have hO4 : Only [] w w3 := by rw [hw3]; first | exact (((Only.refl _ _).alloc _).drew.alloc _) | exact (((Only.refl _ _).drew.alloc _).alloc _)
      have hb : w3.heap[w.heap.size]? = some (.cells #[.int .i64 0, .int .i64 0] 184 (0, 0)) := by
        rw [hw3, Below.heap_alloc _ _ _ (by simp)]
        exact heap_alloc_new w _
      have hg : w.heap.size ≤ w.heap.size := Nat.le_refl _
      clear hw3
      go_wp2_with fail
      refine hK.out _ _ (KEPT.out _ hO4) (fun hHeld => ?_)
      clear hK K
      refine takeD 9 18 (.tuple #[.agg #[.int .i64 m1, .int .i64 m2], .bool false]) rfl rfl (by kernel_rfl) (by kernel_rfl) (by kernel_rfl) (fun _ _ _ h => h) (Or.inl ⟨by kernel_rfl, ?_⟩) (by assumption) ?_
      · intro w hSw; go_simp
      simp only [List.setIfInBounds_toArray, List.set_cons_zero, List.set_cons_succ]
      refine takeD 10 8 (.tuple #[.agg #[.int .i64 m1, .int .i64 m2], .bool false]) rfl rfl (by kernel_rfl) (by kernel_rfl) (by kernel_rfl) (fun _ _ _ h => h) (Or.inl ⟨by kernel_rfl, ?_⟩) (by assumption) ?_
      · intro w hSw; go_simp
      simp only [List.setIfInBounds_toArray, List.set_cons_zero, List.set_cons_succ]
      refine takeD 11 19 (.agg #[.int .i64 m1, .int .i64 m2]) rfl rfl (by kernel_rfl) (by kernel_rfl) (by kernel_rfl) (fun _ _ _ h => h) (Or.inl ⟨by kernel_rfl, ?_⟩) (by assumption) ?_
      · intro w hSw; go_simp
      simp only [List.setIfInBounds_toArray, List.set_cons_zero, List.set_cons_succ]
      refine takeD 12 20 (.bool false) rfl rfl (by kernel_rfl) (by kernel_rfl) (by kernel_rfl) (fun _ _ _ h => h) (Or.inl ⟨by kernel_rfl, ?_⟩) (by assumption) ?_
      · intro w hSw; go_simp
      simp only [List.setIfInBounds_toArray, List.set_cons_zero, List.set_cons_succ]
      generalize hG : w.heap.size = G at hb ⊢
      have hg : w.heap.size ≤ G := by omega
      clear hG
      generalize hW : w3 = w4 at *
      clear hW
    all_goals
      have q0 : w4.cell? ⟨G, 0, none⟩ = some (.int .i64 0) := by rw [cell_of_row _ _ _ _ _ _ hb]; rfl
      have q1 : w4.cell? ⟨G, 1, none⟩ = some (.int .i64 0) := by rw [cell_of_row _ _ _ _ _ _ hb]; rfl
      have qf : ∀ i, w4.frozen? ⟨G, i, none⟩ = false := fun i => frozen_of_row _ _ _ _ _ hb
      refine wpAnyH_ready (rs := [14]) (by kernel_rfl) (by simp) ?_
      refine (AllReadyH.cons rfl (fun K hK => ?_) AllReadyH.nil)
      go_simp
      have key := two_set2 (.int .i64 m1) (.int .i64 m2) hb
      have hO5 : Only [] w ((w4.setCell ⟨G, 0, none⟩ (.int .i64 m1)).setCell ⟨G, 1, none⟩ (.int .i64 m2)) := (hO4.setCell (.inr hg) _).setCell (.inr hg) _
      refine hK.out _ _ (KEPT.out _ hO5) (fun hHeld => ?_)
      clear hK K q0 q1 qf
      generalize ((w4.setCell ⟨G, 0, none⟩ (.int .i64 m1)).setCell ⟨G, 1, none⟩ (.int .i64 m2)) = w5 at *
      have q0 : w5.cell? ⟨G, 0, none⟩ = some (.int .i64 m1) := by rw [cell_of_row _ _ _ _ _ _ key]; rfl
      refine takeD 15 7 (.bool false) rfl rfl (by kernel_rfl) (by kernel_rfl) (by kernel_rfl) (fun _ _ _ h => h) (Or.inl ⟨by kernel_rfl, ?_⟩) (by assumption) ?_
      · intro w hSw; go_simp
      simp only [List.setIfInBounds_toArray, List.set_cons_zero, List.set_cons_succ]
      refine wpAnyH_done (by kernel_rfl) ?_ _
      clear q0 key hb
      go_wp2_with fail
      exact bodyPost_ret (v := .tuple #[]) (by simp [results, Tryz.results236, go_sem]) rfl ⟨rfl, hO5.mono (by simp), by rw [HR.out, if_neg (by simp)]; exact HC.out.only0 hO5⟩
  · go_enter Tryz.func236, Tryz.ntmps236
    go_wp2
    have kept : ∀ w', Only [] w w' → w'.cell? ⟨p.nb, 0, none⟩ = some (.int .i64 0) ∧ w'.cell? ⟨p.nb, 7, none⟩ = some (.map (some p.om)) ∧ (Instr.lookup 130 (.map (some p.om)) (keyV 0 t) true).run Tryz.prog w' = .ok (.tuple #[.agg #[.int .i64 m1, .int .i64 m2], .bool true]) w' := fun w' ho => ⟨ho.cell c0 (by simp), ho.cell c6 (by simp), LK.out w' ho⟩
    have KEPT : Hid _ := kept
    clear kept
    refine wp_region_held_drew (S := fun w' => w'.cell? ⟨p.nb, 0, none⟩ = some (.int .i64 0) ∧ w'.cell? ⟨p.nb, 7, none⟩ = some (.map (some p.om)) ∧ (Instr.lookup 130 (.map (some p.om)) (keyV 0 t) true).run Tryz.prog w' = .ok (.tuple #[.agg #[.int .i64 m1, .int .i64 m2], .bool true]) w') (by kernel_rfl) (KEPT.out _ (Only.refl _ _).drew) (fun hHeld => ?_)
    refine takeD 0 9 (.pointer (some ⟨p.nb, 0, none⟩)) rfl rfl (by kernel_rfl) (by kernel_rfl) (by kernel_rfl) (fun _ _ _ h => h) (Or.inl ⟨by kernel_rfl, ?_⟩) (by assumption) ?_
    · intro w hSw; go_simp
    simp only [List.setIfInBounds_toArray, List.set_cons_zero, List.set_cons_succ]
    refine takeD 1 10 (.pointer (some ⟨p.nb, 0, none⟩)) rfl rfl (by kernel_rfl) (by kernel_rfl) (by kernel_rfl) (fun _ _ _ h => h) (Or.inl ⟨by kernel_rfl, ?_⟩) (by assumption) ?_
    · intro w hSw; go_simp
    simp only [List.setIfInBounds_toArray, List.set_cons_zero, List.set_cons_succ]
    refine takeD 2 11 (.pointer (some ⟨p.nb, 7, none⟩)) rfl rfl (by kernel_rfl) (by kernel_rfl) (by kernel_rfl) (fun _ _ _ h => h) (Or.inl ⟨by kernel_rfl, ?_⟩) (by assumption) ?_
    · intro w hSw; go_simp
    simp only [List.setIfInBounds_toArray, List.set_cons_zero, List.set_cons_succ]
    refine takeD 3 12 (.map (some p.om)) rfl rfl (by kernel_rfl) (by kernel_rfl) (by kernel_rfl) (fun _ _ _ h => h) (Or.inl ⟨by kernel_rfl, ?_⟩) (by assumption) ?_
    · intro w hSw; go_simp
    simp only [List.setIfInBounds_toArray, List.set_cons_zero, List.set_cons_succ]
    refine takeD 4 13 (.pointer (some ⟨p.nb, 0, none⟩)) rfl rfl (by kernel_rfl) (by kernel_rfl) (by kernel_rfl) (fun _ _ _ h => h) (Or.inl ⟨by kernel_rfl, ?_⟩) (by assumption) ?_
    · intro w hSw; go_simp
    simp only [List.setIfInBounds_toArray, List.set_cons_zero, List.set_cons_succ]
    refine takeD 5 14 (.pointer (some ⟨p.nb, 0, none⟩)) rfl rfl (by kernel_rfl) (by kernel_rfl) (by kernel_rfl) (fun _ _ _ h => h) (Or.inl ⟨by kernel_rfl, ?_⟩) (by assumption) ?_
    · intro w hSw; go_simp
    simp only [List.setIfInBounds_toArray, List.set_cons_zero, List.set_cons_succ]
    refine takeD 6 15 (.pointer (some ⟨p.nb, 0, none⟩)) rfl rfl (by kernel_rfl) (by kernel_rfl) (by kernel_rfl) (fun _ _ _ h => h) (Or.inl ⟨by kernel_rfl, ?_⟩) (by assumption) ?_
    · intro w hSw; go_simp
    simp only [List.setIfInBounds_toArray, List.set_cons_zero, List.set_cons_succ]
    refine takeD 7 16 (.int .i64 t) rfl rfl (by kernel_rfl) (by kernel_rfl) (by kernel_rfl) (fun _ _ _ h => h) (Or.inl ⟨by kernel_rfl, ?_⟩) (by assumption) ?_
    · intro w hSw; go_simp
    simp only [List.setIfInBounds_toArray, List.set_cons_zero, List.set_cons_succ]
    refine wpAnyH_ready (rs := [8, 13]) (by kernel_rfl) (by simp) ?_
    refine (AllReadyH.cons rfl (fun K hK => ?ordA2) (AllReadyH.cons rfl (fun K hK => ?ordB2) AllReadyH.nil))
    case' ordA2 =>
      go_simp
      refine (key_any p.nb 0 t _ (by first | simpa using c0 | exact (KEPT.out _ ((Only.refl _ _).drew.alloc _)).1 | exact (KEPT.out _ (((Only.refl _ _).alloc _).drew)).1)).mono ?_
      rintro e w3 ⟨rfl, hw3⟩
      have hO3 : Only [] w w3 := by rw [hw3]; exact (Only.refl _ _).drew.alloc _
      clear hw3
      go_wp2_with fail
      refine hK.out _ _ (KEPT.out _ hO3) (fun hHeld => ?_)
      clear hK K
      refine takeD 9 18 (.tuple #[.agg #[.int .i64 m1, .int .i64 m2], .bool true]) rfl rfl (by kernel_rfl) (by kernel_rfl) (by kernel_rfl) (fun _ _ _ h => h) (Or.inl ⟨by kernel_rfl, ?_⟩) (by assumption) ?_
      · intro w hSw; go_simp
      simp only [List.setIfInBounds_toArray, List.set_cons_zero, List.set_cons_succ]
      refine takeD 10 8 (.tuple #[.agg #[.int .i64 m1, .int .i64 m2], .bool true]) rfl rfl (by kernel_rfl) (by kernel_rfl) (by kernel_rfl) (fun _ _ _ h => h) (Or.inl ⟨by kernel_rfl, ?_⟩) (by assumption) ?_
      · intro w hSw; go_simp
      simp only [List.setIfInBounds_toArray, List.set_cons_zero, List.set_cons_succ]
      refine takeD 11 19 (.agg #[.int .i64 m1, .int .i64 m2]) rfl rfl (by kernel_rfl) (by kernel_rfl) (by kernel_rfl) (fun _ _ _ h => h) (Or.inl ⟨by kernel_rfl, ?_⟩) (by assumption) ?_
      · intro w hSw; go_simp
      simp only [List.setIfInBounds_toArray, List.set_cons_zero, List.set_cons_succ]
      refine takeD 12 20 (.bool true) rfl rfl (by kernel_rfl) (by kernel_rfl) (by kernel_rfl) (fun _ _ _ h => h) (Or.inl ⟨by kernel_rfl, ?_⟩) (by assumption) ?_
      · intro w hSw; go_simp
      simp only [List.setIfInBounds_toArray, List.set_cons_zero, List.set_cons_succ]
      refine wpAnyH_ready (rs := [13]) (by kernel_rfl) (by simp) ?_
      refine (AllReadyH.cons rfl (fun K hK => ?_) AllReadyH.nil)
      go_simp
      have hb : (w3.alloc (.cells #[.int .i64 0, .int .i64 0] 184)).heap[w3.heap.size]? = some (.cells #[.int .i64 0, .int .i64 0] 184 (0, 0)) := heap_alloc_new _ _
      have hO4 : Only [] w (w3.alloc (.cells #[.int .i64 0, .int .i64 0] 184)) := hO3.alloc _
      have hg : w.heap.size ≤ w3.heap.size := hO3.size
      refine hK.out _ _ (KEPT.out _ hO4) (fun hHeld => ?_)
      clear hK K hO3
      generalize hG : w3.heap.size = G at *
      generalize (w3.alloc (.cells #[.int .i64 0, .int .i64 0] 184)) = w4 at *
      clear hG
    case' ordB2 =>
      go_simp
      refine hK.out _ _ (KEPT.out _ (((Only.refl _ _).alloc _).drew)) (fun hHeld => ?_)
      clear hK K
      refine wpAnyH_ready (rs := [8]) (by kernel_rfl) (by simp) ?_
      refine (AllReadyH.cons rfl (fun K hK => ?_) AllReadyH.nil)
      go_simp
      refine (key_any p.nb 0 t _ (by first | simpa using c0 | exact (KEPT.out _ ((Only.refl _ _).drew.alloc _)).1 | exact (KEPT.out _ (((Only.refl _ _).alloc _).drew)).1)).mono ?_
      rintro e w3 ⟨rfl, hw3⟩
      have hO4 : Only [] w w3 := by rw [hw3]; first | exact (((Only.refl _ _).alloc _).drew.alloc _) | exact (((Only.refl _ _).drew.alloc _).alloc _)
      have hb : w3.heap[w.heap.size]? = some (.cells #[.int .i64 0, .int .i64 0] 184 (0, 0)) := by
        rw [hw3, Below.heap_alloc _ _ _ (by simp)]
        exact heap_alloc_new w _
      have hg : w.heap.size ≤ w.heap.size := Nat.le_refl _
      clear hw3
      go_wp2_with fail
      refine hK.out _ _ (KEPT.out _ hO4) (fun hHeld => ?_)
      clear hK K
      refine takeD 9 18 (.tuple #[.agg #[.int .i64 m1, .int .i64 m2], .bool true]) rfl rfl (by kernel_rfl) (by kernel_rfl) (by kernel_rfl) (fun _ _ _ h => h) (Or.inl ⟨by kernel_rfl, ?_⟩) (by assumption) ?_
      · intro w hSw; go_simp
      simp only [List.setIfInBounds_toArray, List.set_cons_zero, List.set_cons_succ]
      refine takeD 10 8 (.tuple #[.agg #[.int .i64 m1, .int .i64 m2], .bool true]) rfl rfl (by kernel_rfl) (by kernel_rfl) (by kernel_rfl) (fun _ _ _ h => h) (Or.inl ⟨by kernel_rfl, ?_⟩) (by assumption) ?_
      · intro w hSw; go_simp
      simp only [List.setIfInBounds_toArray, List.set_cons_zero, List.set_cons_succ]
      refine takeD 11 19 (.agg #[.int .i64 m1, .int .i64 m2]) rfl rfl (by kernel_rfl) (by kernel_rfl) (by kernel_rfl) (fun _ _ _ h => h) (Or.inl ⟨by kernel_rfl, ?_⟩) (by assumption) ?_
      · intro w hSw; go_simp
      simp only [List.setIfInBounds_toArray, List.set_cons_zero, List.set_cons_succ]
      refine takeD 12 20 (.bool true) rfl rfl (by kernel_rfl) (by kernel_rfl) (by kernel_rfl) (fun _ _ _ h => h) (Or.inl ⟨by kernel_rfl, ?_⟩) (by assumption) ?_
      · intro w hSw; go_simp
      simp only [List.setIfInBounds_toArray, List.set_cons_zero, List.set_cons_succ]
      generalize hG : w.heap.size = G at hb ⊢
      have hg : w.heap.size ≤ G := by omega
      clear hG
      generalize hW : w3 = w4 at *
      clear hW
    all_goals
      have q0 : w4.cell? ⟨G, 0, none⟩ = some (.int .i64 0) := by rw [cell_of_row _ _ _ _ _ _ hb]; rfl
      have q1 : w4.cell? ⟨G, 1, none⟩ = some (.int .i64 0) := by rw [cell_of_row _ _ _ _ _ _ hb]; rfl
      have qf : ∀ i, w4.frozen? ⟨G, i, none⟩ = false := fun i => frozen_of_row _ _ _ _ _ hb
      refine wpAnyH_ready (rs := [14]) (by kernel_rfl) (by simp) ?_
      refine (AllReadyH.cons rfl (fun K hK => ?_) AllReadyH.nil)
      go_simp
      have key := two_set2 (.int .i64 m1) (.int .i64 m2) hb
      have hO5 : Only [] w ((w4.setCell ⟨G, 0, none⟩ (.int .i64 m1)).setCell ⟨G, 1, none⟩ (.int .i64 m2)) := (hO4.setCell (.inr hg) _).setCell (.inr hg) _
      refine hK.out _ _ (KEPT.out _ hO5) (fun hHeld => ?_)
      clear hK K q0 q1 qf
      generalize ((w4.setCell ⟨G, 0, none⟩ (.int .i64 m1)).setCell ⟨G, 1, none⟩ (.int .i64 m2)) = w5 at *
      have q0 : w5.cell? ⟨G, 0, none⟩ = some (.int .i64 m1) := by rw [cell_of_row _ _ _ _ _ _ key]; rfl
      refine takeD 15 7 (.bool true) rfl rfl (by kernel_rfl) (by kernel_rfl) (by kernel_rfl) (fun _ _ _ h => h) (Or.inl ⟨by kernel_rfl, ?_⟩) (by assumption) ?_
      · intro w hSw; go_simp
      simp only [List.setIfInBounds_toArray, List.set_cons_zero, List.set_cons_succ]
      refine wpAnyH_done (by kernel_rfl) ?_ _
      have HC5 : Hid (CoAt w5 p ss wait c) := HC.out.only0 hO5
      have HO5 : Hid (Only [] w w5) := hO5
      clear q0 key hb hO5 hO4 hg
      go_wp2_with fail
      refine (isCollecting_any p ss wait c t w5 HC5.out).mono ?_
      rintro e w6 ⟨rfl, hO6⟩
      have HC6 : Hid (CoAt w6 p ss wait c) := HC5.out.only0 hO6
      have HO6 : Hid (Only [] w w6) := HO5.out.trans hO6
      clear hO6
      cases hcl : c.coll t
      · obtain ⟨-, -, -, -, c8⟩ := HC6.out.cells
        obtain ⟨o, hd, hMo⟩ := run_del (kt := 150) HC6.out.awaited Tryz.underlying132 f t
        rw [delL_S] at hMo
        have hOs : Only [p.am] w6 (setBlock w6 p.am o) := (Only.refl _ _).setBlock (.inl (by simp)) _
        have hC7 : CoAt (setBlock w6 p.am o) p ss wait { c with A := delS f t c.A } := by
          have h := HC6.out
          obtain ⟨n1, n2, n3, n4, n5, n6⟩ := nodup_parts h.apart
          have hsb := h.sb_out
          simp only [CoP.blocks, List.mem_cons, List.not_mem_nil, or_false, not_or] at hsb
          exact ⟨h.node.only hOs (by simp [Ne.symm (h.awaited.ne h.node)]), h.sorts.only hOs (by simp [hsb]), h.known.only hOs (by simp [n3]), h.opens.only hOs (by simp [n5]), h.votes.only hOs (by simp [n6]), hMo, h.apart⟩
        have HC7 : Hid (CoAt (setBlock w6 p.am o) p ss wait { c with A := delS f t c.A }) := hC7
        have HO7 : Hid (Only p.blocks w (setBlock w6 p.am o)) := (HO6.out.mono (by simp)).trans (hOs.mono (by simp [CoP.blocks]))
        clear hMo hOs hC7
        have hd2 : ∀ ty, (Builtin.delete_ #[132, 150] ty #[.map (some p.am), .agg #[.int .i64 f, .int .i64 t]]).run Tryz.prog w6 = .ok (.tuple #[]) (setBlock w6 p.am o) := hd
        clear hd
        go_wp2_with fail
        refine (endIfOver_any p ss wait { c with A := delS f t c.A } t _ HC7.out hN hl ht1 ht2).mono ?_
        rintro e w8 ⟨rfl, hO8, hC8⟩
        have R : Hid (Only p.blocks w w8 ∧ CoAt w8 p ss wait (c.ack ss.length f t)) := ⟨HO7.out.trans (hO8.mono (by simp [CoP.blocks])), by rw [HR.out, if_pos (by simp [hcl])]; exact hC8⟩
        clear hO8 hC8
        go_wp2_with fail
        exact bodyPost_end (v := .tuple #[]) (by simp [results, Tryz.results236, go_sem]) rfl ⟨rfl, R.out⟩
      · go_wp2_with fail
        exact bodyPost_ret (v := .tuple #[]) (by simp [results, Tryz.results236, go_sem]) rfl ⟨rfl, HO6.out.mono (by simp), by rw [HR.out, if_neg (by simp [hcl])]; exact HC6.out⟩
end Go.Proofs.YtfpojgljgbgkkaaGreatDoor

/-
  The coordinator: Outcome, answer.
-/
namespace Go.Proofs.YtfpojgljgbgkkaaGreatDoor
open Go.RowKit
open Go.ChangeMaps (setBlock)

attribute [local go_sem ↓] Go.wp_at_zero Go.wp_at_succ

/-- How a transaction stands here. -/
def CS.outcome (t : Int) (c : CS) : Int := if (lookM 0 t c.O).isSome = true then 1 else toldI (lookI 0 t c.L)

set_option maxRecDepth 100000 in
set_option maxHeartbeats 8000000 in
theorem coOutcome_any (p : CoP) (ss : List Int) (wait : Int) (c : CS) (t : Int) (w : World) (hC : CoAt w p ss wait c) :
    Calls Tryz.prog 230 #[.pointer (some ⟨p.nb, 0, none⟩), .int .i64 t] w fun e w' => e = .returned (.int .i64 (c.outcome t)) ∧ Only [] w w' := by
  obtain ⟨c0, c1, c2, c3, cf⟩ := hC.node.cells
  obtain ⟨-, -, c6, -, -⟩ := hC.cells
  clear c1 c2 cf
  have HC : Hid (CoAt w p ss wait c) := hC
  clear hC
  have LK : Hid (∀ w', Only [] w w' → (Instr.lookup 130 (.map (some p.om)) (keyV 0 t) true).run Tryz.prog w' = .ok (.tuple #[.agg #[.int .i64 ((lookM 0 t c.O).getD (0, 0)).1, .int .i64 ((lookM 0 t c.O).getD (0, 0)).2], .bool (lookM 0 t c.O).isSome]) w') := fun w' ho => run_lookM (HC.out.opens.only ho (by simp)) 0 t
  have LKK : Hid (∀ w', Only [] w w' → (Instr.lookup 127 (.map (some p.kn)) (keyV 0 t) false).run Tryz.prog w' = .ok (.int .i64 (lookI 0 t c.L)) w') := fun w' ho => run_lookI (HC.out.known.only ho (by simp)) 0 t
  have HR : Hid (c.outcome t = if (lookM 0 t c.O).isSome = true then 1 else toldI (lookI 0 t c.L)) := rfl
  generalize ((lookM 0 t c.O).getD (0, 0)).1 = m1 at *
  generalize ((lookM 0 t c.O).getD (0, 0)).2 = m2 at *
  generalize (lookM 0 t c.O).isSome = op at *
  cases op
  · go_enter Tryz.func230, Tryz.ntmps230
    go_wp2
    have kept : ∀ w', Only [] w w' → w'.cell? ⟨p.nb, 0, none⟩ = some (.int .i64 0) ∧ w'.cell? ⟨p.nb, 7, none⟩ = some (.map (some p.om)) ∧ (Instr.lookup 130 (.map (some p.om)) (keyV 0 t) true).run Tryz.prog w' = .ok (.tuple #[.agg #[.int .i64 m1, .int .i64 m2], .bool false]) w' := fun w' ho => ⟨ho.cell c0 (by simp), ho.cell c6 (by simp), LK.out w' ho⟩
    have KEPT : Hid _ := kept
    clear kept
    refine wp_region_held_drew (S := fun w' => w'.cell? ⟨p.nb, 0, none⟩ = some (.int .i64 0) ∧ w'.cell? ⟨p.nb, 7, none⟩ = some (.map (some p.om)) ∧ (Instr.lookup 130 (.map (some p.om)) (keyV 0 t) true).run Tryz.prog w' = .ok (.tuple #[.agg #[.int .i64 m1, .int .i64 m2], .bool false]) w') (by kernel_rfl) (KEPT.out _ (Only.refl _ _).drew) (fun hHeld => ?_)
    refine takeD 0 8 (.pointer (some ⟨p.nb, 0, none⟩)) rfl rfl (by kernel_rfl) (by kernel_rfl) (by kernel_rfl) (fun _ _ _ h => h) (Or.inl ⟨by kernel_rfl, ?_⟩) (by assumption) ?_
    · intro w hSw; go_simp
    simp only [List.setIfInBounds_toArray, List.set_cons_zero, List.set_cons_succ]
    refine takeD 1 9 (.pointer (some ⟨p.nb, 0, none⟩)) rfl rfl (by kernel_rfl) (by kernel_rfl) (by kernel_rfl) (fun _ _ _ h => h) (Or.inl ⟨by kernel_rfl, ?_⟩) (by assumption) ?_
    · intro w hSw; go_simp
    simp only [List.setIfInBounds_toArray, List.set_cons_zero, List.set_cons_succ]
    refine takeD 2 10 (.pointer (some ⟨p.nb, 7, none⟩)) rfl rfl (by kernel_rfl) (by kernel_rfl) (by kernel_rfl) (fun _ _ _ h => h) (Or.inl ⟨by kernel_rfl, ?_⟩) (by assumption) ?_
    · intro w hSw; go_simp
    simp only [List.setIfInBounds_toArray, List.set_cons_zero, List.set_cons_succ]
    refine takeD 3 11 (.map (some p.om)) rfl rfl (by kernel_rfl) (by kernel_rfl) (by kernel_rfl) (fun _ _ _ h => h) (Or.inl ⟨by kernel_rfl, ?_⟩) (by assumption) ?_
    · intro w hSw; go_simp
    simp only [List.setIfInBounds_toArray, List.set_cons_zero, List.set_cons_succ]
    refine takeD 4 12 (.pointer (some ⟨p.nb, 0, none⟩)) rfl rfl (by kernel_rfl) (by kernel_rfl) (by kernel_rfl) (fun _ _ _ h => h) (Or.inl ⟨by kernel_rfl, ?_⟩) (by assumption) ?_
    · intro w hSw; go_simp
    simp only [List.setIfInBounds_toArray, List.set_cons_zero, List.set_cons_succ]
    refine takeD 5 13 (.pointer (some ⟨p.nb, 0, none⟩)) rfl rfl (by kernel_rfl) (by kernel_rfl) (by kernel_rfl) (fun _ _ _ h => h) (Or.inl ⟨by kernel_rfl, ?_⟩) (by assumption) ?_
    · intro w hSw; go_simp
    simp only [List.setIfInBounds_toArray, List.set_cons_zero, List.set_cons_succ]
    refine takeD 6 14 (.pointer (some ⟨p.nb, 0, none⟩)) rfl rfl (by kernel_rfl) (by kernel_rfl) (by kernel_rfl) (fun _ _ _ h => h) (Or.inl ⟨by kernel_rfl, ?_⟩) (by assumption) ?_
    · intro w hSw; go_simp
    simp only [List.setIfInBounds_toArray, List.set_cons_zero, List.set_cons_succ]
    refine takeD 7 15 (.int .i64 t) rfl rfl (by kernel_rfl) (by kernel_rfl) (by kernel_rfl) (fun _ _ _ h => h) (Or.inl ⟨by kernel_rfl, ?_⟩) (by assumption) ?_
    · intro w hSw; go_simp
    simp only [List.setIfInBounds_toArray, List.set_cons_zero, List.set_cons_succ]
    refine wpAnyH_ready (rs := [8, 13]) (by kernel_rfl) (by simp) ?_
    refine (AllReadyH.cons rfl (fun K hK => ?ordA1) (AllReadyH.cons rfl (fun K hK => ?ordB1) AllReadyH.nil))
    case' ordA1 =>
      go_simp
      refine (key_any p.nb 0 t _ (by first | simpa using c0 | exact (KEPT.out _ ((Only.refl _ _).drew.alloc _)).1 | exact (KEPT.out _ (((Only.refl _ _).alloc _).drew)).1)).mono ?_
      rintro e w3 ⟨rfl, hw3⟩
      have hO3 : Only [] w w3 := by rw [hw3]; exact (Only.refl _ _).drew.alloc _
      clear hw3
      go_wp2_with fail
      refine hK.out _ _ (KEPT.out _ hO3) (fun hHeld => ?_)
      clear hK K
      refine takeD 9 17 (.tuple #[.agg #[.int .i64 m1, .int .i64 m2], .bool false]) rfl rfl (by kernel_rfl) (by kernel_rfl) (by kernel_rfl) (fun _ _ _ h => h) (Or.inl ⟨by kernel_rfl, ?_⟩) (by assumption) ?_
      · intro w hSw; go_simp
      simp only [List.setIfInBounds_toArray, List.set_cons_zero, List.set_cons_succ]
      refine takeD 10 7 (.tuple #[.agg #[.int .i64 m1, .int .i64 m2], .bool false]) rfl rfl (by kernel_rfl) (by kernel_rfl) (by kernel_rfl) (fun _ _ _ h => h) (Or.inl ⟨by kernel_rfl, ?_⟩) (by assumption) ?_
      · intro w hSw; go_simp
      simp only [List.setIfInBounds_toArray, List.set_cons_zero, List.set_cons_succ]
      refine takeD 11 18 (.agg #[.int .i64 m1, .int .i64 m2]) rfl rfl (by kernel_rfl) (by kernel_rfl) (by kernel_rfl) (fun _ _ _ h => h) (Or.inl ⟨by kernel_rfl, ?_⟩) (by assumption) ?_
      · intro w hSw; go_simp
      simp only [List.setIfInBounds_toArray, List.set_cons_zero, List.set_cons_succ]
      refine takeD 12 19 (.bool false) rfl rfl (by kernel_rfl) (by kernel_rfl) (by kernel_rfl) (fun _ _ _ h => h) (Or.inl ⟨by kernel_rfl, ?_⟩) (by assumption) ?_
      · intro w hSw; go_simp
      simp only [List.setIfInBounds_toArray, List.set_cons_zero, List.set_cons_succ]
      refine wpAnyH_ready (rs := [13]) (by kernel_rfl) (by simp) ?_
      refine (AllReadyH.cons rfl (fun K hK => ?_) AllReadyH.nil)
      go_simp
      have hb : (w3.alloc (.cells #[.int .i64 0, .int .i64 0] 184)).heap[w3.heap.size]? = some (.cells #[.int .i64 0, .int .i64 0] 184 (0, 0)) := heap_alloc_new _ _
      have hO4 : Only [] w (w3.alloc (.cells #[.int .i64 0, .int .i64 0] 184)) := hO3.alloc _
      have hg : w.heap.size ≤ w3.heap.size := hO3.size
      refine hK.out _ _ (KEPT.out _ hO4) (fun hHeld => ?_)
      clear hK K hO3
      generalize hG : w3.heap.size = G at *
      generalize (w3.alloc (.cells #[.int .i64 0, .int .i64 0] 184)) = w4 at *
      clear hG
    case' ordB1 =>
      go_simp
      refine hK.out _ _ (KEPT.out _ (((Only.refl _ _).alloc _).drew)) (fun hHeld => ?_)
      clear hK K
      refine wpAnyH_ready (rs := [8]) (by kernel_rfl) (by simp) ?_
      refine (AllReadyH.cons rfl (fun K hK => ?_) AllReadyH.nil)
      go_simp
      refine (key_any p.nb 0 t _ (by first | simpa using c0 | exact (KEPT.out _ ((Only.refl _ _).drew.alloc _)).1 | exact (KEPT.out _ (((Only.refl _ _).alloc _).drew)).1)).mono ?_
      rintro e w3 ⟨rfl, hw3⟩
      have hO4 : Only [] w w3 := by rw [hw3]; first | exact (((Only.refl _ _).alloc _).drew.alloc _) | exact (((Only.refl _ _).drew.alloc _).alloc _)
      have hb : w3.heap[w.heap.size]? = some (.cells #[.int .i64 0, .int .i64 0] 184 (0, 0)) := by
        rw [hw3, Below.heap_alloc _ _ _ (by simp)]
        exact heap_alloc_new w _
      have hg : w.heap.size ≤ w.heap.size := Nat.le_refl _
      clear hw3
      go_wp2_with fail
      refine hK.out _ _ (KEPT.out _ hO4) (fun hHeld => ?_)
      clear hK K
      refine takeD 9 17 (.tuple #[.agg #[.int .i64 m1, .int .i64 m2], .bool false]) rfl rfl (by kernel_rfl) (by kernel_rfl) (by kernel_rfl) (fun _ _ _ h => h) (Or.inl ⟨by kernel_rfl, ?_⟩) (by assumption) ?_
      · intro w hSw; go_simp
      simp only [List.setIfInBounds_toArray, List.set_cons_zero, List.set_cons_succ]
      refine takeD 10 7 (.tuple #[.agg #[.int .i64 m1, .int .i64 m2], .bool false]) rfl rfl (by kernel_rfl) (by kernel_rfl) (by kernel_rfl) (fun _ _ _ h => h) (Or.inl ⟨by kernel_rfl, ?_⟩) (by assumption) ?_
      · intro w hSw; go_simp
      simp only [List.setIfInBounds_toArray, List.set_cons_zero, List.set_cons_succ]
      refine takeD 11 18 (.agg #[.int .i64 m1, .int .i64 m2]) rfl rfl (by kernel_rfl) (by kernel_rfl) (by kernel_rfl) (fun _ _ _ h => h) (Or.inl ⟨by kernel_rfl, ?_⟩) (by assumption) ?_
      · intro w hSw; go_simp
      simp only [List.setIfInBounds_toArray, List.set_cons_zero, List.set_cons_succ]
      refine takeD 12 19 (.bool false) rfl rfl (by kernel_rfl) (by kernel_rfl) (by kernel_rfl) (fun _ _ _ h => h) (Or.inl ⟨by kernel_rfl, ?_⟩) (by assumption) ?_
      · intro w hSw; go_simp
      simp only [List.setIfInBounds_toArray, List.set_cons_zero, List.set_cons_succ]
      generalize hG : w.heap.size = G at hb ⊢
      have hg : w.heap.size ≤ G := by omega
      clear hG
      generalize hW : w3 = w4 at *
      clear hW
    all_goals
      have q0 : w4.cell? ⟨G, 0, none⟩ = some (.int .i64 0) := by rw [cell_of_row _ _ _ _ _ _ hb]; rfl
      have q1 : w4.cell? ⟨G, 1, none⟩ = some (.int .i64 0) := by rw [cell_of_row _ _ _ _ _ _ hb]; rfl
      have qf : ∀ i, w4.frozen? ⟨G, i, none⟩ = false := fun i => frozen_of_row _ _ _ _ _ hb
      refine wpAnyH_ready (rs := [14]) (by kernel_rfl) (by simp) ?_
      refine (AllReadyH.cons rfl (fun K hK => ?_) AllReadyH.nil)
      go_simp
      have key := two_set2 (.int .i64 m1) (.int .i64 m2) hb
      have hO5 : Only [] w ((w4.setCell ⟨G, 0, none⟩ (.int .i64 m1)).setCell ⟨G, 1, none⟩ (.int .i64 m2)) := (hO4.setCell (.inr hg) _).setCell (.inr hg) _
      refine hK.out _ _ (KEPT.out _ hO5) (fun hHeld => ?_)
      clear hK K q0 q1 qf
      generalize ((w4.setCell ⟨G, 0, none⟩ (.int .i64 m1)).setCell ⟨G, 1, none⟩ (.int .i64 m2)) = w5 at *
      have q0 : w5.cell? ⟨G, 0, none⟩ = some (.int .i64 m1) := by rw [cell_of_row _ _ _ _ _ _ key]; rfl
      refine takeD 15 6 (.bool false) rfl rfl (by kernel_rfl) (by kernel_rfl) (by kernel_rfl) (fun _ _ _ h => h) (Or.inl ⟨by kernel_rfl, ?_⟩) (by assumption) ?_
      · intro w hSw; go_simp
      simp only [List.setIfInBounds_toArray, List.set_cons_zero, List.set_cons_succ]
      refine wpAnyH_done (by kernel_rfl) ?_ _
      clear q0 key hb hO4 hg
      have c0' := hO5.cell c0 (by simp)
      have c3' := hO5.cell c3 (by simp)
      have HO5 : Hid (Only [] w w5) := hO5
      clear hO5
      go_wp2_with fail
      refine wp_region_held_drew (S := fun w' => w'.cell? ⟨p.nb, 0, none⟩ = some (.int .i64 0) ∧ w'.cell? ⟨p.nb, 3, none⟩ = some (.map (some p.kn))) (by kernel_rfl) ⟨c0', c3'⟩ (fun hHeld => ?_)
      refine takeD 0 21 (.pointer (some ⟨p.nb, 0, none⟩)) rfl rfl (by kernel_rfl) (by kernel_rfl) (by kernel_rfl) (fun _ _ _ h => h) (Or.inl ⟨by kernel_rfl, ?_⟩) (by assumption) ?_
      · intro w hSw; go_simp
      simp only [List.setIfInBounds_toArray, List.set_cons_zero, List.set_cons_succ]
      refine takeD 1 22 (.pointer (some ⟨p.nb, 0, none⟩)) rfl rfl (by kernel_rfl) (by kernel_rfl) (by kernel_rfl) (fun _ _ _ h => h) (Or.inl ⟨by kernel_rfl, ?_⟩) (by assumption) ?_
      · intro w hSw; go_simp
      simp only [List.setIfInBounds_toArray, List.set_cons_zero, List.set_cons_succ]
      refine takeD 2 23 (.pointer (some ⟨p.nb, 0, none⟩)) rfl rfl (by kernel_rfl) (by kernel_rfl) (by kernel_rfl) (fun _ _ _ h => h) (Or.inl ⟨by kernel_rfl, ?_⟩) (by assumption) ?_
      · intro w hSw; go_simp
      simp only [List.setIfInBounds_toArray, List.set_cons_zero, List.set_cons_succ]
      refine takeD 3 24 (.pointer (some ⟨p.nb, 3, none⟩)) rfl rfl (by kernel_rfl) (by kernel_rfl) (by kernel_rfl) (fun _ _ _ h => h) (Or.inl ⟨by kernel_rfl, ?_⟩) (by assumption) ?_
      · intro w hSw; go_simp
      simp only [List.setIfInBounds_toArray, List.set_cons_zero, List.set_cons_succ]
      refine takeD 4 25 (.map (some p.kn)) rfl rfl (by kernel_rfl) (by kernel_rfl) (by kernel_rfl) (fun _ _ _ h => h) (Or.inl ⟨by kernel_rfl, ?_⟩) (by assumption) ?_
      · intro w hSw; go_simp
      simp only [List.setIfInBounds_toArray, List.set_cons_zero, List.set_cons_succ]
      refine takeD 5 26 (.pointer (some ⟨p.nb, 0, none⟩)) rfl rfl (by kernel_rfl) (by kernel_rfl) (by kernel_rfl) (fun _ _ _ h => h) (Or.inl ⟨by kernel_rfl, ?_⟩) (by assumption) ?_
      · intro w hSw; go_simp
      simp only [List.setIfInBounds_toArray, List.set_cons_zero, List.set_cons_succ]
      refine takeD 6 27 (.pointer (some ⟨p.nb, 0, none⟩)) rfl rfl (by kernel_rfl) (by kernel_rfl) (by kernel_rfl) (fun _ _ _ h => h) (Or.inl ⟨by kernel_rfl, ?_⟩) (by assumption) ?_
      · intro w hSw; go_simp
      simp only [List.setIfInBounds_toArray, List.set_cons_zero, List.set_cons_succ]
      refine takeD 7 28 (.pointer (some ⟨p.nb, 0, none⟩)) rfl rfl (by kernel_rfl) (by kernel_rfl) (by kernel_rfl) (fun _ _ _ h => h) (Or.inl ⟨by kernel_rfl, ?_⟩) (by assumption) ?_
      · intro w hSw; go_simp
      simp only [List.setIfInBounds_toArray, List.set_cons_zero, List.set_cons_succ]
      refine takeD 8 29 (.int .i64 t) rfl rfl (by kernel_rfl) (by kernel_rfl) (by kernel_rfl) (fun _ _ _ h => h) (Or.inl ⟨by kernel_rfl, ?_⟩) (by assumption) ?_
      · intro w hSw; go_simp
      simp only [List.setIfInBounds_toArray, List.set_cons_zero, List.set_cons_succ]
      refine wpAnyH_ready (rs := [9]) (by kernel_rfl) (by simp) ?_
      refine (AllReadyH.cons rfl (fun K hK => ?_) AllReadyH.nil)
      go_simp
      refine (key_any p.nb 0 t _ (by simpa using c0')).mono ?_
      rintro e w8 ⟨rfl, hw3⟩
      have hO3 : Only [] w5 w8 := by rw [hw3]; exact (Only.refl _ _).drew.alloc _
      have hSn := (show _ ∧ _ from ⟨hO3.cell c0' (by simp), hO3.cell c3' (by simp)⟩)
      have lk := LKK.out w8 (HO5.out.trans hO3)
      clear hw3
      go_wp2_with fail
      refine hK.out _ _ hSn (fun hHeld => ?_)
      clear hK K
      refine wpAnyH_ready (rs := [10]) (by kernel_rfl) (by simp) ?_
      refine (AllReadyH.cons rfl (fun K hK => ?_) AllReadyH.nil)
      go_simp
      refine hK.out _ _ hSn (fun hHeld => ?_)
      clear hK K
      refine wpAnyH_ready (rs := [11]) (by kernel_rfl) (by simp) ?_
      refine (AllReadyH.cons rfl (fun K hK => ?_) AllReadyH.nil)
      go_simp
      refine (told_any _ _).mono ?_
      rintro e w9 ⟨rfl, rfl⟩
      go_wp2_with fail
      refine hK.out _ _ hSn (fun hHeld => ?_)
      clear hK K
      refine takeD 12 4 (.int .i64 (toldI (lookI 0 t c.L))) rfl rfl (by kernel_rfl) (by kernel_rfl) (by kernel_rfl) (fun _ _ _ h => h) (Or.inl ⟨by kernel_rfl, ?_⟩) (by assumption) ?_
      · intro w hSw; go_simp
      simp only [List.setIfInBounds_toArray, List.set_cons_zero, List.set_cons_succ]
      refine wpAnyH_done (by kernel_rfl) ?_ _
      go_wp2_with fail
      go_ret
      exact ⟨by rw [HR.out, if_neg (by simp)]; rfl, HO5.out.trans hO3⟩
  · go_enter Tryz.func230, Tryz.ntmps230
    go_wp2
    have kept : ∀ w', Only [] w w' → w'.cell? ⟨p.nb, 0, none⟩ = some (.int .i64 0) ∧ w'.cell? ⟨p.nb, 7, none⟩ = some (.map (some p.om)) ∧ (Instr.lookup 130 (.map (some p.om)) (keyV 0 t) true).run Tryz.prog w' = .ok (.tuple #[.agg #[.int .i64 m1, .int .i64 m2], .bool true]) w' := fun w' ho => ⟨ho.cell c0 (by simp), ho.cell c6 (by simp), LK.out w' ho⟩
    have KEPT : Hid _ := kept
    clear kept
    refine wp_region_held_drew (S := fun w' => w'.cell? ⟨p.nb, 0, none⟩ = some (.int .i64 0) ∧ w'.cell? ⟨p.nb, 7, none⟩ = some (.map (some p.om)) ∧ (Instr.lookup 130 (.map (some p.om)) (keyV 0 t) true).run Tryz.prog w' = .ok (.tuple #[.agg #[.int .i64 m1, .int .i64 m2], .bool true]) w') (by kernel_rfl) (KEPT.out _ (Only.refl _ _).drew) (fun hHeld => ?_)
    refine takeD 0 8 (.pointer (some ⟨p.nb, 0, none⟩)) rfl rfl (by kernel_rfl) (by kernel_rfl) (by kernel_rfl) (fun _ _ _ h => h) (Or.inl ⟨by kernel_rfl, ?_⟩) (by assumption) ?_
    · intro w hSw; go_simp
    simp only [List.setIfInBounds_toArray, List.set_cons_zero, List.set_cons_succ]
    refine takeD 1 9 (.pointer (some ⟨p.nb, 0, none⟩)) rfl rfl (by kernel_rfl) (by kernel_rfl) (by kernel_rfl) (fun _ _ _ h => h) (Or.inl ⟨by kernel_rfl, ?_⟩) (by assumption) ?_
    · intro w hSw; go_simp
    simp only [List.setIfInBounds_toArray, List.set_cons_zero, List.set_cons_succ]
    refine takeD 2 10 (.pointer (some ⟨p.nb, 7, none⟩)) rfl rfl (by kernel_rfl) (by kernel_rfl) (by kernel_rfl) (fun _ _ _ h => h) (Or.inl ⟨by kernel_rfl, ?_⟩) (by assumption) ?_
    · intro w hSw; go_simp
    simp only [List.setIfInBounds_toArray, List.set_cons_zero, List.set_cons_succ]
    refine takeD 3 11 (.map (some p.om)) rfl rfl (by kernel_rfl) (by kernel_rfl) (by kernel_rfl) (fun _ _ _ h => h) (Or.inl ⟨by kernel_rfl, ?_⟩) (by assumption) ?_
    · intro w hSw; go_simp
    simp only [List.setIfInBounds_toArray, List.set_cons_zero, List.set_cons_succ]
    refine takeD 4 12 (.pointer (some ⟨p.nb, 0, none⟩)) rfl rfl (by kernel_rfl) (by kernel_rfl) (by kernel_rfl) (fun _ _ _ h => h) (Or.inl ⟨by kernel_rfl, ?_⟩) (by assumption) ?_
    · intro w hSw; go_simp
    simp only [List.setIfInBounds_toArray, List.set_cons_zero, List.set_cons_succ]
    refine takeD 5 13 (.pointer (some ⟨p.nb, 0, none⟩)) rfl rfl (by kernel_rfl) (by kernel_rfl) (by kernel_rfl) (fun _ _ _ h => h) (Or.inl ⟨by kernel_rfl, ?_⟩) (by assumption) ?_
    · intro w hSw; go_simp
    simp only [List.setIfInBounds_toArray, List.set_cons_zero, List.set_cons_succ]
    refine takeD 6 14 (.pointer (some ⟨p.nb, 0, none⟩)) rfl rfl (by kernel_rfl) (by kernel_rfl) (by kernel_rfl) (fun _ _ _ h => h) (Or.inl ⟨by kernel_rfl, ?_⟩) (by assumption) ?_
    · intro w hSw; go_simp
    simp only [List.setIfInBounds_toArray, List.set_cons_zero, List.set_cons_succ]
    refine takeD 7 15 (.int .i64 t) rfl rfl (by kernel_rfl) (by kernel_rfl) (by kernel_rfl) (fun _ _ _ h => h) (Or.inl ⟨by kernel_rfl, ?_⟩) (by assumption) ?_
    · intro w hSw; go_simp
    simp only [List.setIfInBounds_toArray, List.set_cons_zero, List.set_cons_succ]
    refine wpAnyH_ready (rs := [8, 13]) (by kernel_rfl) (by simp) ?_
    refine (AllReadyH.cons rfl (fun K hK => ?ordA2) (AllReadyH.cons rfl (fun K hK => ?ordB2) AllReadyH.nil))
    case' ordA2 =>
      go_simp
      refine (key_any p.nb 0 t _ (by first | simpa using c0 | exact (KEPT.out _ ((Only.refl _ _).drew.alloc _)).1 | exact (KEPT.out _ (((Only.refl _ _).alloc _).drew)).1)).mono ?_
      rintro e w3 ⟨rfl, hw3⟩
      have hO3 : Only [] w w3 := by rw [hw3]; exact (Only.refl _ _).drew.alloc _
      clear hw3
      go_wp2_with fail
      refine hK.out _ _ (KEPT.out _ hO3) (fun hHeld => ?_)
      clear hK K
      refine takeD 9 17 (.tuple #[.agg #[.int .i64 m1, .int .i64 m2], .bool true]) rfl rfl (by kernel_rfl) (by kernel_rfl) (by kernel_rfl) (fun _ _ _ h => h) (Or.inl ⟨by kernel_rfl, ?_⟩) (by assumption) ?_
      · intro w hSw; go_simp
      simp only [List.setIfInBounds_toArray, List.set_cons_zero, List.set_cons_succ]
      refine takeD 10 7 (.tuple #[.agg #[.int .i64 m1, .int .i64 m2], .bool true]) rfl rfl (by kernel_rfl) (by kernel_rfl) (by kernel_rfl) (fun _ _ _ h => h) (Or.inl ⟨by kernel_rfl, ?_⟩) (by assumption) ?_
      · intro w hSw; go_simp
      simp only [List.setIfInBounds_toArray, List.set_cons_zero, List.set_cons_succ]
      refine takeD 11 18 (.agg #[.int .i64 m1, .int .i64 m2]) rfl rfl (by kernel_rfl) (by kernel_rfl) (by kernel_rfl) (fun _ _ _ h => h) (Or.inl ⟨by kernel_rfl, ?_⟩) (by assumption) ?_
      · intro w hSw; go_simp
      simp only [List.setIfInBounds_toArray, List.set_cons_zero, List.set_cons_succ]
      refine takeD 12 19 (.bool true) rfl rfl (by kernel_rfl) (by kernel_rfl) (by kernel_rfl) (fun _ _ _ h => h) (Or.inl ⟨by kernel_rfl, ?_⟩) (by assumption) ?_
      · intro w hSw; go_simp
      simp only [List.setIfInBounds_toArray, List.set_cons_zero, List.set_cons_succ]
      refine wpAnyH_ready (rs := [13]) (by kernel_rfl) (by simp) ?_
      refine (AllReadyH.cons rfl (fun K hK => ?_) AllReadyH.nil)
      go_simp
      have hb : (w3.alloc (.cells #[.int .i64 0, .int .i64 0] 184)).heap[w3.heap.size]? = some (.cells #[.int .i64 0, .int .i64 0] 184 (0, 0)) := heap_alloc_new _ _
      have hO4 : Only [] w (w3.alloc (.cells #[.int .i64 0, .int .i64 0] 184)) := hO3.alloc _
      have hg : w.heap.size ≤ w3.heap.size := hO3.size
      refine hK.out _ _ (KEPT.out _ hO4) (fun hHeld => ?_)
      clear hK K hO3
      generalize hG : w3.heap.size = G at *
      generalize (w3.alloc (.cells #[.int .i64 0, .int .i64 0] 184)) = w4 at *
      clear hG
    case' ordB2 =>
      go_simp
      refine hK.out _ _ (KEPT.out _ (((Only.refl _ _).alloc _).drew)) (fun hHeld => ?_)
      clear hK K
      refine wpAnyH_ready (rs := [8]) (by kernel_rfl) (by simp) ?_
      refine (AllReadyH.cons rfl (fun K hK => ?_) AllReadyH.nil)
      go_simp
      refine (key_any p.nb 0 t _ (by first | simpa using c0 | exact (KEPT.out _ ((Only.refl _ _).drew.alloc _)).1 | exact (KEPT.out _ (((Only.refl _ _).alloc _).drew)).1)).mono ?_
      rintro e w3 ⟨rfl, hw3⟩
      have hO4 : Only [] w w3 := by rw [hw3]; first | exact (((Only.refl _ _).alloc _).drew.alloc _) | exact (((Only.refl _ _).drew.alloc _).alloc _)
      have hb : w3.heap[w.heap.size]? = some (.cells #[.int .i64 0, .int .i64 0] 184 (0, 0)) := by
        rw [hw3, Below.heap_alloc _ _ _ (by simp)]
        exact heap_alloc_new w _
      have hg : w.heap.size ≤ w.heap.size := Nat.le_refl _
      clear hw3
      go_wp2_with fail
      refine hK.out _ _ (KEPT.out _ hO4) (fun hHeld => ?_)
      clear hK K
      refine takeD 9 17 (.tuple #[.agg #[.int .i64 m1, .int .i64 m2], .bool true]) rfl rfl (by kernel_rfl) (by kernel_rfl) (by kernel_rfl) (fun _ _ _ h => h) (Or.inl ⟨by kernel_rfl, ?_⟩) (by assumption) ?_
      · intro w hSw; go_simp
      simp only [List.setIfInBounds_toArray, List.set_cons_zero, List.set_cons_succ]
      refine takeD 10 7 (.tuple #[.agg #[.int .i64 m1, .int .i64 m2], .bool true]) rfl rfl (by kernel_rfl) (by kernel_rfl) (by kernel_rfl) (fun _ _ _ h => h) (Or.inl ⟨by kernel_rfl, ?_⟩) (by assumption) ?_
      · intro w hSw; go_simp
      simp only [List.setIfInBounds_toArray, List.set_cons_zero, List.set_cons_succ]
      refine takeD 11 18 (.agg #[.int .i64 m1, .int .i64 m2]) rfl rfl (by kernel_rfl) (by kernel_rfl) (by kernel_rfl) (fun _ _ _ h => h) (Or.inl ⟨by kernel_rfl, ?_⟩) (by assumption) ?_
      · intro w hSw; go_simp
      simp only [List.setIfInBounds_toArray, List.set_cons_zero, List.set_cons_succ]
      refine takeD 12 19 (.bool true) rfl rfl (by kernel_rfl) (by kernel_rfl) (by kernel_rfl) (fun _ _ _ h => h) (Or.inl ⟨by kernel_rfl, ?_⟩) (by assumption) ?_
      · intro w hSw; go_simp
      simp only [List.setIfInBounds_toArray, List.set_cons_zero, List.set_cons_succ]
      generalize hG : w.heap.size = G at hb ⊢
      have hg : w.heap.size ≤ G := by omega
      clear hG
      generalize hW : w3 = w4 at *
      clear hW
    all_goals
      have q0 : w4.cell? ⟨G, 0, none⟩ = some (.int .i64 0) := by rw [cell_of_row _ _ _ _ _ _ hb]; rfl
      have q1 : w4.cell? ⟨G, 1, none⟩ = some (.int .i64 0) := by rw [cell_of_row _ _ _ _ _ _ hb]; rfl
      have qf : ∀ i, w4.frozen? ⟨G, i, none⟩ = false := fun i => frozen_of_row _ _ _ _ _ hb
      refine wpAnyH_ready (rs := [14]) (by kernel_rfl) (by simp) ?_
      refine (AllReadyH.cons rfl (fun K hK => ?_) AllReadyH.nil)
      go_simp
      have key := two_set2 (.int .i64 m1) (.int .i64 m2) hb
      have hO5 : Only [] w ((w4.setCell ⟨G, 0, none⟩ (.int .i64 m1)).setCell ⟨G, 1, none⟩ (.int .i64 m2)) := (hO4.setCell (.inr hg) _).setCell (.inr hg) _
      refine hK.out _ _ (KEPT.out _ hO5) (fun hHeld => ?_)
      clear hK K q0 q1 qf
      generalize ((w4.setCell ⟨G, 0, none⟩ (.int .i64 m1)).setCell ⟨G, 1, none⟩ (.int .i64 m2)) = w5 at *
      have q0 : w5.cell? ⟨G, 0, none⟩ = some (.int .i64 m1) := by rw [cell_of_row _ _ _ _ _ _ key]; rfl
      refine takeD 15 6 (.bool true) rfl rfl (by kernel_rfl) (by kernel_rfl) (by kernel_rfl) (fun _ _ _ h => h) (Or.inl ⟨by kernel_rfl, ?_⟩) (by assumption) ?_
      · intro w hSw; go_simp
      simp only [List.setIfInBounds_toArray, List.set_cons_zero, List.set_cons_succ]
      refine wpAnyH_done (by kernel_rfl) ?_ _
      clear q0 key hb
      go_wp2_with fail
      go_ret
      exact ⟨by rw [HR.out, if_pos (by simp)]; rfl, hO5⟩

/-- What is answered to who asks. -/
def CS.answers (ss : List Int) (f t : Int) (c : CS) : List (Int × Int × Int × Int) := match lookM 0 t c.O with
  | none => [(presdI (ss.getD (f - 1).toNat 0), 0, f, t)]
  | some v => if v.1 = 0 then [] else [(v.1, 0, f, t)]
theorem one_num (B : Nat) (w : World) (x : Int) (hB : B ≤ w.heap.size) : Nums2 B (w.alloc (.cells #[.int .i64 x] 3)) (.slice (some ⟨w.heap.size, 0, none⟩) 1 1) [x] :=
  ⟨rfl, .inr ⟨w.heap.size, 1, _, rfl, hB, heap_alloc_new w _, Nat.le_refl _, by decide, rfl, rfl⟩⟩

set_option maxRecDepth 100000 in
set_option maxHeartbeats 8000000 in
theorem answer_any (p : CoP) (ss : List Int) (wait : Int) (c : CS) (f t : Int) (w : World) (hC : CoAt w p ss wait c) (hf1 : 1 ≤ f) (hf2 : f ≤ ss.length) (hN : ss.length ≤ 100) :
    Calls Tryz.prog 237 #[.pointer (some ⟨p.nb, 0, none⟩), .int .i64 f, .int .i64 t] w fun e w' => ∃ v, e = .returned v ∧ Only [] w w' ∧ Sent2 w.heap.size w' v (c.answers ss f t) := by
  obtain ⟨i, hi, rfl⟩ : ∃ i : Nat, i < ss.length ∧ f = (i : Int) + 1 := ⟨(f - 1).toNat, by omega, by omega⟩
  clear hf1 hf2
  obtain ⟨c0, -⟩ := hC.node.cells
  obtain ⟨c4, -, c6, -, -⟩ := hC.cells
  have HC : Hid (CoAt w p ss wait c) := hC
  have hsort : ∀ w', Only [] w w' → w'.cell? ⟨p.sb, i, none⟩ = some (.int .i64 (ss.getD i 0)) := by
    intro w' ho
    rw [(hC.sorts.only ho (by simp)).cell i (by simp [intsV]; exact hi)]; simp [intsV, hi]
  have SORT : Hid (∀ w', Only [] w w' → w'.cell? ⟨p.sb, i, none⟩ = some (.int .i64 (ss.getD i 0))) := hsort
  clear hC hsort
  have LK : Hid (∀ w', Only [] w w' → (Instr.lookup 130 (.map (some p.om)) (keyV 0 t) true).run Tryz.prog w' = .ok (.tuple #[.agg #[.int .i64 ((lookM 0 t c.O).getD (0, 0)).1, .int .i64 ((lookM 0 t c.O).getD (0, 0)).2], .bool (lookM 0 t c.O).isSome]) w') := fun w' ho => run_lookM (HC.out.opens.only ho (by simp)) 0 t
  have HR : Hid (c.answers ss ((i : Int) + 1) t = if (lookM 0 t c.O).isSome = true then (if ((lookM 0 t c.O).getD (0, 0)).1 = 0 then [] else toAll ((lookM 0 t c.O).getD (0, 0)).1 t [((i : Int) + 1)]) else toAll (presdI (ss.getD i 0)) t [((i : Int) + 1)]) := by
    show _ = _
    unfold CS.answers
    have ei : ((i : Int) + 1 - 1).toNat = i := by omega
    rw [ei]
    cases lookM 0 t c.O <;> simp [toAll]
  generalize ((lookM 0 t c.O).getD (0, 0)).1 = m1 at *
  generalize ((lookM 0 t c.O).getD (0, 0)).2 = m2 at *
  generalize (lookM 0 t c.O).isSome = op at *
  cases op
  · go_enter Tryz.func237, Tryz.ntmps237
    go_wp2
    have kept : ∀ w', Only [] w w' → w'.cell? ⟨p.nb, 0, none⟩ = some (.int .i64 0) ∧ w'.cell? ⟨p.nb, 7, none⟩ = some (.map (some p.om)) ∧ (Instr.lookup 130 (.map (some p.om)) (keyV 0 t) true).run Tryz.prog w' = .ok (.tuple #[.agg #[.int .i64 m1, .int .i64 m2], .bool false]) w' := fun w' ho => ⟨ho.cell c0 (by simp), ho.cell c6 (by simp), LK.out w' ho⟩
    have KEPT : Hid _ := kept
    clear kept
    refine wp_region_held_drew (S := fun w' => w'.cell? ⟨p.nb, 0, none⟩ = some (.int .i64 0) ∧ w'.cell? ⟨p.nb, 7, none⟩ = some (.map (some p.om)) ∧ (Instr.lookup 130 (.map (some p.om)) (keyV 0 t) true).run Tryz.prog w' = .ok (.tuple #[.agg #[.int .i64 m1, .int .i64 m2], .bool false]) w') (by kernel_rfl) (KEPT.out _ (Only.refl _ _).drew) (fun hHeld => ?_)
    refine takeD 0 11 (.pointer (some ⟨p.nb, 0, none⟩)) rfl rfl (by kernel_rfl) (by kernel_rfl) (by kernel_rfl) (fun _ _ _ h => h) (Or.inl ⟨by kernel_rfl, ?_⟩) (by assumption) ?_
    · intro w hSw; go_simp
    simp only [List.setIfInBounds_toArray, List.set_cons_zero, List.set_cons_succ]
    refine takeD 1 12 (.pointer (some ⟨p.nb, 0, none⟩)) rfl rfl (by kernel_rfl) (by kernel_rfl) (by kernel_rfl) (fun _ _ _ h => h) (Or.inl ⟨by kernel_rfl, ?_⟩) (by assumption) ?_
    · intro w hSw; go_simp
    simp only [List.setIfInBounds_toArray, List.set_cons_zero, List.set_cons_succ]
    refine takeD 2 13 (.pointer (some ⟨p.nb, 7, none⟩)) rfl rfl (by kernel_rfl) (by kernel_rfl) (by kernel_rfl) (fun _ _ _ h => h) (Or.inl ⟨by kernel_rfl, ?_⟩) (by assumption) ?_
    · intro w hSw; go_simp
    simp only [List.setIfInBounds_toArray, List.set_cons_zero, List.set_cons_succ]
    refine takeD 3 14 (.map (some p.om)) rfl rfl (by kernel_rfl) (by kernel_rfl) (by kernel_rfl) (fun _ _ _ h => h) (Or.inl ⟨by kernel_rfl, ?_⟩) (by assumption) ?_
    · intro w hSw; go_simp
    simp only [List.setIfInBounds_toArray, List.set_cons_zero, List.set_cons_succ]
    refine takeD 4 15 (.pointer (some ⟨p.nb, 0, none⟩)) rfl rfl (by kernel_rfl) (by kernel_rfl) (by kernel_rfl) (fun _ _ _ h => h) (Or.inl ⟨by kernel_rfl, ?_⟩) (by assumption) ?_
    · intro w hSw; go_simp
    simp only [List.setIfInBounds_toArray, List.set_cons_zero, List.set_cons_succ]
    refine takeD 5 16 (.pointer (some ⟨p.nb, 0, none⟩)) rfl rfl (by kernel_rfl) (by kernel_rfl) (by kernel_rfl) (fun _ _ _ h => h) (Or.inl ⟨by kernel_rfl, ?_⟩) (by assumption) ?_
    · intro w hSw; go_simp
    simp only [List.setIfInBounds_toArray, List.set_cons_zero, List.set_cons_succ]
    refine takeD 6 17 (.pointer (some ⟨p.nb, 0, none⟩)) rfl rfl (by kernel_rfl) (by kernel_rfl) (by kernel_rfl) (fun _ _ _ h => h) (Or.inl ⟨by kernel_rfl, ?_⟩) (by assumption) ?_
    · intro w hSw; go_simp
    simp only [List.setIfInBounds_toArray, List.set_cons_zero, List.set_cons_succ]
    refine takeD 7 18 (.int .i64 t) rfl rfl (by kernel_rfl) (by kernel_rfl) (by kernel_rfl) (fun _ _ _ h => h) (Or.inl ⟨by kernel_rfl, ?_⟩) (by assumption) ?_
    · intro w hSw; go_simp
    simp only [List.setIfInBounds_toArray, List.set_cons_zero, List.set_cons_succ]
    refine wpAnyH_ready (rs := [8, 13]) (by kernel_rfl) (by simp) ?_
    refine (AllReadyH.cons rfl (fun K hK => ?ordA3) (AllReadyH.cons rfl (fun K hK => ?ordB3) AllReadyH.nil))
    case' ordA3 =>
      go_simp
      refine (key_any p.nb 0 t _ (by first | simpa using c0 | exact (KEPT.out _ ((Only.refl _ _).drew.alloc _)).1 | exact (KEPT.out _ (((Only.refl _ _).alloc _).drew)).1)).mono ?_
      rintro e w3 ⟨rfl, hw3⟩
      have hO3 : Only [] w w3 := by rw [hw3]; exact (Only.refl _ _).drew.alloc _
      clear hw3
      go_wp2_with fail
      refine hK.out _ _ (KEPT.out _ hO3) (fun hHeld => ?_)
      clear hK K
      refine takeD 9 20 (.tuple #[.agg #[.int .i64 m1, .int .i64 m2], .bool false]) rfl rfl (by kernel_rfl) (by kernel_rfl) (by kernel_rfl) (fun _ _ _ h => h) (Or.inl ⟨by kernel_rfl, ?_⟩) (by assumption) ?_
      · intro w hSw; go_simp
      simp only [List.setIfInBounds_toArray, List.set_cons_zero, List.set_cons_succ]
      refine takeD 10 10 (.tuple #[.agg #[.int .i64 m1, .int .i64 m2], .bool false]) rfl rfl (by kernel_rfl) (by kernel_rfl) (by kernel_rfl) (fun _ _ _ h => h) (Or.inl ⟨by kernel_rfl, ?_⟩) (by assumption) ?_
      · intro w hSw; go_simp
      simp only [List.setIfInBounds_toArray, List.set_cons_zero, List.set_cons_succ]
      refine takeD 11 21 (.agg #[.int .i64 m1, .int .i64 m2]) rfl rfl (by kernel_rfl) (by kernel_rfl) (by kernel_rfl) (fun _ _ _ h => h) (Or.inl ⟨by kernel_rfl, ?_⟩) (by assumption) ?_
      · intro w hSw; go_simp
      simp only [List.setIfInBounds_toArray, List.set_cons_zero, List.set_cons_succ]
      refine takeD 12 22 (.bool false) rfl rfl (by kernel_rfl) (by kernel_rfl) (by kernel_rfl) (fun _ _ _ h => h) (Or.inl ⟨by kernel_rfl, ?_⟩) (by assumption) ?_
      · intro w hSw; go_simp
      simp only [List.setIfInBounds_toArray, List.set_cons_zero, List.set_cons_succ]
      refine wpAnyH_ready (rs := [13]) (by kernel_rfl) (by simp) ?_
      refine (AllReadyH.cons rfl (fun K hK => ?_) AllReadyH.nil)
      go_simp
      have hb : (w3.alloc (.cells #[.int .i64 0, .int .i64 0] 184)).heap[w3.heap.size]? = some (.cells #[.int .i64 0, .int .i64 0] 184 (0, 0)) := heap_alloc_new _ _
      have hO4 : Only [] w (w3.alloc (.cells #[.int .i64 0, .int .i64 0] 184)) := hO3.alloc _
      have hg : w.heap.size ≤ w3.heap.size := hO3.size
      refine hK.out _ _ (KEPT.out _ hO4) (fun hHeld => ?_)
      clear hK K hO3
      generalize hG : w3.heap.size = G at *
      generalize (w3.alloc (.cells #[.int .i64 0, .int .i64 0] 184)) = w4 at *
      clear hG
    case' ordB3 =>
      go_simp
      refine hK.out _ _ (KEPT.out _ (((Only.refl _ _).alloc _).drew)) (fun hHeld => ?_)
      clear hK K
      refine wpAnyH_ready (rs := [8]) (by kernel_rfl) (by simp) ?_
      refine (AllReadyH.cons rfl (fun K hK => ?_) AllReadyH.nil)
      go_simp
      refine (key_any p.nb 0 t _ (by first | simpa using c0 | exact (KEPT.out _ ((Only.refl _ _).drew.alloc _)).1 | exact (KEPT.out _ (((Only.refl _ _).alloc _).drew)).1)).mono ?_
      rintro e w3 ⟨rfl, hw3⟩
      have hO4 : Only [] w w3 := by rw [hw3]; first | exact (((Only.refl _ _).alloc _).drew.alloc _) | exact (((Only.refl _ _).drew.alloc _).alloc _)
      have hb : w3.heap[w.heap.size]? = some (.cells #[.int .i64 0, .int .i64 0] 184 (0, 0)) := by
        rw [hw3, Below.heap_alloc _ _ _ (by simp)]
        exact heap_alloc_new w _
      have hg : w.heap.size ≤ w.heap.size := Nat.le_refl _
      clear hw3
      go_wp2_with fail
      refine hK.out _ _ (KEPT.out _ hO4) (fun hHeld => ?_)
      clear hK K
      refine takeD 9 20 (.tuple #[.agg #[.int .i64 m1, .int .i64 m2], .bool false]) rfl rfl (by kernel_rfl) (by kernel_rfl) (by kernel_rfl) (fun _ _ _ h => h) (Or.inl ⟨by kernel_rfl, ?_⟩) (by assumption) ?_
      · intro w hSw; go_simp
      simp only [List.setIfInBounds_toArray, List.set_cons_zero, List.set_cons_succ]
      refine takeD 10 10 (.tuple #[.agg #[.int .i64 m1, .int .i64 m2], .bool false]) rfl rfl (by kernel_rfl) (by kernel_rfl) (by kernel_rfl) (fun _ _ _ h => h) (Or.inl ⟨by kernel_rfl, ?_⟩) (by assumption) ?_
      · intro w hSw; go_simp
      simp only [List.setIfInBounds_toArray, List.set_cons_zero, List.set_cons_succ]
      refine takeD 11 21 (.agg #[.int .i64 m1, .int .i64 m2]) rfl rfl (by kernel_rfl) (by kernel_rfl) (by kernel_rfl) (fun _ _ _ h => h) (Or.inl ⟨by kernel_rfl, ?_⟩) (by assumption) ?_
      · intro w hSw; go_simp
      simp only [List.setIfInBounds_toArray, List.set_cons_zero, List.set_cons_succ]
      refine takeD 12 22 (.bool false) rfl rfl (by kernel_rfl) (by kernel_rfl) (by kernel_rfl) (fun _ _ _ h => h) (Or.inl ⟨by kernel_rfl, ?_⟩) (by assumption) ?_
      · intro w hSw; go_simp
      simp only [List.setIfInBounds_toArray, List.set_cons_zero, List.set_cons_succ]
      generalize hG : w.heap.size = G at hb ⊢
      have hg : w.heap.size ≤ G := by omega
      clear hG
      generalize hW : w3 = w4 at *
      clear hW
    all_goals
      have q0 : w4.cell? ⟨G, 0, none⟩ = some (.int .i64 0) := by rw [cell_of_row _ _ _ _ _ _ hb]; rfl
      have q1 : w4.cell? ⟨G, 1, none⟩ = some (.int .i64 0) := by rw [cell_of_row _ _ _ _ _ _ hb]; rfl
      have qf : ∀ i, w4.frozen? ⟨G, i, none⟩ = false := fun i => frozen_of_row _ _ _ _ _ hb
      refine wpAnyH_ready (rs := [14]) (by kernel_rfl) (by simp) ?_
      refine (AllReadyH.cons rfl (fun K hK => ?_) AllReadyH.nil)
      go_simp
      have key := two_set2 (.int .i64 m1) (.int .i64 m2) hb
      have hO5 : Only [] w ((w4.setCell ⟨G, 0, none⟩ (.int .i64 m1)).setCell ⟨G, 1, none⟩ (.int .i64 m2)) := (hO4.setCell (.inr hg) _).setCell (.inr hg) _
      refine hK.out _ _ (KEPT.out _ hO5) (fun hHeld => ?_)
      clear hK K q0 q1 qf
      generalize ((w4.setCell ⟨G, 0, none⟩ (.int .i64 m1)).setCell ⟨G, 1, none⟩ (.int .i64 m2)) = w5 at *
      have q0 : w5.cell? ⟨G, 0, none⟩ = some (.int .i64 m1) := by rw [cell_of_row _ _ _ _ _ _ key]; rfl
      refine takeD 15 8 (.bool false) rfl rfl (by kernel_rfl) (by kernel_rfl) (by kernel_rfl) (fun _ _ _ h => h) (Or.inl ⟨by kernel_rfl, ?_⟩) (by assumption) ?_
      · intro w hSw; go_simp
      simp only [List.setIfInBounds_toArray, List.set_cons_zero, List.set_cons_succ]
      refine wpAnyH_done (by kernel_rfl) ?_ _
      clear key hb hO4 hg
      have HO5 : Hid (Only [] w w5) := hO5
      have c4' := hO5.cell c4 (by simp)
      have hz5 : w.heap.size ≤ w5.heap.size := hO5.size
      clear hO5
      have hcs := SORT.out w5 HO5.out
      generalize ss.getD i 0 = srt at *
      go_wp2_with fail
      refine (presumed_any _ _).mono ?_
      rintro e w6 ⟨rfl, rfl⟩
      go_wp2_with fail
      refine (tell_any p ss wait c (presdI srt) t w5.heap.size _ [((i : Int) + 1)] (w5.alloc (.cells #[.int .i64 ((i : Int) + 1)] 3)) (HC.out.only0 (HO5.out.alloc _)) (one_num _ _ ((i : Int) + 1) (Nat.le_refl _)) (by simp)).mono ?_
      rintro e w9 ⟨v, rfl, hO9, hs9⟩
      have R : Hid (Only [] w w9 ∧ Sent2 w.heap.size w9 v (c.answers ss ((i : Int) + 1) t)) := ⟨(HO5.out.alloc _).trans hO9, by rw [HR.out, if_neg (by simp)]; exact ownsRow_base hs9 (by simp; omega)⟩
      clear hO9 hs9
      go_wp2_with fail
      go_ret
      exact ⟨v, rfl, R.out⟩
  · go_enter Tryz.func237, Tryz.ntmps237
    go_wp2
    have kept : ∀ w', Only [] w w' → w'.cell? ⟨p.nb, 0, none⟩ = some (.int .i64 0) ∧ w'.cell? ⟨p.nb, 7, none⟩ = some (.map (some p.om)) ∧ (Instr.lookup 130 (.map (some p.om)) (keyV 0 t) true).run Tryz.prog w' = .ok (.tuple #[.agg #[.int .i64 m1, .int .i64 m2], .bool true]) w' := fun w' ho => ⟨ho.cell c0 (by simp), ho.cell c6 (by simp), LK.out w' ho⟩
    have KEPT : Hid _ := kept
    clear kept
    refine wp_region_held_drew (S := fun w' => w'.cell? ⟨p.nb, 0, none⟩ = some (.int .i64 0) ∧ w'.cell? ⟨p.nb, 7, none⟩ = some (.map (some p.om)) ∧ (Instr.lookup 130 (.map (some p.om)) (keyV 0 t) true).run Tryz.prog w' = .ok (.tuple #[.agg #[.int .i64 m1, .int .i64 m2], .bool true]) w') (by kernel_rfl) (KEPT.out _ (Only.refl _ _).drew) (fun hHeld => ?_)
    refine takeD 0 11 (.pointer (some ⟨p.nb, 0, none⟩)) rfl rfl (by kernel_rfl) (by kernel_rfl) (by kernel_rfl) (fun _ _ _ h => h) (Or.inl ⟨by kernel_rfl, ?_⟩) (by assumption) ?_
    · intro w hSw; go_simp
    simp only [List.setIfInBounds_toArray, List.set_cons_zero, List.set_cons_succ]
    refine takeD 1 12 (.pointer (some ⟨p.nb, 0, none⟩)) rfl rfl (by kernel_rfl) (by kernel_rfl) (by kernel_rfl) (fun _ _ _ h => h) (Or.inl ⟨by kernel_rfl, ?_⟩) (by assumption) ?_
    · intro w hSw; go_simp
    simp only [List.setIfInBounds_toArray, List.set_cons_zero, List.set_cons_succ]
    refine takeD 2 13 (.pointer (some ⟨p.nb, 7, none⟩)) rfl rfl (by kernel_rfl) (by kernel_rfl) (by kernel_rfl) (fun _ _ _ h => h) (Or.inl ⟨by kernel_rfl, ?_⟩) (by assumption) ?_
    · intro w hSw; go_simp
    simp only [List.setIfInBounds_toArray, List.set_cons_zero, List.set_cons_succ]
    refine takeD 3 14 (.map (some p.om)) rfl rfl (by kernel_rfl) (by kernel_rfl) (by kernel_rfl) (fun _ _ _ h => h) (Or.inl ⟨by kernel_rfl, ?_⟩) (by assumption) ?_
    · intro w hSw; go_simp
    simp only [List.setIfInBounds_toArray, List.set_cons_zero, List.set_cons_succ]
    refine takeD 4 15 (.pointer (some ⟨p.nb, 0, none⟩)) rfl rfl (by kernel_rfl) (by kernel_rfl) (by kernel_rfl) (fun _ _ _ h => h) (Or.inl ⟨by kernel_rfl, ?_⟩) (by assumption) ?_
    · intro w hSw; go_simp
    simp only [List.setIfInBounds_toArray, List.set_cons_zero, List.set_cons_succ]
    refine takeD 5 16 (.pointer (some ⟨p.nb, 0, none⟩)) rfl rfl (by kernel_rfl) (by kernel_rfl) (by kernel_rfl) (fun _ _ _ h => h) (Or.inl ⟨by kernel_rfl, ?_⟩) (by assumption) ?_
    · intro w hSw; go_simp
    simp only [List.setIfInBounds_toArray, List.set_cons_zero, List.set_cons_succ]
    refine takeD 6 17 (.pointer (some ⟨p.nb, 0, none⟩)) rfl rfl (by kernel_rfl) (by kernel_rfl) (by kernel_rfl) (fun _ _ _ h => h) (Or.inl ⟨by kernel_rfl, ?_⟩) (by assumption) ?_
    · intro w hSw; go_simp
    simp only [List.setIfInBounds_toArray, List.set_cons_zero, List.set_cons_succ]
    refine takeD 7 18 (.int .i64 t) rfl rfl (by kernel_rfl) (by kernel_rfl) (by kernel_rfl) (fun _ _ _ h => h) (Or.inl ⟨by kernel_rfl, ?_⟩) (by assumption) ?_
    · intro w hSw; go_simp
    simp only [List.setIfInBounds_toArray, List.set_cons_zero, List.set_cons_succ]
    refine wpAnyH_ready (rs := [8, 13]) (by kernel_rfl) (by simp) ?_
    refine (AllReadyH.cons rfl (fun K hK => ?ordA4) (AllReadyH.cons rfl (fun K hK => ?ordB4) AllReadyH.nil))
    case' ordA4 =>
      go_simp
      refine (key_any p.nb 0 t _ (by first | simpa using c0 | exact (KEPT.out _ ((Only.refl _ _).drew.alloc _)).1 | exact (KEPT.out _ (((Only.refl _ _).alloc _).drew)).1)).mono ?_
      rintro e w3 ⟨rfl, hw3⟩
      have hO3 : Only [] w w3 := by rw [hw3]; exact (Only.refl _ _).drew.alloc _
      clear hw3
      go_wp2_with fail
      refine hK.out _ _ (KEPT.out _ hO3) (fun hHeld => ?_)
      clear hK K
      refine takeD 9 20 (.tuple #[.agg #[.int .i64 m1, .int .i64 m2], .bool true]) rfl rfl (by kernel_rfl) (by kernel_rfl) (by kernel_rfl) (fun _ _ _ h => h) (Or.inl ⟨by kernel_rfl, ?_⟩) (by assumption) ?_
      · intro w hSw; go_simp
      simp only [List.setIfInBounds_toArray, List.set_cons_zero, List.set_cons_succ]
      refine takeD 10 10 (.tuple #[.agg #[.int .i64 m1, .int .i64 m2], .bool true]) rfl rfl (by kernel_rfl) (by kernel_rfl) (by kernel_rfl) (fun _ _ _ h => h) (Or.inl ⟨by kernel_rfl, ?_⟩) (by assumption) ?_
      · intro w hSw; go_simp
      simp only [List.setIfInBounds_toArray, List.set_cons_zero, List.set_cons_succ]
      refine takeD 11 21 (.agg #[.int .i64 m1, .int .i64 m2]) rfl rfl (by kernel_rfl) (by kernel_rfl) (by kernel_rfl) (fun _ _ _ h => h) (Or.inl ⟨by kernel_rfl, ?_⟩) (by assumption) ?_
      · intro w hSw; go_simp
      simp only [List.setIfInBounds_toArray, List.set_cons_zero, List.set_cons_succ]
      refine takeD 12 22 (.bool true) rfl rfl (by kernel_rfl) (by kernel_rfl) (by kernel_rfl) (fun _ _ _ h => h) (Or.inl ⟨by kernel_rfl, ?_⟩) (by assumption) ?_
      · intro w hSw; go_simp
      simp only [List.setIfInBounds_toArray, List.set_cons_zero, List.set_cons_succ]
      refine wpAnyH_ready (rs := [13]) (by kernel_rfl) (by simp) ?_
      refine (AllReadyH.cons rfl (fun K hK => ?_) AllReadyH.nil)
      go_simp
      have hb : (w3.alloc (.cells #[.int .i64 0, .int .i64 0] 184)).heap[w3.heap.size]? = some (.cells #[.int .i64 0, .int .i64 0] 184 (0, 0)) := heap_alloc_new _ _
      have hO4 : Only [] w (w3.alloc (.cells #[.int .i64 0, .int .i64 0] 184)) := hO3.alloc _
      have hg : w.heap.size ≤ w3.heap.size := hO3.size
      refine hK.out _ _ (KEPT.out _ hO4) (fun hHeld => ?_)
      clear hK K hO3
      generalize hG : w3.heap.size = G at *
      generalize (w3.alloc (.cells #[.int .i64 0, .int .i64 0] 184)) = w4 at *
      clear hG
    case' ordB4 =>
      go_simp
      refine hK.out _ _ (KEPT.out _ (((Only.refl _ _).alloc _).drew)) (fun hHeld => ?_)
      clear hK K
      refine wpAnyH_ready (rs := [8]) (by kernel_rfl) (by simp) ?_
      refine (AllReadyH.cons rfl (fun K hK => ?_) AllReadyH.nil)
      go_simp
      refine (key_any p.nb 0 t _ (by first | simpa using c0 | exact (KEPT.out _ ((Only.refl _ _).drew.alloc _)).1 | exact (KEPT.out _ (((Only.refl _ _).alloc _).drew)).1)).mono ?_
      rintro e w3 ⟨rfl, hw3⟩
      have hO4 : Only [] w w3 := by rw [hw3]; first | exact (((Only.refl _ _).alloc _).drew.alloc _) | exact (((Only.refl _ _).drew.alloc _).alloc _)
      have hb : w3.heap[w.heap.size]? = some (.cells #[.int .i64 0, .int .i64 0] 184 (0, 0)) := by
        rw [hw3, Below.heap_alloc _ _ _ (by simp)]
        exact heap_alloc_new w _
      have hg : w.heap.size ≤ w.heap.size := Nat.le_refl _
      clear hw3
      go_wp2_with fail
      refine hK.out _ _ (KEPT.out _ hO4) (fun hHeld => ?_)
      clear hK K
      refine takeD 9 20 (.tuple #[.agg #[.int .i64 m1, .int .i64 m2], .bool true]) rfl rfl (by kernel_rfl) (by kernel_rfl) (by kernel_rfl) (fun _ _ _ h => h) (Or.inl ⟨by kernel_rfl, ?_⟩) (by assumption) ?_
      · intro w hSw; go_simp
      simp only [List.setIfInBounds_toArray, List.set_cons_zero, List.set_cons_succ]
      refine takeD 10 10 (.tuple #[.agg #[.int .i64 m1, .int .i64 m2], .bool true]) rfl rfl (by kernel_rfl) (by kernel_rfl) (by kernel_rfl) (fun _ _ _ h => h) (Or.inl ⟨by kernel_rfl, ?_⟩) (by assumption) ?_
      · intro w hSw; go_simp
      simp only [List.setIfInBounds_toArray, List.set_cons_zero, List.set_cons_succ]
      refine takeD 11 21 (.agg #[.int .i64 m1, .int .i64 m2]) rfl rfl (by kernel_rfl) (by kernel_rfl) (by kernel_rfl) (fun _ _ _ h => h) (Or.inl ⟨by kernel_rfl, ?_⟩) (by assumption) ?_
      · intro w hSw; go_simp
      simp only [List.setIfInBounds_toArray, List.set_cons_zero, List.set_cons_succ]
      refine takeD 12 22 (.bool true) rfl rfl (by kernel_rfl) (by kernel_rfl) (by kernel_rfl) (fun _ _ _ h => h) (Or.inl ⟨by kernel_rfl, ?_⟩) (by assumption) ?_
      · intro w hSw; go_simp
      simp only [List.setIfInBounds_toArray, List.set_cons_zero, List.set_cons_succ]
      generalize hG : w.heap.size = G at hb ⊢
      have hg : w.heap.size ≤ G := by omega
      clear hG
      generalize hW : w3 = w4 at *
      clear hW
    all_goals
      have q0 : w4.cell? ⟨G, 0, none⟩ = some (.int .i64 0) := by rw [cell_of_row _ _ _ _ _ _ hb]; rfl
      have q1 : w4.cell? ⟨G, 1, none⟩ = some (.int .i64 0) := by rw [cell_of_row _ _ _ _ _ _ hb]; rfl
      have qf : ∀ i, w4.frozen? ⟨G, i, none⟩ = false := fun i => frozen_of_row _ _ _ _ _ hb
      refine wpAnyH_ready (rs := [14]) (by kernel_rfl) (by simp) ?_
      refine (AllReadyH.cons rfl (fun K hK => ?_) AllReadyH.nil)
      go_simp
      have key := two_set2 (.int .i64 m1) (.int .i64 m2) hb
      have hO5 : Only [] w ((w4.setCell ⟨G, 0, none⟩ (.int .i64 m1)).setCell ⟨G, 1, none⟩ (.int .i64 m2)) := (hO4.setCell (.inr hg) _).setCell (.inr hg) _
      refine hK.out _ _ (KEPT.out _ hO5) (fun hHeld => ?_)
      clear hK K q0 q1 qf
      generalize ((w4.setCell ⟨G, 0, none⟩ (.int .i64 m1)).setCell ⟨G, 1, none⟩ (.int .i64 m2)) = w5 at *
      have q0 : w5.cell? ⟨G, 0, none⟩ = some (.int .i64 m1) := by rw [cell_of_row _ _ _ _ _ _ key]; rfl
      refine takeD 15 8 (.bool true) rfl rfl (by kernel_rfl) (by kernel_rfl) (by kernel_rfl) (fun _ _ _ h => h) (Or.inl ⟨by kernel_rfl, ?_⟩) (by assumption) ?_
      · intro w hSw; go_simp
      simp only [List.setIfInBounds_toArray, List.set_cons_zero, List.set_cons_succ]
      refine wpAnyH_done (by kernel_rfl) ?_ _
      clear key hb hO4 hg
      have HO5 : Hid (Only [] w w5) := hO5
      have c4' := hO5.cell c4 (by simp)
      have hz5 : w.heap.size ≤ w5.heap.size := hO5.size
      clear hO5
      by_cases h0 : m1 = 0
      · subst h0
        go_wp2_with fail
        go_ret
        exact ⟨_, rfl, HO5.out, by rw [HR.out, if_pos (by simp), if_pos (by simp)]; exact sent_none _ _⟩
      · have hq : decide (m1 = 0) = false := by simpa using h0
        go_wp2_with fail
        refine (tell_any p ss wait c m1 t w5.heap.size _ [((i : Int) + 1)] (w5.alloc (.cells #[.int .i64 ((i : Int) + 1)] 3)) (HC.out.only0 (HO5.out.alloc _)) (one_num _ _ ((i : Int) + 1) (Nat.le_refl _)) (by simp)).mono ?_
        rintro e w9 ⟨v, rfl, hO9, hs9⟩
        have R : Hid (Only [] w w9 ∧ Sent2 w.heap.size w9 v (c.answers ss ((i : Int) + 1) t)) := ⟨(HO5.out.alloc _).trans hO9, by rw [HR.out, if_pos (by simp), if_neg h0]; exact ownsRow_base hs9 (by simp; omega)⟩
        clear hO9 hs9
        go_wp2_with fail
        go_ret
        exact ⟨v, rfl, R.out⟩
end Go.Proofs.YtfpojgljgbgkkaaGreatDoor

/-
  The coordinator: Begin.
-/
namespace Go.Proofs.YtfpojgljgbgkkaaGreatDoor
open Go.RowKit
open Go.ChangeMaps (setBlock)

attribute [local go_sem ↓] Go.wp_at_zero Go.wp_at_succ

/-- A record is written. -/
def CS.note (k t : Int) (c : CS) : CS := { c with text := c.text ++ recL k t, L := putI 0 t k c.L }
def CS.opened (t : Int) (c : CS) : CS := { c with O := putM 0 t (0, 0) c.O }
/-- A transaction begins. -/
def CS.begun (ss : List Int) (t : Int) (c : CS) : CS := if decide ((2 : Int) ∈ ss) = true then ((c.note 1 t).force).opened t else c.opened t

theorem coNote_any (p : CoP) (ss : List Int) (wait : Int) (c : CS) (k t : Int) (w : World) (hC : CoAt w p ss wait c) (hl : c.text.length ≤ 900000) (hk1 : 1 ≤ k) (hk2 : k ≤ 4) (ht1 : 1 ≤ t) (ht2 : t ≤ 16383) :
    Calls Tryz.prog 92 #[.pointer (some ⟨p.nb, 0, none⟩), .int .i64 k, .int .i64 t] w fun e w' => e = .returned (.tuple #[]) ∧ Only p.blocks w w' ∧ CoAt w' p ss wait (c.note k t) := by
  refine (baseWrite_any p.nb _ 0 c.safe c.text p.kn _ (toV c.L) k t w hC.node hC.known (by omega) hk1 hk2 ht1 ht2).mono ?_
  rintro e w4 ⟨rfl, ho4, hn4, hm4⟩
  rw [putL_int] at hm4
  obtain ⟨n1, n2, n3, n4, n5, n6⟩ := nodup_parts hC.apart
  have hsb := hC.sb_out
  simp only [CoP.blocks, List.mem_cons, List.not_mem_nil, or_false, not_or] at hsb
  exact ⟨rfl, ho4.mono (by simp [CoP.blocks]), hn4, hC.sorts.only ho4 (by simp [hsb]), hm4, hC.opens.only ho4 (by simp [hC.opens.ne hC.node, Ne.symm n1]), hC.votes.only ho4 (by simp [hC.votes.ne hC.node, Ne.symm n2]), hC.awaited.only ho4 (by simp [hC.awaited.ne hC.node, Ne.symm n3]), hC.apart⟩

set_option maxRecDepth 100000 in
set_option maxHeartbeats 8000000 in
theorem begin_any (p : CoP) (ss : List Int) (wait : Int) (c : CS) (t : Int) (w : World) (hC : CoAt w p ss wait c) (hN : ss.length ≤ 100) (hl : c.text.length ≤ 900000) (ht1 : 1 ≤ t) (ht2 : t ≤ 16383) :
    Calls Tryz.prog 48 #[.pointer (some ⟨p.nb, 0, none⟩), .int .i64 t] w fun e w' => ∃ v, e = .returned v ∧ Only p.blocks w w' ∧ CoAt w' p ss wait (c.begun ss t) ∧ Sent2 w.heap.size w' v (toAll 1 t (chosen (fun x => x != 0) ss.length)) := by
  obtain ⟨c4, -⟩ := hC.cells
  have HC : Hid (CoAt w p ss wait c) := hC
  have HNB : Hid (p.om ≠ p.nb) := hC.opens.ne hC.node
  clear hC
  go_enter Tryz.func48, Tryz.ntmps48
  go_wp2_with fail
  refine (contains_any p.sb p.scap ss 2 w HC.out.sorts hN).mono ?_
  rintro e w1 ⟨rfl, hO1⟩
  have HO1 : Hid (Only p.blocks w w1) := hO1.mono (by simp)
  have HC1 : Hid (CoAt w1 p ss wait c) := HC.out.only0 hO1
  clear hO1 c4
  cases h2 : (decide ((2 : Int) ∈ ss))
  · have HC2 := HC1
    have HO2 := HO1
    obtain ⟨c0, -⟩ := HC2.out.node.cells
    obtain ⟨-, -, c6, -, -⟩ := HC2.out.cells
    have HD : Hid (c.begun ss t = (c).opened t) := by show _ = _; simp only [CS.begun, h2]; rfl
    go_wp2_with fail
    refine wp_region_held_drew (S := fun w' => w'.cell? ⟨p.nb, 0, none⟩ = some (.int .i64 0) ∧ w'.cell? ⟨p.nb, 7, none⟩ = some (.map (some p.om))) (by kernel_rfl) ⟨c0, c6⟩ (fun hHeld => ?_)
    refine takeD 0 20 (.pointer (some ⟨p.nb, 0, none⟩)) rfl rfl (by kernel_rfl) (by kernel_rfl) (by kernel_rfl) (fun _ _ _ h => h) (Or.inl ⟨by kernel_rfl, ?_⟩) (by assumption) ?_
    · intro w hSw; go_simp
    simp only [List.setIfInBounds_toArray, List.set_cons_zero, List.set_cons_succ]
    refine takeD 1 21 (.pointer (some ⟨p.nb, 0, none⟩)) rfl rfl (by kernel_rfl) (by kernel_rfl) (by kernel_rfl) (fun _ _ _ h => h) (Or.inl ⟨by kernel_rfl, ?_⟩) (by assumption) ?_
    · intro w hSw; go_simp
    simp only [List.setIfInBounds_toArray, List.set_cons_zero, List.set_cons_succ]
    refine takeD 2 22 (.pointer (some ⟨p.nb, 7, none⟩)) rfl rfl (by kernel_rfl) (by kernel_rfl) (by kernel_rfl) (fun _ _ _ h => h) (Or.inl ⟨by kernel_rfl, ?_⟩) (by assumption) ?_
    · intro w hSw; go_simp
    simp only [List.setIfInBounds_toArray, List.set_cons_zero, List.set_cons_succ]
    refine takeD 3 23 (.map (some p.om)) rfl rfl (by kernel_rfl) (by kernel_rfl) (by kernel_rfl) (fun _ _ _ h => h) (Or.inl ⟨by kernel_rfl, ?_⟩) (by assumption) ?_
    · intro w hSw; go_simp
    simp only [List.setIfInBounds_toArray, List.set_cons_zero, List.set_cons_succ]
    refine takeD 4 24 (.pointer (some ⟨p.nb, 0, none⟩)) rfl rfl (by kernel_rfl) (by kernel_rfl) (by kernel_rfl) (fun _ _ _ h => h) (Or.inl ⟨by kernel_rfl, ?_⟩) (by assumption) ?_
    · intro w hSw; go_simp
    simp only [List.setIfInBounds_toArray, List.set_cons_zero, List.set_cons_succ]
    refine takeD 5 25 (.pointer (some ⟨p.nb, 0, none⟩)) rfl rfl (by kernel_rfl) (by kernel_rfl) (by kernel_rfl) (fun _ _ _ h => h) (Or.inl ⟨by kernel_rfl, ?_⟩) (by assumption) ?_
    · intro w hSw; go_simp
    simp only [List.setIfInBounds_toArray, List.set_cons_zero, List.set_cons_succ]
    refine takeD 6 26 (.pointer (some ⟨p.nb, 0, none⟩)) rfl rfl (by kernel_rfl) (by kernel_rfl) (by kernel_rfl) (fun _ _ _ h => h) (Or.inl ⟨by kernel_rfl, ?_⟩) (by assumption) ?_
    · intro w hSw; go_simp
    simp only [List.setIfInBounds_toArray, List.set_cons_zero, List.set_cons_succ]
    refine takeD 7 27 (.int .i64 t) rfl rfl (by kernel_rfl) (by kernel_rfl) (by kernel_rfl) (fun _ _ _ h => h) (Or.inl ⟨by kernel_rfl, ?_⟩) (by assumption) ?_
    · intro w hSw; go_simp
    simp only [List.setIfInBounds_toArray, List.set_cons_zero, List.set_cons_succ]
    refine takeD 9 29 (.agg #[.int .i64 0, .int .i64 0]) rfl rfl (by kernel_rfl) (by kernel_rfl) (by kernel_rfl) (fun _ _ _ h => h) (Or.inl ⟨by kernel_rfl, ?_⟩) (by assumption) ?_
    · intro w hSw; go_simp
    simp only [List.setIfInBounds_toArray, List.set_cons_zero, List.set_cons_succ]
    refine wpAnyH_ready (rs := [8]) (by kernel_rfl) (by simp) ?_
    refine (AllReadyH.cons rfl (fun K hK => ?_) AllReadyH.nil)
    go_simp
    refine (key_any p.nb 0 t _ (by simpa using c0)).mono ?_
    rintro e w3 ⟨rfl, hw3⟩
    have hO3 : Only [] w1 w3 := by rw [hw3]; exact (Only.refl _ _).drew.alloc _
    have s0 := hO3.cell c0 (by simp)
    have s6 := hO3.cell c6 (by simp)
    obtain ⟨ob, hu, hMo⟩ := run_put (HC2.out.opens.only hO3 (by simp)) Tryz.underlying130 0 t (.agg #[.int .i64 0, .int .i64 0])
    have hu0 : (Instr.mapUpdate 130 (.map (some p.om)) (keyV 0 t) (.agg #[.int .i64 0, .int .i64 0])).run Tryz.prog w3 = .ok () (setBlock w3 p.om ob) := hu 0
    rw [putL_M 0 t (0, 0)] at hMo
    have hOs : Only [p.om] w3 (setBlock w3 p.om ob) := (Only.refl _ _).setBlock (.inl (by simp)) _
    have hC4 : CoAt (setBlock w3 p.om ob) p ss wait (CS.opened t (c)) := by
      have h1 := HC2.out.only0 hO3
      obtain ⟨n1, n2, n3, n4, n5, n6⟩ := nodup_parts h1.apart
      have hsb := h1.sb_out
      simp only [CoP.blocks, List.mem_cons, List.not_mem_nil, or_false, not_or] at hsb
      exact ⟨h1.node.only hOs (by simpa using Ne.symm HNB.out), h1.sorts.only hOs (by simp [hsb]), h1.known.only hOs (by simp [n1]), hMo, h1.votes.only hOs (by simp [Ne.symm n4]), h1.awaited.only hOs (by simp [Ne.symm n5]), h1.apart⟩
    have HC4 : Hid (CoAt (setBlock w3 p.om ob) p ss wait (CS.opened t (c))) := hC4
    have HO4 : Hid (Only p.blocks w (setBlock w3 p.om ob)) := HO2.out.trans ((hO3.mono (by simp)).trans (hOs.mono (by simp [CoP.blocks])))
    have s0' := hOs.cell s0 (by simpa using Ne.symm HNB.out)
    have s6' := hOs.cell s6 (by simpa using Ne.symm HNB.out)
    clear hu hMo hw3 hO3 hOs hC4
    go_wp2_with fail
    refine hK.out _ _ ⟨s0, s6⟩ (fun hHeld => ?_)
    clear hK K
    refine wpAnyH_ready (rs := [10]) (by kernel_rfl) (by simp) ?_
    refine (AllReadyH.cons rfl (fun K hK => ?_) AllReadyH.nil)
    go_simp
    refine hK.out _ _ ⟨s0', s6'⟩ (fun hHeld => ?_)
    clear hK K
    refine wpAnyH_done (by kernel_rfl) ?_ _
    clear hu0 s0 s6 s0' s6' c0 c6
    rw [← HD.out] at HC4
    generalize setBlock w3 p.om ob = w4 at *
    have hz4 := HO4.out.size
    go_wp2_with fail
    refine (allBut_any p ss wait (c.begun ss t) 0 w4 HC4.out hN).mono ?_
    rintro e w7 ⟨tv, rfl, hO7, hv7⟩
    have HV7 : Hid (Nums2 w4.heap.size w7 tv (chosen (fun x => x != 0) ss.length)) := hv7
    have HO7 : Hid (Only p.blocks w w7) := HO4.out.trans (hO7.mono (by simp))
    have HC7 : Hid (CoAt w7 p ss wait (c.begun ss t)) := HC4.out.only0 hO7
    have hz7 := HO7.out.size
    have hcl := chosen_len (fun x => x != 0) ss.length
    clear hO7 hv7
    go_wp2_with fail
    refine (tell_any p ss wait _ 1 t w4.heap.size tv (chosen (fun x => x != 0) ss.length) w7 HC7.out HV7.out (by omega)).mono ?_
    rintro e w9 ⟨v, rfl, hO9, hs9⟩
    have R : Hid (Only p.blocks w w9 ∧ CoAt w9 p ss wait (c.begun ss t) ∧ Sent2 w.heap.size w9 v (toAll 1 t (chosen (fun x => x != 0) ss.length))) := ⟨HO7.out.trans (hO9.mono (by simp)), HC7.out.only0 hO9, ownsRow_base hs9 hz7⟩
    clear hO9 hs9
    go_wp2_with fail
    go_ret
    exact ⟨v, rfl, R.out⟩
  · go_wp2_with fail
    refine (coNote_any p ss wait c 1 t w1 HC1.out hl (by omega) (by omega) ht1 ht2).mono ?_
    rintro e w5 ⟨rfl, hO5, hC5⟩
    have HO5 : Hid (Only p.blocks w w5) := HO1.out.trans hO5
    have HC5 : Hid (CoAt w5 p ss wait (c.note 1 t)) := hC5
    clear hO5 hC5
    go_wp2_with fail
    refine (coForce_any p ss wait (c.note 1 t) w5 HC5.out).mono ?_
    rintro e w2 ⟨rfl, hO2, hC2⟩
    have HO2 : Hid (Only p.blocks w w2) := HO5.out.trans hO2
    have HC2 : Hid (CoAt w2 p ss wait ((c.note 1 t).force)) := hC2
    clear hO2 hC2
    obtain ⟨c0, -⟩ := HC2.out.node.cells
    obtain ⟨-, -, c6, -, -⟩ := HC2.out.cells
    have HD : Hid (c.begun ss t = ((c.note 1 t).force).opened t) := by show _ = _; simp only [CS.begun, h2]; rfl
    go_wp2_with fail
    refine wp_region_held_drew (S := fun w' => w'.cell? ⟨p.nb, 0, none⟩ = some (.int .i64 0) ∧ w'.cell? ⟨p.nb, 7, none⟩ = some (.map (some p.om))) (by kernel_rfl) ⟨c0, c6⟩ (fun hHeld => ?_)
    refine takeD 0 20 (.pointer (some ⟨p.nb, 0, none⟩)) rfl rfl (by kernel_rfl) (by kernel_rfl) (by kernel_rfl) (fun _ _ _ h => h) (Or.inl ⟨by kernel_rfl, ?_⟩) (by assumption) ?_
    · intro w hSw; go_simp
    simp only [List.setIfInBounds_toArray, List.set_cons_zero, List.set_cons_succ]
    refine takeD 1 21 (.pointer (some ⟨p.nb, 0, none⟩)) rfl rfl (by kernel_rfl) (by kernel_rfl) (by kernel_rfl) (fun _ _ _ h => h) (Or.inl ⟨by kernel_rfl, ?_⟩) (by assumption) ?_
    · intro w hSw; go_simp
    simp only [List.setIfInBounds_toArray, List.set_cons_zero, List.set_cons_succ]
    refine takeD 2 22 (.pointer (some ⟨p.nb, 7, none⟩)) rfl rfl (by kernel_rfl) (by kernel_rfl) (by kernel_rfl) (fun _ _ _ h => h) (Or.inl ⟨by kernel_rfl, ?_⟩) (by assumption) ?_
    · intro w hSw; go_simp
    simp only [List.setIfInBounds_toArray, List.set_cons_zero, List.set_cons_succ]
    refine takeD 3 23 (.map (some p.om)) rfl rfl (by kernel_rfl) (by kernel_rfl) (by kernel_rfl) (fun _ _ _ h => h) (Or.inl ⟨by kernel_rfl, ?_⟩) (by assumption) ?_
    · intro w hSw; go_simp
    simp only [List.setIfInBounds_toArray, List.set_cons_zero, List.set_cons_succ]
    refine takeD 4 24 (.pointer (some ⟨p.nb, 0, none⟩)) rfl rfl (by kernel_rfl) (by kernel_rfl) (by kernel_rfl) (fun _ _ _ h => h) (Or.inl ⟨by kernel_rfl, ?_⟩) (by assumption) ?_
    · intro w hSw; go_simp
    simp only [List.setIfInBounds_toArray, List.set_cons_zero, List.set_cons_succ]
    refine takeD 5 25 (.pointer (some ⟨p.nb, 0, none⟩)) rfl rfl (by kernel_rfl) (by kernel_rfl) (by kernel_rfl) (fun _ _ _ h => h) (Or.inl ⟨by kernel_rfl, ?_⟩) (by assumption) ?_
    · intro w hSw; go_simp
    simp only [List.setIfInBounds_toArray, List.set_cons_zero, List.set_cons_succ]
    refine takeD 6 26 (.pointer (some ⟨p.nb, 0, none⟩)) rfl rfl (by kernel_rfl) (by kernel_rfl) (by kernel_rfl) (fun _ _ _ h => h) (Or.inl ⟨by kernel_rfl, ?_⟩) (by assumption) ?_
    · intro w hSw; go_simp
    simp only [List.setIfInBounds_toArray, List.set_cons_zero, List.set_cons_succ]
    refine takeD 7 27 (.int .i64 t) rfl rfl (by kernel_rfl) (by kernel_rfl) (by kernel_rfl) (fun _ _ _ h => h) (Or.inl ⟨by kernel_rfl, ?_⟩) (by assumption) ?_
    · intro w hSw; go_simp
    simp only [List.setIfInBounds_toArray, List.set_cons_zero, List.set_cons_succ]
    refine takeD 9 29 (.agg #[.int .i64 0, .int .i64 0]) rfl rfl (by kernel_rfl) (by kernel_rfl) (by kernel_rfl) (fun _ _ _ h => h) (Or.inl ⟨by kernel_rfl, ?_⟩) (by assumption) ?_
    · intro w hSw; go_simp
    simp only [List.setIfInBounds_toArray, List.set_cons_zero, List.set_cons_succ]
    refine wpAnyH_ready (rs := [8]) (by kernel_rfl) (by simp) ?_
    refine (AllReadyH.cons rfl (fun K hK => ?_) AllReadyH.nil)
    go_simp
    refine (key_any p.nb 0 t _ (by simpa using c0)).mono ?_
    rintro e w3 ⟨rfl, hw3⟩
    have hO3 : Only [] w2 w3 := by rw [hw3]; exact (Only.refl _ _).drew.alloc _
    have s0 := hO3.cell c0 (by simp)
    have s6 := hO3.cell c6 (by simp)
    obtain ⟨ob, hu, hMo⟩ := run_put (HC2.out.opens.only hO3 (by simp)) Tryz.underlying130 0 t (.agg #[.int .i64 0, .int .i64 0])
    have hu0 : (Instr.mapUpdate 130 (.map (some p.om)) (keyV 0 t) (.agg #[.int .i64 0, .int .i64 0])).run Tryz.prog w3 = .ok () (setBlock w3 p.om ob) := hu 0
    rw [putL_M 0 t (0, 0)] at hMo
    have hOs : Only [p.om] w3 (setBlock w3 p.om ob) := (Only.refl _ _).setBlock (.inl (by simp)) _
    have hC4 : CoAt (setBlock w3 p.om ob) p ss wait (CS.opened t ((c.note 1 t).force)) := by
      have h1 := HC2.out.only0 hO3
      obtain ⟨n1, n2, n3, n4, n5, n6⟩ := nodup_parts h1.apart
      have hsb := h1.sb_out
      simp only [CoP.blocks, List.mem_cons, List.not_mem_nil, or_false, not_or] at hsb
      exact ⟨h1.node.only hOs (by simpa using Ne.symm HNB.out), h1.sorts.only hOs (by simp [hsb]), h1.known.only hOs (by simp [n1]), hMo, h1.votes.only hOs (by simp [Ne.symm n4]), h1.awaited.only hOs (by simp [Ne.symm n5]), h1.apart⟩
    have HC4 : Hid (CoAt (setBlock w3 p.om ob) p ss wait (CS.opened t ((c.note 1 t).force))) := hC4
    have HO4 : Hid (Only p.blocks w (setBlock w3 p.om ob)) := HO2.out.trans ((hO3.mono (by simp)).trans (hOs.mono (by simp [CoP.blocks])))
    have s0' := hOs.cell s0 (by simpa using Ne.symm HNB.out)
    have s6' := hOs.cell s6 (by simpa using Ne.symm HNB.out)
    clear hu hMo hw3 hO3 hOs hC4
    go_wp2_with fail
    refine hK.out _ _ ⟨s0, s6⟩ (fun hHeld => ?_)
    clear hK K
    refine wpAnyH_ready (rs := [10]) (by kernel_rfl) (by simp) ?_
    refine (AllReadyH.cons rfl (fun K hK => ?_) AllReadyH.nil)
    go_simp
    refine hK.out _ _ ⟨s0', s6'⟩ (fun hHeld => ?_)
    clear hK K
    refine wpAnyH_done (by kernel_rfl) ?_ _
    clear hu0 s0 s6 s0' s6' c0 c6
    rw [← HD.out] at HC4
    generalize setBlock w3 p.om ob = w4 at *
    have hz4 := HO4.out.size
    go_wp2_with fail
    refine (allBut_any p ss wait (c.begun ss t) 0 w4 HC4.out hN).mono ?_
    rintro e w7 ⟨tv, rfl, hO7, hv7⟩
    have HV7 : Hid (Nums2 w4.heap.size w7 tv (chosen (fun x => x != 0) ss.length)) := hv7
    have HO7 : Hid (Only p.blocks w w7) := HO4.out.trans (hO7.mono (by simp))
    have HC7 : Hid (CoAt w7 p ss wait (c.begun ss t)) := HC4.out.only0 hO7
    have hz7 := HO7.out.size
    have hcl := chosen_len (fun x => x != 0) ss.length
    clear hO7 hv7
    go_wp2_with fail
    refine (tell_any p ss wait _ 1 t w4.heap.size tv (chosen (fun x => x != 0) ss.length) w7 HC7.out HV7.out (by omega)).mono ?_
    rintro e w9 ⟨v, rfl, hO9, hs9⟩
    have R : Hid (Only p.blocks w w9 ∧ CoAt w9 p ss wait (c.begun ss t) ∧ Sent2 w.heap.size w9 v (toAll 1 t (chosen (fun x => x != 0) ss.length))) := ⟨HO7.out.trans (hO9.mono (by simp)), HC7.out.only0 hO9, ownsRow_base hs9 hz7⟩
    clear hO9 hs9
    go_wp2_with fail
    go_ret
    exact ⟨v, rfl, R.out⟩
end Go.Proofs.YtfpojgljgbgkkaaGreatDoor

/-
  The coordinator: Receive.
-/
namespace Go.Proofs.YtfpojgljgbgkkaaGreatDoor
open Go.RowKit
open Go.ChangeMaps (setBlock)

attribute [local go_sem ↓] Go.wp_at_zero Go.wp_at_succ

/-- What it becomes at a message, and what it sends. -/
def CS.gets (ss : List Int) (k f t : Int) (c : CS) : CS := if f < 1 ∨ (ss.length : Int) < f then c else if k = 2 then c.yes ss f t else if k = 3 then c.no ss f t else if k = 6 then c.ack ss.length f t else c
def CS.sends (ss : List Int) (k f t : Int) (c : CS) : List (Int × Int × Int × Int) := if f < 1 ∨ (ss.length : Int) < f then [] else if k = 2 then c.yesM ss f t else if k = 3 then c.noM ss f t else if k = 6 then [] else if k = 7 then c.answers ss f t else []

set_option maxRecDepth 100000 in
set_option maxHeartbeats 8000000 in
theorem coReceive_any (p : CoP) (ss : List Int) (wait : Int) (c : CS) (k f to t : Int) (w : World) (hC : CoAt w p ss wait c) (hN : ss.length ≤ 100) (hl : c.text.length ≤ 900000) (hnd : c.V.Nodup) (ht1 : 1 ≤ t) (ht2 : t ≤ 16383) :
    Calls Tryz.prog 231 #[.pointer (some ⟨p.nb, 0, none⟩), .agg #[.int .i64 k, .int .i64 f, .int .i64 to, .int .i64 t]] w fun e w' => ∃ v, e = .returned v ∧ Only p.blocks w w' ∧ CoAt w' p ss wait (c.gets ss k f t) ∧ Sent2 w.heap.size w' v (c.sends ss k f t) := by
  have hO0 : Only [] w (w.alloc (.cells #[.int .i64 k, .int .i64 f, .int .i64 to, .int .i64 t] 64)) := (Only.refl _ _).alloc _
  have HC0 : Hid (CoAt (w.alloc (.cells #[.int .i64 k, .int .i64 f, .int .i64 to, .int .i64 t] 64)) p ss wait c) := hC.only0 hO0
  obtain ⟨c4, -⟩ := HC0.out.cells
  have HO0 : Hid (Only p.blocks w (w.alloc (.cells #[.int .i64 k, .int .i64 f, .int .i64 to, .int .i64 t] 64))) := hO0.mono (by simp)
  have fin : ∀ {w' : World} {v : Value} {ms : List (Int × Int × Int × Int)}, Sent2 (w.alloc (.cells #[.int .i64 k, .int .i64 f, .int .i64 to, .int .i64 t] 64)).heap.size w' v ms → Sent2 w.heap.size w' v ms := fun h => ownsRow_base h (by simp)
  have FIN : Hid _ := @fin
  clear fin hC hO0
  have m0 : (w.alloc (.cells #[.int .i64 k, .int .i64 f, .int .i64 to, .int .i64 t] 64)).cell? ⟨w.heap.size, 0, none⟩ = some (.int .i64 k) := by simp
  have m1 : (w.alloc (.cells #[.int .i64 k, .int .i64 f, .int .i64 to, .int .i64 t] 64)).cell? ⟨w.heap.size, 1, none⟩ = some (.int .i64 f) := by simp
  have m3 : (w.alloc (.cells #[.int .i64 k, .int .i64 f, .int .i64 to, .int .i64 t] 64)).cell? ⟨w.heap.size, 3, none⟩ = some (.int .i64 t) := by simp
  by_cases hlow : f < 1
  · have hd : decide (f < 1) = true := by simpa using hlow
    go_enter Tryz.func231, Tryz.ntmps231
    go_wp2_with fail
    go_quiet (fail)
    go_wp2_with fail
    go_ret
    exact ⟨_, rfl, HO0.out.trans ((Only.refl _ _).drewN _), by simpa [CS.gets, hlow] using HC0.out.only0 ((Only.refl _ _).drewN _), by simpa [CS.sends, hlow] using sent_none _ _⟩
  · have hd : decide (f < 1) = false := by simpa using hlow
    by_cases hup : (ss.length : Int) < f
    · have hd2 : decide (f > (ss.length : Int)) = true := by simpa using hup
      go_enter Tryz.func231, Tryz.ntmps231
      go_wp2_with fail
      go_quiet (fail)
      go_wp2_with fail
      go_ret
      exact ⟨_, rfl, HO0.out.trans ((Only.refl _ _).drewN _), by simpa [CS.gets, hup] using HC0.out.only0 ((Only.refl _ _).drewN _), by simpa [CS.sends, hup] using sent_none _ _⟩
    · have hd2 : decide (f > (ss.length : Int)) = false := by simpa using hup
      have HF : Hid (1 ≤ f ∧ f ≤ ss.length ∧ ¬ (f < 1 ∨ (ss.length : Int) < f)) := ⟨by omega, by omega, by omega⟩
      clear hlow hup
      by_cases hk : k = 2
      · subst hk
        go_enter Tryz.func231, Tryz.ntmps231
        go_wp2_with fail
        go_quiet (fail)
        go_wp2_with fail
        refine (takeYes_any p ss wait c f t _ (HC0.out.only0 ((Only.refl _ _).drewN _)) hN hl hnd ht1 ht2).mono ?_
        rintro e w2 ⟨v, rfl, hO, hC2, hs⟩
        have R : Hid (Only p.blocks w w2 ∧ CoAt w2 p ss wait (c.gets ss 2 f t) ∧ Sent2 w.heap.size w2 v (c.sends ss 2 f t)) := ⟨HO0.out.trans (((Only.refl _ _).drewN _).trans hO), by rw [CS.gets, if_neg HF.out.2.2]; exact hC2, by rw [CS.sends, if_neg HF.out.2.2]; exact FIN.out (by simpa using hs)⟩
        clear hO hC2 hs
        go_wp2_with fail
        go_ret
        exact ⟨v, rfl, R.out⟩
      · have b2 : (k == 2) = false := by rw [beq_eq_false_iff_ne]; exact hk
        have e2 : Hid (¬ k = 2) := hk
        clear hk
        by_cases hk : k = 3
        · subst hk
          go_enter Tryz.func231, Tryz.ntmps231
          go_wp2_with fail
          go_quiet (fail)
          go_wp2_with fail
          refine (takeNo_any p ss wait c f t _ (HC0.out.only0 ((Only.refl _ _).drewN _)) hN hl hnd ht1 ht2).mono ?_
          rintro e w2 ⟨v, rfl, hO, hC2, hs⟩
          have R : Hid (Only p.blocks w w2 ∧ CoAt w2 p ss wait (c.gets ss 3 f t) ∧ Sent2 w.heap.size w2 v (c.sends ss 3 f t)) := ⟨HO0.out.trans (((Only.refl _ _).drewN _).trans hO), by rw [CS.gets, if_neg HF.out.2.2]; exact hC2, by rw [CS.sends, if_neg HF.out.2.2]; exact FIN.out (by simpa using hs)⟩
          clear hO hC2 hs
          go_wp2_with fail
          go_ret
          exact ⟨v, rfl, R.out⟩
        · have b3 : (k == 3) = false := by rw [beq_eq_false_iff_ne]; exact hk
          have e3 : Hid (¬ k = 3) := hk
          clear hk
          by_cases hk : k = 6
          · subst hk
            go_enter Tryz.func231, Tryz.ntmps231
            go_wp2_with fail
            go_quiet (fail)
            go_wp2_with fail
            refine (takeAck_any p ss wait c f t _ (HC0.out.only0 ((Only.refl _ _).drewN _)) hN (by omega) ht1 ht2).mono ?_
            rintro e w2 ⟨rfl, hO, hC2⟩
            have R : Hid (Only p.blocks w w2 ∧ CoAt w2 p ss wait (c.gets ss 6 f t)) := ⟨HO0.out.trans (((Only.refl _ _).drewN _).trans hO), by rw [CS.gets, if_neg HF.out.2.2]; exact hC2⟩
            clear hO hC2
            go_wp2_with fail
            go_ret
            exact ⟨_, rfl, R.out.1, R.out.2, by rw [CS.sends, if_neg HF.out.2.2]; exact sent_none _ _⟩
          · have b6 : (k == 6) = false := by rw [beq_eq_false_iff_ne]; exact hk
            have e6 : Hid (¬ k = 6) := hk
            clear hk
            by_cases hk : k = 7
            · subst hk
              go_enter Tryz.func231, Tryz.ntmps231
              go_wp2_with fail
              go_quiet (fail)
              go_wp2_with fail
              refine (answer_any p ss wait c f t _ (HC0.out.only0 ((Only.refl _ _).drewN _)) HF.out.1 HF.out.2.1 hN).mono ?_
              rintro e w2 ⟨v, rfl, hO, hs⟩
              have R : Hid (Only p.blocks w w2 ∧ CoAt w2 p ss wait (c.gets ss 7 f t) ∧ Sent2 w.heap.size w2 v (c.sends ss 7 f t)) := ⟨HO0.out.trans (((Only.refl _ _).drewN _).trans (hO.mono (by simp))), by rw [CS.gets, if_neg HF.out.2.2]; exact HC0.out.only0 (((Only.refl _ _).drewN _).trans hO), by rw [CS.sends, if_neg HF.out.2.2]; exact FIN.out (by simpa using hs)⟩
              clear hO hs
              go_wp2_with fail
              go_ret
              exact ⟨v, rfl, R.out⟩
            · have b7 : (k == 7) = false := by rw [beq_eq_false_iff_ne]; exact hk
              have e7 : Hid (¬ k = 7) := hk
              clear hk
              go_enter Tryz.func231, Tryz.ntmps231
              go_wp2_with fail
              go_quiet (fail)
              go_wp2_with fail
              go_ret
              exact ⟨_, rfl, HO0.out.trans ((Only.refl _ _).drewN _), by rw [CS.gets, if_neg HF.out.2.2, if_neg e2.out, if_neg e3.out, if_neg e6.out]; exact HC0.out.only0 ((Only.refl _ _).drewN _), by rw [CS.sends, if_neg HF.out.2.2, if_neg e2.out, if_neg e3.out, if_neg e6.out, if_neg e7.out]; exact sent_none _ _⟩
end Go.Proofs.YtfpojgljgbgkkaaGreatDoor
