import Derived.Test.YtfpojgljgbgkkaaGreatDoorPD
/-
  A participant: prepare.
-/
namespace Go.Proofs.YtfpojgljgbgkkaaGreatDoor
open Go.RowKit
open Go.ChangeMaps (setBlock)

attribute [local go_sem ↓] Go.wp_at_zero Go.wp_at_succ

/-- Messages as cells. -/
def flatM (ms : List (Int × Int × Int × Int)) : List Value := ms.flatMap fun p => [.int .i64 p.1, .int .i64 p.2.1, .int .i64 p.2.2.1, .int .i64 p.2.2.2]
/-- A list of messages that the call itself has made. -/
def Sent2 (B : Nat) (w : World) (v : Value) (ms : List (Int × Int × Int × Int)) : Prop := w.ownsRow B 64 4 v ms.length (flatM ms)
theorem sent_none (B : Nat) (w : World) : Sent2 B w (.slice none 0 0) [] := World.ownsRow_nil _ _ _ _
theorem sent_one (B : Nat) (w : World) (k f t x : Int) (hB : B ≤ w.heap.size) : Sent2 B (w.alloc (.cells #[.int .i64 k, .int .i64 f, .int .i64 t, .int .i64 x] 64)) (.slice (some ⟨w.heap.size, 0, none⟩) 1 1) [(k, f, t, x)] :=
  ⟨rfl, .inr ⟨w.heap.size, 1, _, rfl, hB, heap_alloc_new w _, Nat.le_refl _, by decide, rfl, rfl⟩⟩

/-- What a participant has: its log, what is safe of it, what it knows. -/
structure PS where
  text : List UInt8
  safe : Int
  L : List ((Int × Int) × Int)
def PS.vote (n t : Int) (V : List ((Int × Int) × Int)) (p : PS) : PS :=
  ⟨p.text ++ recL (voteK (lookI n t V)) t, ((p.text ++ recL (voteK (lookI n t V)) t).length : Int), putI n t (voteK (lookI n t V)) p.L⟩
def PS.prepare (n t : Int) (V : List ((Int × Int) × Int)) (p : PS) : PS := if lookI n t p.L = 0 then p.vote n t V else p
def PS.says (n t : Int) (p : PS) : List (Int × Int × Int × Int) := if lookI n t p.L = 2 then [(2, n, 0, t)] else if lookI n t p.L = 4 then [(3, n, 0, t)] else []


set_option maxRecDepth 100000 in
set_option maxHeartbeats 8000000 in
theorem prepare_any (nb : Nat) (n : Int) (text : List UInt8) (s : Int) (kn : Nat) (L : List ((Int × Int) × Int)) (sort : Int) (vt : Nat) (V : List ((Int × Int) × Int)) (t : Int) (w : World) (hP : PartAt w nb n text s kn L sort vt V) (hl : text.length ≤ 1000000) (ht1 : 1 ≤ t) (ht2 : t ≤ 16383) :
    Calls Tryz.prog 197 #[.pointer (some ⟨nb, 0, none⟩), .int .i64 t] w fun e w' => ∃ v, e = .returned v ∧ Only [nb, kn] w w' ∧ PartAt w' nb n ((PS.mk text s L).prepare n t V).text ((PS.mk text s L).prepare n t V).safe kn ((PS.mk text s L).prepare n t V).L sort vt V ∧ Sent2 w.heap.size w' v (((PS.mk text s L).prepare n t V).says n t) := by
  obtain ⟨c0, c1, c2, c3, cf⟩ := hP.node.cells
  have HP : Hid (PartAt w nb n text s kn L sort vt V) := hP
  have hnl := block_lt hP.node
  clear hP
  have LKK : Hid (∀ w', Only [] w w' → (Instr.lookup 127 (.map (some kn)) (keyV n t) false).run Tryz.prog w' = .ok (.int .i64 (lookI n t L)) w') := fun w' ho => run_lookI (HP.out.known.only ho (by simp)) n t
  cases h0 : (lookI n t L == 0)
  · have hpr : (PS.mk text s L).prepare n t V = PS.mk text s L := by simp [PS.prepare, beq_eq_false_iff_ne.1 h0]
    rw [hpr]
    have HS : Hid ((PS.mk text s L).says n t = if lookI n t L = 2 then [(2, n, 0, t)] else if lookI n t L = 4 then [(3, n, 0, t)] else []) := rfl
    clear hpr
    generalize lookI n t L = kv at *
    cases h2 : (kv == 2)
    · cases h4 : (kv == 4)
      · go_enter Tryz.func197, Tryz.ntmps197
        go_wp2
        refine wp_region_held_drew (S := fun w' => w'.cell? ⟨nb, 0, none⟩ = some (.int .i64 n) ∧ w'.cell? ⟨nb, 3, none⟩ = some (.map (some kn))) (by kernel_rfl) ⟨c0, c3⟩ (fun hHeld => ?_)
        refine takeD 0 5 (.pointer (some ⟨nb, 0, none⟩)) rfl rfl (by kernel_rfl) (by kernel_rfl) (by kernel_rfl) (fun _ _ _ h => h) (Or.inl ⟨by kernel_rfl, ?_⟩) (by assumption) ?_
        · intro w hSw; go_simp
        simp only [List.setIfInBounds_toArray, List.set_cons_zero, List.set_cons_succ]
        refine takeD 1 6 (.pointer (some ⟨nb, 0, none⟩)) rfl rfl (by kernel_rfl) (by kernel_rfl) (by kernel_rfl) (fun _ _ _ h => h) (Or.inl ⟨by kernel_rfl, ?_⟩) (by assumption) ?_
        · intro w hSw; go_simp
        simp only [List.setIfInBounds_toArray, List.set_cons_zero, List.set_cons_succ]
        refine takeD 2 7 (.pointer (some ⟨nb, 0, none⟩)) rfl rfl (by kernel_rfl) (by kernel_rfl) (by kernel_rfl) (fun _ _ _ h => h) (Or.inl ⟨by kernel_rfl, ?_⟩) (by assumption) ?_
        · intro w hSw; go_simp
        simp only [List.setIfInBounds_toArray, List.set_cons_zero, List.set_cons_succ]
        refine takeD 3 8 (.pointer (some ⟨nb, 3, none⟩)) rfl rfl (by kernel_rfl) (by kernel_rfl) (by kernel_rfl) (fun _ _ _ h => h) (Or.inl ⟨by kernel_rfl, ?_⟩) (by assumption) ?_
        · intro w hSw; go_simp
        simp only [List.setIfInBounds_toArray, List.set_cons_zero, List.set_cons_succ]
        refine takeD 4 9 (.map (some kn)) rfl rfl (by kernel_rfl) (by kernel_rfl) (by kernel_rfl) (fun _ _ _ h => h) (Or.inl ⟨by kernel_rfl, ?_⟩) (by assumption) ?_
        · intro w hSw; go_simp
        simp only [List.setIfInBounds_toArray, List.set_cons_zero, List.set_cons_succ]
        refine takeD 5 10 (.pointer (some ⟨nb, 0, none⟩)) rfl rfl (by kernel_rfl) (by kernel_rfl) (by kernel_rfl) (fun _ _ _ h => h) (Or.inl ⟨by kernel_rfl, ?_⟩) (by assumption) ?_
        · intro w hSw; go_simp
        simp only [List.setIfInBounds_toArray, List.set_cons_zero, List.set_cons_succ]
        refine takeD 6 11 (.pointer (some ⟨nb, 0, none⟩)) rfl rfl (by kernel_rfl) (by kernel_rfl) (by kernel_rfl) (fun _ _ _ h => h) (Or.inl ⟨by kernel_rfl, ?_⟩) (by assumption) ?_
        · intro w hSw; go_simp
        simp only [List.setIfInBounds_toArray, List.set_cons_zero, List.set_cons_succ]
        refine takeD 7 12 (.pointer (some ⟨nb, 0, none⟩)) rfl rfl (by kernel_rfl) (by kernel_rfl) (by kernel_rfl) (fun _ _ _ h => h) (Or.inl ⟨by kernel_rfl, ?_⟩) (by assumption) ?_
        · intro w hSw; go_simp
        simp only [List.setIfInBounds_toArray, List.set_cons_zero, List.set_cons_succ]
        refine takeD 8 13 (.int .i64 t) rfl rfl (by kernel_rfl) (by kernel_rfl) (by kernel_rfl) (fun _ _ _ h => h) (Or.inl ⟨by kernel_rfl, ?_⟩) (by assumption) ?_
        · intro w hSw; go_simp
        simp only [List.setIfInBounds_toArray, List.set_cons_zero, List.set_cons_succ]
        refine wpAnyH_ready (rs := [9]) (by kernel_rfl) (by simp) ?_
        refine (AllReadyH.cons rfl (fun K hK => ?_) AllReadyH.nil)
        go_simp
        refine (key_any nb n t _ (by simpa using c0)).mono ?_
        rintro e w3 ⟨rfl, hw3⟩
        have hO3 : Only [] w w3 := by rw [hw3]; exact (Only.refl _ _).drew.alloc _
        have hSn := (show _ ∧ _ from ⟨hO3.cell c0 (by simp), hO3.cell c3 (by simp)⟩)
        have lk := LKK.out w3 hO3
        clear hw3
        go_wp2_with fail
        refine hK.out _ _ hSn (fun hHeld => ?_)
        clear hK K
        refine wpAnyH_ready (rs := [10]) (by kernel_rfl) (by simp) ?_
        refine (AllReadyH.cons rfl (fun K hK => ?_) AllReadyH.nil)
        go_simp
        refine hK.out _ _ hSn (fun hHeld => ?_)
        clear hK K
        refine takeD 11 16 (.bool false) rfl rfl (by kernel_rfl) (by kernel_rfl) (by kernel_rfl) (fun _ _ _ h => h) (Or.inl ⟨by kernel_rfl, ?_⟩) (by assumption) ?_
        · intro w hSw; go_simp
        simp only [List.setIfInBounds_toArray, List.set_cons_zero, List.set_cons_succ]
        refine wpAnyH_done (by kernel_rfl) ?_ _
        have hOa := hO3
        have c0 := hSn.1
        have c3 := hSn.2
        clear hO3 hSn lk
        go_wp2_with fail
        refine wp_region_held_drew (S := fun w' => w'.cell? ⟨nb, 0, none⟩ = some (.int .i64 n) ∧ w'.cell? ⟨nb, 3, none⟩ = some (.map (some kn))) (by kernel_rfl) ⟨c0, c3⟩ (fun hHeld => ?_)
        refine takeD 0 20 (.pointer (some ⟨nb, 0, none⟩)) rfl rfl (by kernel_rfl) (by kernel_rfl) (by kernel_rfl) (fun _ _ _ h => h) (Or.inl ⟨by kernel_rfl, ?_⟩) (by assumption) ?_
        · intro w hSw; go_simp
        simp only [List.setIfInBounds_toArray, List.set_cons_zero, List.set_cons_succ]
        refine takeD 1 21 (.pointer (some ⟨nb, 0, none⟩)) rfl rfl (by kernel_rfl) (by kernel_rfl) (by kernel_rfl) (fun _ _ _ h => h) (Or.inl ⟨by kernel_rfl, ?_⟩) (by assumption) ?_
        · intro w hSw; go_simp
        simp only [List.setIfInBounds_toArray, List.set_cons_zero, List.set_cons_succ]
        refine takeD 2 22 (.pointer (some ⟨nb, 0, none⟩)) rfl rfl (by kernel_rfl) (by kernel_rfl) (by kernel_rfl) (fun _ _ _ h => h) (Or.inl ⟨by kernel_rfl, ?_⟩) (by assumption) ?_
        · intro w hSw; go_simp
        simp only [List.setIfInBounds_toArray, List.set_cons_zero, List.set_cons_succ]
        refine takeD 3 23 (.pointer (some ⟨nb, 3, none⟩)) rfl rfl (by kernel_rfl) (by kernel_rfl) (by kernel_rfl) (fun _ _ _ h => h) (Or.inl ⟨by kernel_rfl, ?_⟩) (by assumption) ?_
        · intro w hSw; go_simp
        simp only [List.setIfInBounds_toArray, List.set_cons_zero, List.set_cons_succ]
        refine takeD 4 24 (.map (some kn)) rfl rfl (by kernel_rfl) (by kernel_rfl) (by kernel_rfl) (fun _ _ _ h => h) (Or.inl ⟨by kernel_rfl, ?_⟩) (by assumption) ?_
        · intro w hSw; go_simp
        simp only [List.setIfInBounds_toArray, List.set_cons_zero, List.set_cons_succ]
        refine takeD 5 25 (.pointer (some ⟨nb, 0, none⟩)) rfl rfl (by kernel_rfl) (by kernel_rfl) (by kernel_rfl) (fun _ _ _ h => h) (Or.inl ⟨by kernel_rfl, ?_⟩) (by assumption) ?_
        · intro w hSw; go_simp
        simp only [List.setIfInBounds_toArray, List.set_cons_zero, List.set_cons_succ]
        refine takeD 6 26 (.pointer (some ⟨nb, 0, none⟩)) rfl rfl (by kernel_rfl) (by kernel_rfl) (by kernel_rfl) (fun _ _ _ h => h) (Or.inl ⟨by kernel_rfl, ?_⟩) (by assumption) ?_
        · intro w hSw; go_simp
        simp only [List.setIfInBounds_toArray, List.set_cons_zero, List.set_cons_succ]
        refine takeD 7 27 (.pointer (some ⟨nb, 0, none⟩)) rfl rfl (by kernel_rfl) (by kernel_rfl) (by kernel_rfl) (fun _ _ _ h => h) (Or.inl ⟨by kernel_rfl, ?_⟩) (by assumption) ?_
        · intro w hSw; go_simp
        simp only [List.setIfInBounds_toArray, List.set_cons_zero, List.set_cons_succ]
        refine takeD 8 28 (.int .i64 t) rfl rfl (by kernel_rfl) (by kernel_rfl) (by kernel_rfl) (fun _ _ _ h => h) (Or.inl ⟨by kernel_rfl, ?_⟩) (by assumption) ?_
        · intro w hSw; go_simp
        simp only [List.setIfInBounds_toArray, List.set_cons_zero, List.set_cons_succ]
        refine wpAnyH_ready (rs := [9]) (by kernel_rfl) (by simp) ?_
        refine (AllReadyH.cons rfl (fun K hK => ?_) AllReadyH.nil)
        go_simp
        refine (key_any nb n t _ (by simpa using c0)).mono ?_
        rintro e w5 ⟨rfl, hw3⟩
        have hO3 : Only [] w3 w5 := by rw [hw3]; exact (Only.refl _ _).drew.alloc _
        have hSn := (show _ ∧ _ from ⟨hO3.cell c0 (by simp), hO3.cell c3 (by simp)⟩)
        have lk := LKK.out w5 (hOa.trans hO3)
        clear hw3
        go_wp2_with fail
        refine hK.out _ _ hSn (fun hHeld => ?_)
        clear hK K
        refine wpAnyH_ready (rs := [10]) (by kernel_rfl) (by simp) ?_
        refine (AllReadyH.cons rfl (fun K hK => ?_) AllReadyH.nil)
        go_simp
        refine hK.out _ _ hSn (fun hHeld => ?_)
        clear hK K
        refine wpAnyH_done (by kernel_rfl) ?_ _
        have hOb := hOa.trans hO3
        have hzb := hOb.size
        have HOb : Hid (Only [] w w5) := hOb
        clear hOa hO3 hOb lk
        go_wp2_with fail
        go_ret
        refine ⟨_, rfl, ?_, ?_, ?_⟩
        · exact HOb.out.mono (by simp)
        · exact HP.out.only HOb.out (by simp) (by simp) (by simp)
        · rw [HS.out, if_neg (beq_eq_false_iff_ne.1 h2), if_neg (beq_eq_false_iff_ne.1 h4)]; exact sent_none _ _
      · go_enter Tryz.func197, Tryz.ntmps197
        go_wp2
        refine wp_region_held_drew (S := fun w' => w'.cell? ⟨nb, 0, none⟩ = some (.int .i64 n) ∧ w'.cell? ⟨nb, 3, none⟩ = some (.map (some kn))) (by kernel_rfl) ⟨c0, c3⟩ (fun hHeld => ?_)
        refine takeD 0 5 (.pointer (some ⟨nb, 0, none⟩)) rfl rfl (by kernel_rfl) (by kernel_rfl) (by kernel_rfl) (fun _ _ _ h => h) (Or.inl ⟨by kernel_rfl, ?_⟩) (by assumption) ?_
        · intro w hSw; go_simp
        simp only [List.setIfInBounds_toArray, List.set_cons_zero, List.set_cons_succ]
        refine takeD 1 6 (.pointer (some ⟨nb, 0, none⟩)) rfl rfl (by kernel_rfl) (by kernel_rfl) (by kernel_rfl) (fun _ _ _ h => h) (Or.inl ⟨by kernel_rfl, ?_⟩) (by assumption) ?_
        · intro w hSw; go_simp
        simp only [List.setIfInBounds_toArray, List.set_cons_zero, List.set_cons_succ]
        refine takeD 2 7 (.pointer (some ⟨nb, 0, none⟩)) rfl rfl (by kernel_rfl) (by kernel_rfl) (by kernel_rfl) (fun _ _ _ h => h) (Or.inl ⟨by kernel_rfl, ?_⟩) (by assumption) ?_
        · intro w hSw; go_simp
        simp only [List.setIfInBounds_toArray, List.set_cons_zero, List.set_cons_succ]
        refine takeD 3 8 (.pointer (some ⟨nb, 3, none⟩)) rfl rfl (by kernel_rfl) (by kernel_rfl) (by kernel_rfl) (fun _ _ _ h => h) (Or.inl ⟨by kernel_rfl, ?_⟩) (by assumption) ?_
        · intro w hSw; go_simp
        simp only [List.setIfInBounds_toArray, List.set_cons_zero, List.set_cons_succ]
        refine takeD 4 9 (.map (some kn)) rfl rfl (by kernel_rfl) (by kernel_rfl) (by kernel_rfl) (fun _ _ _ h => h) (Or.inl ⟨by kernel_rfl, ?_⟩) (by assumption) ?_
        · intro w hSw; go_simp
        simp only [List.setIfInBounds_toArray, List.set_cons_zero, List.set_cons_succ]
        refine takeD 5 10 (.pointer (some ⟨nb, 0, none⟩)) rfl rfl (by kernel_rfl) (by kernel_rfl) (by kernel_rfl) (fun _ _ _ h => h) (Or.inl ⟨by kernel_rfl, ?_⟩) (by assumption) ?_
        · intro w hSw; go_simp
        simp only [List.setIfInBounds_toArray, List.set_cons_zero, List.set_cons_succ]
        refine takeD 6 11 (.pointer (some ⟨nb, 0, none⟩)) rfl rfl (by kernel_rfl) (by kernel_rfl) (by kernel_rfl) (fun _ _ _ h => h) (Or.inl ⟨by kernel_rfl, ?_⟩) (by assumption) ?_
        · intro w hSw; go_simp
        simp only [List.setIfInBounds_toArray, List.set_cons_zero, List.set_cons_succ]
        refine takeD 7 12 (.pointer (some ⟨nb, 0, none⟩)) rfl rfl (by kernel_rfl) (by kernel_rfl) (by kernel_rfl) (fun _ _ _ h => h) (Or.inl ⟨by kernel_rfl, ?_⟩) (by assumption) ?_
        · intro w hSw; go_simp
        simp only [List.setIfInBounds_toArray, List.set_cons_zero, List.set_cons_succ]
        refine takeD 8 13 (.int .i64 t) rfl rfl (by kernel_rfl) (by kernel_rfl) (by kernel_rfl) (fun _ _ _ h => h) (Or.inl ⟨by kernel_rfl, ?_⟩) (by assumption) ?_
        · intro w hSw; go_simp
        simp only [List.setIfInBounds_toArray, List.set_cons_zero, List.set_cons_succ]
        refine wpAnyH_ready (rs := [9]) (by kernel_rfl) (by simp) ?_
        refine (AllReadyH.cons rfl (fun K hK => ?_) AllReadyH.nil)
        go_simp
        refine (key_any nb n t _ (by simpa using c0)).mono ?_
        rintro e w3 ⟨rfl, hw3⟩
        have hO3 : Only [] w w3 := by rw [hw3]; exact (Only.refl _ _).drew.alloc _
        have hSn := (show _ ∧ _ from ⟨hO3.cell c0 (by simp), hO3.cell c3 (by simp)⟩)
        have lk := LKK.out w3 hO3
        clear hw3
        go_wp2_with fail
        refine hK.out _ _ hSn (fun hHeld => ?_)
        clear hK K
        refine wpAnyH_ready (rs := [10]) (by kernel_rfl) (by simp) ?_
        refine (AllReadyH.cons rfl (fun K hK => ?_) AllReadyH.nil)
        go_simp
        refine hK.out _ _ hSn (fun hHeld => ?_)
        clear hK K
        refine takeD 11 16 (.bool false) rfl rfl (by kernel_rfl) (by kernel_rfl) (by kernel_rfl) (fun _ _ _ h => h) (Or.inl ⟨by kernel_rfl, ?_⟩) (by assumption) ?_
        · intro w hSw; go_simp
        simp only [List.setIfInBounds_toArray, List.set_cons_zero, List.set_cons_succ]
        refine wpAnyH_done (by kernel_rfl) ?_ _
        have hOa := hO3
        have c0 := hSn.1
        have c3 := hSn.2
        clear hO3 hSn lk
        go_wp2_with fail
        refine wp_region_held_drew (S := fun w' => w'.cell? ⟨nb, 0, none⟩ = some (.int .i64 n) ∧ w'.cell? ⟨nb, 3, none⟩ = some (.map (some kn))) (by kernel_rfl) ⟨c0, c3⟩ (fun hHeld => ?_)
        refine takeD 0 20 (.pointer (some ⟨nb, 0, none⟩)) rfl rfl (by kernel_rfl) (by kernel_rfl) (by kernel_rfl) (fun _ _ _ h => h) (Or.inl ⟨by kernel_rfl, ?_⟩) (by assumption) ?_
        · intro w hSw; go_simp
        simp only [List.setIfInBounds_toArray, List.set_cons_zero, List.set_cons_succ]
        refine takeD 1 21 (.pointer (some ⟨nb, 0, none⟩)) rfl rfl (by kernel_rfl) (by kernel_rfl) (by kernel_rfl) (fun _ _ _ h => h) (Or.inl ⟨by kernel_rfl, ?_⟩) (by assumption) ?_
        · intro w hSw; go_simp
        simp only [List.setIfInBounds_toArray, List.set_cons_zero, List.set_cons_succ]
        refine takeD 2 22 (.pointer (some ⟨nb, 0, none⟩)) rfl rfl (by kernel_rfl) (by kernel_rfl) (by kernel_rfl) (fun _ _ _ h => h) (Or.inl ⟨by kernel_rfl, ?_⟩) (by assumption) ?_
        · intro w hSw; go_simp
        simp only [List.setIfInBounds_toArray, List.set_cons_zero, List.set_cons_succ]
        refine takeD 3 23 (.pointer (some ⟨nb, 3, none⟩)) rfl rfl (by kernel_rfl) (by kernel_rfl) (by kernel_rfl) (fun _ _ _ h => h) (Or.inl ⟨by kernel_rfl, ?_⟩) (by assumption) ?_
        · intro w hSw; go_simp
        simp only [List.setIfInBounds_toArray, List.set_cons_zero, List.set_cons_succ]
        refine takeD 4 24 (.map (some kn)) rfl rfl (by kernel_rfl) (by kernel_rfl) (by kernel_rfl) (fun _ _ _ h => h) (Or.inl ⟨by kernel_rfl, ?_⟩) (by assumption) ?_
        · intro w hSw; go_simp
        simp only [List.setIfInBounds_toArray, List.set_cons_zero, List.set_cons_succ]
        refine takeD 5 25 (.pointer (some ⟨nb, 0, none⟩)) rfl rfl (by kernel_rfl) (by kernel_rfl) (by kernel_rfl) (fun _ _ _ h => h) (Or.inl ⟨by kernel_rfl, ?_⟩) (by assumption) ?_
        · intro w hSw; go_simp
        simp only [List.setIfInBounds_toArray, List.set_cons_zero, List.set_cons_succ]
        refine takeD 6 26 (.pointer (some ⟨nb, 0, none⟩)) rfl rfl (by kernel_rfl) (by kernel_rfl) (by kernel_rfl) (fun _ _ _ h => h) (Or.inl ⟨by kernel_rfl, ?_⟩) (by assumption) ?_
        · intro w hSw; go_simp
        simp only [List.setIfInBounds_toArray, List.set_cons_zero, List.set_cons_succ]
        refine takeD 7 27 (.pointer (some ⟨nb, 0, none⟩)) rfl rfl (by kernel_rfl) (by kernel_rfl) (by kernel_rfl) (fun _ _ _ h => h) (Or.inl ⟨by kernel_rfl, ?_⟩) (by assumption) ?_
        · intro w hSw; go_simp
        simp only [List.setIfInBounds_toArray, List.set_cons_zero, List.set_cons_succ]
        refine takeD 8 28 (.int .i64 t) rfl rfl (by kernel_rfl) (by kernel_rfl) (by kernel_rfl) (fun _ _ _ h => h) (Or.inl ⟨by kernel_rfl, ?_⟩) (by assumption) ?_
        · intro w hSw; go_simp
        simp only [List.setIfInBounds_toArray, List.set_cons_zero, List.set_cons_succ]
        refine wpAnyH_ready (rs := [9]) (by kernel_rfl) (by simp) ?_
        refine (AllReadyH.cons rfl (fun K hK => ?_) AllReadyH.nil)
        go_simp
        refine (key_any nb n t _ (by simpa using c0)).mono ?_
        rintro e w5 ⟨rfl, hw3⟩
        have hO3 : Only [] w3 w5 := by rw [hw3]; exact (Only.refl _ _).drew.alloc _
        have hSn := (show _ ∧ _ from ⟨hO3.cell c0 (by simp), hO3.cell c3 (by simp)⟩)
        have lk := LKK.out w5 (hOa.trans hO3)
        clear hw3
        go_wp2_with fail
        refine hK.out _ _ hSn (fun hHeld => ?_)
        clear hK K
        refine wpAnyH_ready (rs := [10]) (by kernel_rfl) (by simp) ?_
        refine (AllReadyH.cons rfl (fun K hK => ?_) AllReadyH.nil)
        go_simp
        refine hK.out _ _ hSn (fun hHeld => ?_)
        clear hK K
        refine wpAnyH_done (by kernel_rfl) ?_ _
        have hOb := hOa.trans hO3
        have hzb := hOb.size
        have HOb : Hid (Only [] w w5) := hOb
        clear hOa hO3 hOb lk
        go_wp2_with fail
        refine (say_any nb n 3 t _ (hSn.1)).mono ?_
        rintro e w6 ⟨rfl, hO6⟩
        have hz6 := hO6.size
        have HO6 : Hid _ := hO6
        clear hO6
        unfold msgV
        go_wp2_with fail
        go_ret
        refine ⟨_, rfl, ?_, ?_, ?_⟩
        · exact ((HOb.out.trans HO6.out).alloc _).mono (by simp)
        · exact HP.out.only ((HOb.out.trans HO6.out).alloc _) (by simp) (by simp) (by simp)
        · rw [HS.out, if_neg (beq_eq_false_iff_ne.1 h2), if_pos (beq_iff_eq.1 h4)]; exact sent_one _ _ _ _ _ _ (by omega)
    · go_enter Tryz.func197, Tryz.ntmps197
      go_wp2
      refine wp_region_held_drew (S := fun w' => w'.cell? ⟨nb, 0, none⟩ = some (.int .i64 n) ∧ w'.cell? ⟨nb, 3, none⟩ = some (.map (some kn))) (by kernel_rfl) ⟨c0, c3⟩ (fun hHeld => ?_)
      refine takeD 0 5 (.pointer (some ⟨nb, 0, none⟩)) rfl rfl (by kernel_rfl) (by kernel_rfl) (by kernel_rfl) (fun _ _ _ h => h) (Or.inl ⟨by kernel_rfl, ?_⟩) (by assumption) ?_
      · intro w hSw; go_simp
      simp only [List.setIfInBounds_toArray, List.set_cons_zero, List.set_cons_succ]
      refine takeD 1 6 (.pointer (some ⟨nb, 0, none⟩)) rfl rfl (by kernel_rfl) (by kernel_rfl) (by kernel_rfl) (fun _ _ _ h => h) (Or.inl ⟨by kernel_rfl, ?_⟩) (by assumption) ?_
      · intro w hSw; go_simp
      simp only [List.setIfInBounds_toArray, List.set_cons_zero, List.set_cons_succ]
      refine takeD 2 7 (.pointer (some ⟨nb, 0, none⟩)) rfl rfl (by kernel_rfl) (by kernel_rfl) (by kernel_rfl) (fun _ _ _ h => h) (Or.inl ⟨by kernel_rfl, ?_⟩) (by assumption) ?_
      · intro w hSw; go_simp
      simp only [List.setIfInBounds_toArray, List.set_cons_zero, List.set_cons_succ]
      refine takeD 3 8 (.pointer (some ⟨nb, 3, none⟩)) rfl rfl (by kernel_rfl) (by kernel_rfl) (by kernel_rfl) (fun _ _ _ h => h) (Or.inl ⟨by kernel_rfl, ?_⟩) (by assumption) ?_
      · intro w hSw; go_simp
      simp only [List.setIfInBounds_toArray, List.set_cons_zero, List.set_cons_succ]
      refine takeD 4 9 (.map (some kn)) rfl rfl (by kernel_rfl) (by kernel_rfl) (by kernel_rfl) (fun _ _ _ h => h) (Or.inl ⟨by kernel_rfl, ?_⟩) (by assumption) ?_
      · intro w hSw; go_simp
      simp only [List.setIfInBounds_toArray, List.set_cons_zero, List.set_cons_succ]
      refine takeD 5 10 (.pointer (some ⟨nb, 0, none⟩)) rfl rfl (by kernel_rfl) (by kernel_rfl) (by kernel_rfl) (fun _ _ _ h => h) (Or.inl ⟨by kernel_rfl, ?_⟩) (by assumption) ?_
      · intro w hSw; go_simp
      simp only [List.setIfInBounds_toArray, List.set_cons_zero, List.set_cons_succ]
      refine takeD 6 11 (.pointer (some ⟨nb, 0, none⟩)) rfl rfl (by kernel_rfl) (by kernel_rfl) (by kernel_rfl) (fun _ _ _ h => h) (Or.inl ⟨by kernel_rfl, ?_⟩) (by assumption) ?_
      · intro w hSw; go_simp
      simp only [List.setIfInBounds_toArray, List.set_cons_zero, List.set_cons_succ]
      refine takeD 7 12 (.pointer (some ⟨nb, 0, none⟩)) rfl rfl (by kernel_rfl) (by kernel_rfl) (by kernel_rfl) (fun _ _ _ h => h) (Or.inl ⟨by kernel_rfl, ?_⟩) (by assumption) ?_
      · intro w hSw; go_simp
      simp only [List.setIfInBounds_toArray, List.set_cons_zero, List.set_cons_succ]
      refine takeD 8 13 (.int .i64 t) rfl rfl (by kernel_rfl) (by kernel_rfl) (by kernel_rfl) (fun _ _ _ h => h) (Or.inl ⟨by kernel_rfl, ?_⟩) (by assumption) ?_
      · intro w hSw; go_simp
      simp only [List.setIfInBounds_toArray, List.set_cons_zero, List.set_cons_succ]
      refine wpAnyH_ready (rs := [9]) (by kernel_rfl) (by simp) ?_
      refine (AllReadyH.cons rfl (fun K hK => ?_) AllReadyH.nil)
      go_simp
      refine (key_any nb n t _ (by simpa using c0)).mono ?_
      rintro e w3 ⟨rfl, hw3⟩
      have hO3 : Only [] w w3 := by rw [hw3]; exact (Only.refl _ _).drew.alloc _
      have hSn := (show _ ∧ _ from ⟨hO3.cell c0 (by simp), hO3.cell c3 (by simp)⟩)
      have lk := LKK.out w3 hO3
      clear hw3
      go_wp2_with fail
      refine hK.out _ _ hSn (fun hHeld => ?_)
      clear hK K
      refine wpAnyH_ready (rs := [10]) (by kernel_rfl) (by simp) ?_
      refine (AllReadyH.cons rfl (fun K hK => ?_) AllReadyH.nil)
      go_simp
      refine hK.out _ _ hSn (fun hHeld => ?_)
      clear hK K
      refine takeD 11 16 (.bool false) rfl rfl (by kernel_rfl) (by kernel_rfl) (by kernel_rfl) (fun _ _ _ h => h) (Or.inl ⟨by kernel_rfl, ?_⟩) (by assumption) ?_
      · intro w hSw; go_simp
      simp only [List.setIfInBounds_toArray, List.set_cons_zero, List.set_cons_succ]
      refine wpAnyH_done (by kernel_rfl) ?_ _
      have hOa := hO3
      have c0 := hSn.1
      have c3 := hSn.2
      clear hO3 hSn lk
      go_wp2_with fail
      refine wp_region_held_drew (S := fun w' => w'.cell? ⟨nb, 0, none⟩ = some (.int .i64 n) ∧ w'.cell? ⟨nb, 3, none⟩ = some (.map (some kn))) (by kernel_rfl) ⟨c0, c3⟩ (fun hHeld => ?_)
      refine takeD 0 20 (.pointer (some ⟨nb, 0, none⟩)) rfl rfl (by kernel_rfl) (by kernel_rfl) (by kernel_rfl) (fun _ _ _ h => h) (Or.inl ⟨by kernel_rfl, ?_⟩) (by assumption) ?_
      · intro w hSw; go_simp
      simp only [List.setIfInBounds_toArray, List.set_cons_zero, List.set_cons_succ]
      refine takeD 1 21 (.pointer (some ⟨nb, 0, none⟩)) rfl rfl (by kernel_rfl) (by kernel_rfl) (by kernel_rfl) (fun _ _ _ h => h) (Or.inl ⟨by kernel_rfl, ?_⟩) (by assumption) ?_
      · intro w hSw; go_simp
      simp only [List.setIfInBounds_toArray, List.set_cons_zero, List.set_cons_succ]
      refine takeD 2 22 (.pointer (some ⟨nb, 0, none⟩)) rfl rfl (by kernel_rfl) (by kernel_rfl) (by kernel_rfl) (fun _ _ _ h => h) (Or.inl ⟨by kernel_rfl, ?_⟩) (by assumption) ?_
      · intro w hSw; go_simp
      simp only [List.setIfInBounds_toArray, List.set_cons_zero, List.set_cons_succ]
      refine takeD 3 23 (.pointer (some ⟨nb, 3, none⟩)) rfl rfl (by kernel_rfl) (by kernel_rfl) (by kernel_rfl) (fun _ _ _ h => h) (Or.inl ⟨by kernel_rfl, ?_⟩) (by assumption) ?_
      · intro w hSw; go_simp
      simp only [List.setIfInBounds_toArray, List.set_cons_zero, List.set_cons_succ]
      refine takeD 4 24 (.map (some kn)) rfl rfl (by kernel_rfl) (by kernel_rfl) (by kernel_rfl) (fun _ _ _ h => h) (Or.inl ⟨by kernel_rfl, ?_⟩) (by assumption) ?_
      · intro w hSw; go_simp
      simp only [List.setIfInBounds_toArray, List.set_cons_zero, List.set_cons_succ]
      refine takeD 5 25 (.pointer (some ⟨nb, 0, none⟩)) rfl rfl (by kernel_rfl) (by kernel_rfl) (by kernel_rfl) (fun _ _ _ h => h) (Or.inl ⟨by kernel_rfl, ?_⟩) (by assumption) ?_
      · intro w hSw; go_simp
      simp only [List.setIfInBounds_toArray, List.set_cons_zero, List.set_cons_succ]
      refine takeD 6 26 (.pointer (some ⟨nb, 0, none⟩)) rfl rfl (by kernel_rfl) (by kernel_rfl) (by kernel_rfl) (fun _ _ _ h => h) (Or.inl ⟨by kernel_rfl, ?_⟩) (by assumption) ?_
      · intro w hSw; go_simp
      simp only [List.setIfInBounds_toArray, List.set_cons_zero, List.set_cons_succ]
      refine takeD 7 27 (.pointer (some ⟨nb, 0, none⟩)) rfl rfl (by kernel_rfl) (by kernel_rfl) (by kernel_rfl) (fun _ _ _ h => h) (Or.inl ⟨by kernel_rfl, ?_⟩) (by assumption) ?_
      · intro w hSw; go_simp
      simp only [List.setIfInBounds_toArray, List.set_cons_zero, List.set_cons_succ]
      refine takeD 8 28 (.int .i64 t) rfl rfl (by kernel_rfl) (by kernel_rfl) (by kernel_rfl) (fun _ _ _ h => h) (Or.inl ⟨by kernel_rfl, ?_⟩) (by assumption) ?_
      · intro w hSw; go_simp
      simp only [List.setIfInBounds_toArray, List.set_cons_zero, List.set_cons_succ]
      refine wpAnyH_ready (rs := [9]) (by kernel_rfl) (by simp) ?_
      refine (AllReadyH.cons rfl (fun K hK => ?_) AllReadyH.nil)
      go_simp
      refine (key_any nb n t _ (by simpa using c0)).mono ?_
      rintro e w5 ⟨rfl, hw3⟩
      have hO3 : Only [] w3 w5 := by rw [hw3]; exact (Only.refl _ _).drew.alloc _
      have hSn := (show _ ∧ _ from ⟨hO3.cell c0 (by simp), hO3.cell c3 (by simp)⟩)
      have lk := LKK.out w5 (hOa.trans hO3)
      clear hw3
      go_wp2_with fail
      refine hK.out _ _ hSn (fun hHeld => ?_)
      clear hK K
      refine wpAnyH_ready (rs := [10]) (by kernel_rfl) (by simp) ?_
      refine (AllReadyH.cons rfl (fun K hK => ?_) AllReadyH.nil)
      go_simp
      refine hK.out _ _ hSn (fun hHeld => ?_)
      clear hK K
      refine wpAnyH_done (by kernel_rfl) ?_ _
      have hOb := hOa.trans hO3
      have hzb := hOb.size
      have HOb : Hid (Only [] w w5) := hOb
      clear hOa hO3 hOb lk
      go_wp2_with fail
      refine (say_any nb n 2 t _ (hSn.1)).mono ?_
      rintro e w6 ⟨rfl, hO6⟩
      have hz6 := hO6.size
      have HO6 : Hid _ := hO6
      clear hO6
      unfold msgV
      go_wp2_with fail
      go_ret
      refine ⟨_, rfl, ?_, ?_, ?_⟩
      · exact ((HOb.out.trans HO6.out).alloc _).mono (by simp)
      · exact HP.out.only ((HOb.out.trans HO6.out).alloc _) (by simp) (by simp) (by simp)
      · rw [HS.out, if_pos (beq_iff_eq.1 h2)]; exact sent_one _ _ _ _ _ _ (by omega)
  · have hpr : (PS.mk text s L).prepare n t V = (PS.mk text s L).vote n t V := by simp [PS.prepare, beq_iff_eq.1 h0]
    rw [hpr]
    have hkv : lookI n t ((PS.mk text s L).vote n t V).L = voteK (lookI n t V) := lookI_put _ _ _ _
    have HS : Hid (((PS.mk text s L).vote n t V).says n t = if voteK (lookI n t V) = 2 then [(2, n, 0, t)] else if voteK (lookI n t V) = 4 then [(3, n, 0, t)] else []) := by
      show _ = _
      simp only [PS.says, hkv]
    have HKV : Hid (lookI n t ((PS.mk text s L).vote n t V).L = voteK (lookI n t V)) := hkv
    clear hpr hkv
    generalize lookI n t L = kv at *
    cases hv : (lookI n t V == 3)
    · have HW : Hid (voteK (lookI n t V) = 2) := voteK_yes hv
      go_enter Tryz.func197, Tryz.ntmps197
      go_wp2
      refine wp_region_held_drew (S := fun w' => w'.cell? ⟨nb, 0, none⟩ = some (.int .i64 n) ∧ w'.cell? ⟨nb, 3, none⟩ = some (.map (some kn))) (by kernel_rfl) ⟨c0, c3⟩ (fun hHeld => ?_)
      refine takeD 0 5 (.pointer (some ⟨nb, 0, none⟩)) rfl rfl (by kernel_rfl) (by kernel_rfl) (by kernel_rfl) (fun _ _ _ h => h) (Or.inl ⟨by kernel_rfl, ?_⟩) (by assumption) ?_
      · intro w hSw; go_simp
      simp only [List.setIfInBounds_toArray, List.set_cons_zero, List.set_cons_succ]
      refine takeD 1 6 (.pointer (some ⟨nb, 0, none⟩)) rfl rfl (by kernel_rfl) (by kernel_rfl) (by kernel_rfl) (fun _ _ _ h => h) (Or.inl ⟨by kernel_rfl, ?_⟩) (by assumption) ?_
      · intro w hSw; go_simp
      simp only [List.setIfInBounds_toArray, List.set_cons_zero, List.set_cons_succ]
      refine takeD 2 7 (.pointer (some ⟨nb, 0, none⟩)) rfl rfl (by kernel_rfl) (by kernel_rfl) (by kernel_rfl) (fun _ _ _ h => h) (Or.inl ⟨by kernel_rfl, ?_⟩) (by assumption) ?_
      · intro w hSw; go_simp
      simp only [List.setIfInBounds_toArray, List.set_cons_zero, List.set_cons_succ]
      refine takeD 3 8 (.pointer (some ⟨nb, 3, none⟩)) rfl rfl (by kernel_rfl) (by kernel_rfl) (by kernel_rfl) (fun _ _ _ h => h) (Or.inl ⟨by kernel_rfl, ?_⟩) (by assumption) ?_
      · intro w hSw; go_simp
      simp only [List.setIfInBounds_toArray, List.set_cons_zero, List.set_cons_succ]
      refine takeD 4 9 (.map (some kn)) rfl rfl (by kernel_rfl) (by kernel_rfl) (by kernel_rfl) (fun _ _ _ h => h) (Or.inl ⟨by kernel_rfl, ?_⟩) (by assumption) ?_
      · intro w hSw; go_simp
      simp only [List.setIfInBounds_toArray, List.set_cons_zero, List.set_cons_succ]
      refine takeD 5 10 (.pointer (some ⟨nb, 0, none⟩)) rfl rfl (by kernel_rfl) (by kernel_rfl) (by kernel_rfl) (fun _ _ _ h => h) (Or.inl ⟨by kernel_rfl, ?_⟩) (by assumption) ?_
      · intro w hSw; go_simp
      simp only [List.setIfInBounds_toArray, List.set_cons_zero, List.set_cons_succ]
      refine takeD 6 11 (.pointer (some ⟨nb, 0, none⟩)) rfl rfl (by kernel_rfl) (by kernel_rfl) (by kernel_rfl) (fun _ _ _ h => h) (Or.inl ⟨by kernel_rfl, ?_⟩) (by assumption) ?_
      · intro w hSw; go_simp
      simp only [List.setIfInBounds_toArray, List.set_cons_zero, List.set_cons_succ]
      refine takeD 7 12 (.pointer (some ⟨nb, 0, none⟩)) rfl rfl (by kernel_rfl) (by kernel_rfl) (by kernel_rfl) (fun _ _ _ h => h) (Or.inl ⟨by kernel_rfl, ?_⟩) (by assumption) ?_
      · intro w hSw; go_simp
      simp only [List.setIfInBounds_toArray, List.set_cons_zero, List.set_cons_succ]
      refine takeD 8 13 (.int .i64 t) rfl rfl (by kernel_rfl) (by kernel_rfl) (by kernel_rfl) (fun _ _ _ h => h) (Or.inl ⟨by kernel_rfl, ?_⟩) (by assumption) ?_
      · intro w hSw; go_simp
      simp only [List.setIfInBounds_toArray, List.set_cons_zero, List.set_cons_succ]
      refine wpAnyH_ready (rs := [9]) (by kernel_rfl) (by simp) ?_
      refine (AllReadyH.cons rfl (fun K hK => ?_) AllReadyH.nil)
      go_simp
      refine (key_any nb n t _ (by simpa using c0)).mono ?_
      rintro e w3 ⟨rfl, hw3⟩
      have hO3 : Only [] w w3 := by rw [hw3]; exact (Only.refl _ _).drew.alloc _
      have hSn := (show _ ∧ _ from ⟨hO3.cell c0 (by simp), hO3.cell c3 (by simp)⟩)
      have lk := LKK.out w3 hO3
      clear hw3
      go_wp2_with fail
      refine hK.out _ _ hSn (fun hHeld => ?_)
      clear hK K
      refine wpAnyH_ready (rs := [10]) (by kernel_rfl) (by simp) ?_
      refine (AllReadyH.cons rfl (fun K hK => ?_) AllReadyH.nil)
      go_simp
      refine hK.out _ _ hSn (fun hHeld => ?_)
      clear hK K
      refine takeD 11 16 (.bool true) rfl rfl (by kernel_rfl) (by kernel_rfl) (by kernel_rfl) (fun _ _ _ h => h) (Or.inl ⟨by kernel_rfl, ?_⟩) (by assumption) ?_
      · intro w hSw; go_simp
      simp only [List.setIfInBounds_toArray, List.set_cons_zero, List.set_cons_succ]
      refine wpAnyH_done (by kernel_rfl) ?_ _
      go_wp2_with fail
      refine (vote_any nb n text s kn L sort vt V t w3 (HP.out.only hO3 (by simp) (by simp) (by simp)) hl ht1 ht2).mono ?_
      rintro e w4 ⟨rfl, hO4, hP4⟩
      have HO4 : Hid (Only [nb, kn] w w4) := (hO3.mono (by simp)).trans hO4
      have HP4 : Hid (PartAt w4 nb n ((PS.mk text s L).vote n t V).text ((PS.mk text s L).vote n t V).safe kn ((PS.mk text s L).vote n t V).L sort vt V) := hP4
      obtain ⟨d0, -, -, d3, -⟩ := hP4.node.cells
      have hz4 : w.heap.size ≤ w4.heap.size := HO4.out.size
      clear hO4 hP4 hO3 hSn lk c0 c1 c2 c3 cf
      have c0 := d0
      have c3 := d3
      clear d0 d3
      have LK4 : Hid (∀ w', Only [] w4 w' → (Instr.lookup 127 (.map (some kn)) (keyV n t) false).run Tryz.prog w' = .ok (.int .i64 2) w') := fun w' ho => by
        have := run_lookI (HP4.out.known.only ho (by simp)) n t
        rw [HKV.out, HW.out] at this
        exact this
      go_wp2_with fail
      refine wp_region_held_drew (S := fun w' => w'.cell? ⟨nb, 0, none⟩ = some (.int .i64 n) ∧ w'.cell? ⟨nb, 3, none⟩ = some (.map (some kn))) (by kernel_rfl) ⟨c0, c3⟩ (fun hHeld => ?_)
      refine takeD 0 20 (.pointer (some ⟨nb, 0, none⟩)) rfl rfl (by kernel_rfl) (by kernel_rfl) (by kernel_rfl) (fun _ _ _ h => h) (Or.inl ⟨by kernel_rfl, ?_⟩) (by assumption) ?_
      · intro w hSw; go_simp
      simp only [List.setIfInBounds_toArray, List.set_cons_zero, List.set_cons_succ]
      refine takeD 1 21 (.pointer (some ⟨nb, 0, none⟩)) rfl rfl (by kernel_rfl) (by kernel_rfl) (by kernel_rfl) (fun _ _ _ h => h) (Or.inl ⟨by kernel_rfl, ?_⟩) (by assumption) ?_
      · intro w hSw; go_simp
      simp only [List.setIfInBounds_toArray, List.set_cons_zero, List.set_cons_succ]
      refine takeD 2 22 (.pointer (some ⟨nb, 0, none⟩)) rfl rfl (by kernel_rfl) (by kernel_rfl) (by kernel_rfl) (fun _ _ _ h => h) (Or.inl ⟨by kernel_rfl, ?_⟩) (by assumption) ?_
      · intro w hSw; go_simp
      simp only [List.setIfInBounds_toArray, List.set_cons_zero, List.set_cons_succ]
      refine takeD 3 23 (.pointer (some ⟨nb, 3, none⟩)) rfl rfl (by kernel_rfl) (by kernel_rfl) (by kernel_rfl) (fun _ _ _ h => h) (Or.inl ⟨by kernel_rfl, ?_⟩) (by assumption) ?_
      · intro w hSw; go_simp
      simp only [List.setIfInBounds_toArray, List.set_cons_zero, List.set_cons_succ]
      refine takeD 4 24 (.map (some kn)) rfl rfl (by kernel_rfl) (by kernel_rfl) (by kernel_rfl) (fun _ _ _ h => h) (Or.inl ⟨by kernel_rfl, ?_⟩) (by assumption) ?_
      · intro w hSw; go_simp
      simp only [List.setIfInBounds_toArray, List.set_cons_zero, List.set_cons_succ]
      refine takeD 5 25 (.pointer (some ⟨nb, 0, none⟩)) rfl rfl (by kernel_rfl) (by kernel_rfl) (by kernel_rfl) (fun _ _ _ h => h) (Or.inl ⟨by kernel_rfl, ?_⟩) (by assumption) ?_
      · intro w hSw; go_simp
      simp only [List.setIfInBounds_toArray, List.set_cons_zero, List.set_cons_succ]
      refine takeD 6 26 (.pointer (some ⟨nb, 0, none⟩)) rfl rfl (by kernel_rfl) (by kernel_rfl) (by kernel_rfl) (fun _ _ _ h => h) (Or.inl ⟨by kernel_rfl, ?_⟩) (by assumption) ?_
      · intro w hSw; go_simp
      simp only [List.setIfInBounds_toArray, List.set_cons_zero, List.set_cons_succ]
      refine takeD 7 27 (.pointer (some ⟨nb, 0, none⟩)) rfl rfl (by kernel_rfl) (by kernel_rfl) (by kernel_rfl) (fun _ _ _ h => h) (Or.inl ⟨by kernel_rfl, ?_⟩) (by assumption) ?_
      · intro w hSw; go_simp
      simp only [List.setIfInBounds_toArray, List.set_cons_zero, List.set_cons_succ]
      refine takeD 8 28 (.int .i64 t) rfl rfl (by kernel_rfl) (by kernel_rfl) (by kernel_rfl) (fun _ _ _ h => h) (Or.inl ⟨by kernel_rfl, ?_⟩) (by assumption) ?_
      · intro w hSw; go_simp
      simp only [List.setIfInBounds_toArray, List.set_cons_zero, List.set_cons_succ]
      refine wpAnyH_ready (rs := [9]) (by kernel_rfl) (by simp) ?_
      refine (AllReadyH.cons rfl (fun K hK => ?_) AllReadyH.nil)
      go_simp
      refine (key_any nb n t _ (by simpa using c0)).mono ?_
      rintro e w5 ⟨rfl, hw3⟩
      have hO3 : Only [] w4 w5 := by rw [hw3]; exact (Only.refl _ _).drew.alloc _
      have hSn := (show _ ∧ _ from ⟨hO3.cell c0 (by simp), hO3.cell c3 (by simp)⟩)
      have lk := LK4.out w5 hO3
      clear hw3
      go_wp2_with fail
      refine hK.out _ _ hSn (fun hHeld => ?_)
      clear hK K
      refine wpAnyH_ready (rs := [10]) (by kernel_rfl) (by simp) ?_
      refine (AllReadyH.cons rfl (fun K hK => ?_) AllReadyH.nil)
      go_simp
      refine hK.out _ _ hSn (fun hHeld => ?_)
      clear hK K
      refine wpAnyH_done (by kernel_rfl) ?_ _
      have hOb := hO3
      have hzb := hOb.size
      have HOb : Hid (Only [] w4 w5) := hOb
      clear hO3 hOb lk
      go_wp2_with fail
      refine (say_any nb n 2 t _ (hSn.1)).mono ?_
      rintro e w6 ⟨rfl, hO6⟩
      have hz6 := hO6.size
      have HO6 : Hid _ := hO6
      clear hO6
      unfold msgV
      go_wp2_with fail
      go_ret
      refine ⟨_, rfl, ?_, ?_, ?_⟩
      · exact HO4.out.trans (((HOb.out.trans HO6.out).alloc _).mono (by simp))
      · exact HP4.out.only ((HOb.out.trans HO6.out).alloc _) (by simp) (by simp) (by simp)
      · rw [HS.out, HW.out]; exact sent_one _ _ _ _ _ _ (by omega)
    · have HW : Hid (voteK (lookI n t V) = 4) := by rw [beq_iff_eq.1 hv]; rfl
      go_enter Tryz.func197, Tryz.ntmps197
      go_wp2
      refine wp_region_held_drew (S := fun w' => w'.cell? ⟨nb, 0, none⟩ = some (.int .i64 n) ∧ w'.cell? ⟨nb, 3, none⟩ = some (.map (some kn))) (by kernel_rfl) ⟨c0, c3⟩ (fun hHeld => ?_)
      refine takeD 0 5 (.pointer (some ⟨nb, 0, none⟩)) rfl rfl (by kernel_rfl) (by kernel_rfl) (by kernel_rfl) (fun _ _ _ h => h) (Or.inl ⟨by kernel_rfl, ?_⟩) (by assumption) ?_
      · intro w hSw; go_simp
      simp only [List.setIfInBounds_toArray, List.set_cons_zero, List.set_cons_succ]
      refine takeD 1 6 (.pointer (some ⟨nb, 0, none⟩)) rfl rfl (by kernel_rfl) (by kernel_rfl) (by kernel_rfl) (fun _ _ _ h => h) (Or.inl ⟨by kernel_rfl, ?_⟩) (by assumption) ?_
      · intro w hSw; go_simp
      simp only [List.setIfInBounds_toArray, List.set_cons_zero, List.set_cons_succ]
      refine takeD 2 7 (.pointer (some ⟨nb, 0, none⟩)) rfl rfl (by kernel_rfl) (by kernel_rfl) (by kernel_rfl) (fun _ _ _ h => h) (Or.inl ⟨by kernel_rfl, ?_⟩) (by assumption) ?_
      · intro w hSw; go_simp
      simp only [List.setIfInBounds_toArray, List.set_cons_zero, List.set_cons_succ]
      refine takeD 3 8 (.pointer (some ⟨nb, 3, none⟩)) rfl rfl (by kernel_rfl) (by kernel_rfl) (by kernel_rfl) (fun _ _ _ h => h) (Or.inl ⟨by kernel_rfl, ?_⟩) (by assumption) ?_
      · intro w hSw; go_simp
      simp only [List.setIfInBounds_toArray, List.set_cons_zero, List.set_cons_succ]
      refine takeD 4 9 (.map (some kn)) rfl rfl (by kernel_rfl) (by kernel_rfl) (by kernel_rfl) (fun _ _ _ h => h) (Or.inl ⟨by kernel_rfl, ?_⟩) (by assumption) ?_
      · intro w hSw; go_simp
      simp only [List.setIfInBounds_toArray, List.set_cons_zero, List.set_cons_succ]
      refine takeD 5 10 (.pointer (some ⟨nb, 0, none⟩)) rfl rfl (by kernel_rfl) (by kernel_rfl) (by kernel_rfl) (fun _ _ _ h => h) (Or.inl ⟨by kernel_rfl, ?_⟩) (by assumption) ?_
      · intro w hSw; go_simp
      simp only [List.setIfInBounds_toArray, List.set_cons_zero, List.set_cons_succ]
      refine takeD 6 11 (.pointer (some ⟨nb, 0, none⟩)) rfl rfl (by kernel_rfl) (by kernel_rfl) (by kernel_rfl) (fun _ _ _ h => h) (Or.inl ⟨by kernel_rfl, ?_⟩) (by assumption) ?_
      · intro w hSw; go_simp
      simp only [List.setIfInBounds_toArray, List.set_cons_zero, List.set_cons_succ]
      refine takeD 7 12 (.pointer (some ⟨nb, 0, none⟩)) rfl rfl (by kernel_rfl) (by kernel_rfl) (by kernel_rfl) (fun _ _ _ h => h) (Or.inl ⟨by kernel_rfl, ?_⟩) (by assumption) ?_
      · intro w hSw; go_simp
      simp only [List.setIfInBounds_toArray, List.set_cons_zero, List.set_cons_succ]
      refine takeD 8 13 (.int .i64 t) rfl rfl (by kernel_rfl) (by kernel_rfl) (by kernel_rfl) (fun _ _ _ h => h) (Or.inl ⟨by kernel_rfl, ?_⟩) (by assumption) ?_
      · intro w hSw; go_simp
      simp only [List.setIfInBounds_toArray, List.set_cons_zero, List.set_cons_succ]
      refine wpAnyH_ready (rs := [9]) (by kernel_rfl) (by simp) ?_
      refine (AllReadyH.cons rfl (fun K hK => ?_) AllReadyH.nil)
      go_simp
      refine (key_any nb n t _ (by simpa using c0)).mono ?_
      rintro e w3 ⟨rfl, hw3⟩
      have hO3 : Only [] w w3 := by rw [hw3]; exact (Only.refl _ _).drew.alloc _
      have hSn := (show _ ∧ _ from ⟨hO3.cell c0 (by simp), hO3.cell c3 (by simp)⟩)
      have lk := LKK.out w3 hO3
      clear hw3
      go_wp2_with fail
      refine hK.out _ _ hSn (fun hHeld => ?_)
      clear hK K
      refine wpAnyH_ready (rs := [10]) (by kernel_rfl) (by simp) ?_
      refine (AllReadyH.cons rfl (fun K hK => ?_) AllReadyH.nil)
      go_simp
      refine hK.out _ _ hSn (fun hHeld => ?_)
      clear hK K
      refine takeD 11 16 (.bool true) rfl rfl (by kernel_rfl) (by kernel_rfl) (by kernel_rfl) (fun _ _ _ h => h) (Or.inl ⟨by kernel_rfl, ?_⟩) (by assumption) ?_
      · intro w hSw; go_simp
      simp only [List.setIfInBounds_toArray, List.set_cons_zero, List.set_cons_succ]
      refine wpAnyH_done (by kernel_rfl) ?_ _
      go_wp2_with fail
      refine (vote_any nb n text s kn L sort vt V t w3 (HP.out.only hO3 (by simp) (by simp) (by simp)) hl ht1 ht2).mono ?_
      rintro e w4 ⟨rfl, hO4, hP4⟩
      have HO4 : Hid (Only [nb, kn] w w4) := (hO3.mono (by simp)).trans hO4
      have HP4 : Hid (PartAt w4 nb n ((PS.mk text s L).vote n t V).text ((PS.mk text s L).vote n t V).safe kn ((PS.mk text s L).vote n t V).L sort vt V) := hP4
      obtain ⟨d0, -, -, d3, -⟩ := hP4.node.cells
      have hz4 : w.heap.size ≤ w4.heap.size := HO4.out.size
      clear hO4 hP4 hO3 hSn lk c0 c1 c2 c3 cf
      have c0 := d0
      have c3 := d3
      clear d0 d3
      have LK4 : Hid (∀ w', Only [] w4 w' → (Instr.lookup 127 (.map (some kn)) (keyV n t) false).run Tryz.prog w' = .ok (.int .i64 4) w') := fun w' ho => by
        have := run_lookI (HP4.out.known.only ho (by simp)) n t
        rw [HKV.out, HW.out] at this
        exact this
      go_wp2_with fail
      refine wp_region_held_drew (S := fun w' => w'.cell? ⟨nb, 0, none⟩ = some (.int .i64 n) ∧ w'.cell? ⟨nb, 3, none⟩ = some (.map (some kn))) (by kernel_rfl) ⟨c0, c3⟩ (fun hHeld => ?_)
      refine takeD 0 20 (.pointer (some ⟨nb, 0, none⟩)) rfl rfl (by kernel_rfl) (by kernel_rfl) (by kernel_rfl) (fun _ _ _ h => h) (Or.inl ⟨by kernel_rfl, ?_⟩) (by assumption) ?_
      · intro w hSw; go_simp
      simp only [List.setIfInBounds_toArray, List.set_cons_zero, List.set_cons_succ]
      refine takeD 1 21 (.pointer (some ⟨nb, 0, none⟩)) rfl rfl (by kernel_rfl) (by kernel_rfl) (by kernel_rfl) (fun _ _ _ h => h) (Or.inl ⟨by kernel_rfl, ?_⟩) (by assumption) ?_
      · intro w hSw; go_simp
      simp only [List.setIfInBounds_toArray, List.set_cons_zero, List.set_cons_succ]
      refine takeD 2 22 (.pointer (some ⟨nb, 0, none⟩)) rfl rfl (by kernel_rfl) (by kernel_rfl) (by kernel_rfl) (fun _ _ _ h => h) (Or.inl ⟨by kernel_rfl, ?_⟩) (by assumption) ?_
      · intro w hSw; go_simp
      simp only [List.setIfInBounds_toArray, List.set_cons_zero, List.set_cons_succ]
      refine takeD 3 23 (.pointer (some ⟨nb, 3, none⟩)) rfl rfl (by kernel_rfl) (by kernel_rfl) (by kernel_rfl) (fun _ _ _ h => h) (Or.inl ⟨by kernel_rfl, ?_⟩) (by assumption) ?_
      · intro w hSw; go_simp
      simp only [List.setIfInBounds_toArray, List.set_cons_zero, List.set_cons_succ]
      refine takeD 4 24 (.map (some kn)) rfl rfl (by kernel_rfl) (by kernel_rfl) (by kernel_rfl) (fun _ _ _ h => h) (Or.inl ⟨by kernel_rfl, ?_⟩) (by assumption) ?_
      · intro w hSw; go_simp
      simp only [List.setIfInBounds_toArray, List.set_cons_zero, List.set_cons_succ]
      refine takeD 5 25 (.pointer (some ⟨nb, 0, none⟩)) rfl rfl (by kernel_rfl) (by kernel_rfl) (by kernel_rfl) (fun _ _ _ h => h) (Or.inl ⟨by kernel_rfl, ?_⟩) (by assumption) ?_
      · intro w hSw; go_simp
      simp only [List.setIfInBounds_toArray, List.set_cons_zero, List.set_cons_succ]
      refine takeD 6 26 (.pointer (some ⟨nb, 0, none⟩)) rfl rfl (by kernel_rfl) (by kernel_rfl) (by kernel_rfl) (fun _ _ _ h => h) (Or.inl ⟨by kernel_rfl, ?_⟩) (by assumption) ?_
      · intro w hSw; go_simp
      simp only [List.setIfInBounds_toArray, List.set_cons_zero, List.set_cons_succ]
      refine takeD 7 27 (.pointer (some ⟨nb, 0, none⟩)) rfl rfl (by kernel_rfl) (by kernel_rfl) (by kernel_rfl) (fun _ _ _ h => h) (Or.inl ⟨by kernel_rfl, ?_⟩) (by assumption) ?_
      · intro w hSw; go_simp
      simp only [List.setIfInBounds_toArray, List.set_cons_zero, List.set_cons_succ]
      refine takeD 8 28 (.int .i64 t) rfl rfl (by kernel_rfl) (by kernel_rfl) (by kernel_rfl) (fun _ _ _ h => h) (Or.inl ⟨by kernel_rfl, ?_⟩) (by assumption) ?_
      · intro w hSw; go_simp
      simp only [List.setIfInBounds_toArray, List.set_cons_zero, List.set_cons_succ]
      refine wpAnyH_ready (rs := [9]) (by kernel_rfl) (by simp) ?_
      refine (AllReadyH.cons rfl (fun K hK => ?_) AllReadyH.nil)
      go_simp
      refine (key_any nb n t _ (by simpa using c0)).mono ?_
      rintro e w5 ⟨rfl, hw3⟩
      have hO3 : Only [] w4 w5 := by rw [hw3]; exact (Only.refl _ _).drew.alloc _
      have hSn := (show _ ∧ _ from ⟨hO3.cell c0 (by simp), hO3.cell c3 (by simp)⟩)
      have lk := LK4.out w5 hO3
      clear hw3
      go_wp2_with fail
      refine hK.out _ _ hSn (fun hHeld => ?_)
      clear hK K
      refine wpAnyH_ready (rs := [10]) (by kernel_rfl) (by simp) ?_
      refine (AllReadyH.cons rfl (fun K hK => ?_) AllReadyH.nil)
      go_simp
      refine hK.out _ _ hSn (fun hHeld => ?_)
      clear hK K
      refine wpAnyH_done (by kernel_rfl) ?_ _
      have hOb := hO3
      have hzb := hOb.size
      have HOb : Hid (Only [] w4 w5) := hOb
      clear hO3 hOb lk
      go_wp2_with fail
      refine (say_any nb n 3 t _ (hSn.1)).mono ?_
      rintro e w6 ⟨rfl, hO6⟩
      have hz6 := hO6.size
      have HO6 : Hid _ := hO6
      clear hO6
      unfold msgV
      go_wp2_with fail
      go_ret
      refine ⟨_, rfl, ?_, ?_, ?_⟩
      · exact HO4.out.trans (((HOb.out.trans HO6.out).alloc _).mono (by simp))
      · exact HP4.out.only ((HOb.out.trans HO6.out).alloc _) (by simp) (by simp) (by simp)
      · rw [HS.out, HW.out]; exact sent_one _ _ _ _ _ _ (by omega)
end Go.Proofs.YtfpojgljgbgkkaaGreatDoor

/-
  A participant: settle.
-/
namespace Go.Proofs.YtfpojgljgbgkkaaGreatDoor
open Go.RowKit
open Go.ChangeMaps (setBlock)

attribute [local go_sem ↓] Go.wp_at_zero Go.wp_at_succ

def PS.settle (n t sort o : Int) (p : PS) : PS :=
  if awaitsB (lookI n t p.L) o = true then ⟨p.text ++ recL (recOfI o) t, if presB sort o = true then p.safe else ((p.text ++ recL (recOfI o) t).length : Int), putI n t (recOfI o) p.L⟩ else p
def PS.acks (n t sort o : Int) (p : PS) : List (Int × Int × Int × Int) := if presB sort o = false ∧ lookI n t p.L = recOfI o then [(6, n, 0, t)] else []
theorem recOfI_bd (o : Int) : 1 ≤ recOfI o ∧ recOfI o ≤ 4 := by unfold recOfI; split <;> omega

theorem settle_write (nb : Nat) (n : Int) (text : List UInt8) (s : Int) (kn : Nat) (L : List ((Int × Int) × Int)) (sort : Int) (vt : Nat) (V : List ((Int × Int) × Int)) (o t : Int) (w : World) (hP : PartAt w nb n text s kn L sort vt V) (hl : text.length ≤ 1000000) (ht1 : 1 ≤ t) (ht2 : t ≤ 16383) :
    Calls Tryz.prog 92 #[.pointer (some ⟨nb, 0, none⟩), .int .i64 (recOfI o), .int .i64 t] w fun e w' => e = .returned (.tuple #[]) ∧ Only [nb, kn] w w' ∧ PartAt w' nb n (text ++ recL (recOfI o) t) s kn (putI n t (recOfI o) L) sort vt V := by
  have hb := recOfI_bd o
  refine (baseWrite_any nb _ n s text kn _ (toV L) (recOfI o) t w hP.node hP.known hl hb.1 hb.2 ht1 ht2).mono ?_
  rintro e w4 ⟨rfl, ho4, hn4, hm4⟩
  rw [putL_int] at hm4
  exact ⟨rfl, ho4, hn4, hm4, hP.votes.only ho4 (by simp [hP.votes.ne hP.node, Ne.symm hP.ne]), hP.ne⟩

set_option maxRecDepth 100000 in
set_option maxHeartbeats 16000000 in
theorem settle_any (nb : Nat) (n : Int) (text : List UInt8) (s : Int) (kn : Nat) (L : List ((Int × Int) × Int)) (sort : Int) (vt : Nat) (V : List ((Int × Int) × Int)) (o t : Int) (w : World) (hP : PartAt w nb n text s kn L sort vt V) (hl : text.length ≤ 1000000) (ht1 : 1 ≤ t) (ht2 : t ≤ 16383) :
    Calls Tryz.prog 198 #[.pointer (some ⟨nb, 0, none⟩), .int .i64 o, .int .i64 t] w fun e w' => ∃ v, e = .returned v ∧ Only [nb, kn] w w' ∧ PartAt w' nb n ((PS.mk text s L).settle n t sort o).text ((PS.mk text s L).settle n t sort o).safe kn ((PS.mk text s L).settle n t sort o).L sort vt V ∧ Sent2 w.heap.size w' v (((PS.mk text s L).settle n t sort o).acks n t sort o) := by
  obtain ⟨c0, c1, c2, c3, cf⟩ := hP.node.cells
  obtain ⟨c4, -⟩ := hP.cells
  have HP : Hid (PartAt w nb n text s kn L sort vt V) := hP
  have hnl := block_lt hP.node
  clear hP
  cases hp : presB sort o
  · cases ha : awaitsB (lookI n t L) o
    · cases he : (lookI n t L == recOfI o)
      · have HS : Hid ((PS.mk text s L).settle n t sort o = ⟨text, s, L⟩) := by show _ = _; simp [PS.settle, ha]
        have HA : Hid (((PS.mk text s L).settle n t sort o).acks n t sort o = []) := by show _ = _; rw [HS.out]; simp [PS.acks, hp, beq_eq_false_iff_ne.1 he]
        go_enter Tryz.func198, Tryz.ntmps198
        go_wp2
        refine wp_region_held_drew (S := fun w' => w'.cell? ⟨nb, 5, none⟩ = some (.int .i64 sort)) (by kernel_rfl) c4 (fun hHeld => ?_)
        refine takeD 0 9 (.int .i64 o) rfl rfl (by kernel_rfl) (by kernel_rfl) (by kernel_rfl) (fun _ _ _ h => h) (Or.inl ⟨by kernel_rfl, ?_⟩) (by assumption) ?_
        · intro w hSw; go_simp
        simp only [List.setIfInBounds_toArray, List.set_cons_zero, List.set_cons_succ]
        refine takeD 2 11 (.pointer (some ⟨nb, 0, none⟩)) rfl rfl (by kernel_rfl) (by kernel_rfl) (by kernel_rfl) (fun _ _ _ h => h) (Or.inl ⟨by kernel_rfl, ?_⟩) (by assumption) ?_
        · intro w hSw; go_simp
        simp only [List.setIfInBounds_toArray, List.set_cons_zero, List.set_cons_succ]
        refine takeD 3 12 (.pointer (some ⟨nb, 0, none⟩)) rfl rfl (by kernel_rfl) (by kernel_rfl) (by kernel_rfl) (fun _ _ _ h => h) (Or.inl ⟨by kernel_rfl, ?_⟩) (by assumption) ?_
        · intro w hSw; go_simp
        simp only [List.setIfInBounds_toArray, List.set_cons_zero, List.set_cons_succ]
        refine takeD 4 13 (.pointer (some ⟨nb, 5, none⟩)) rfl rfl (by kernel_rfl) (by kernel_rfl) (by kernel_rfl) (fun _ _ _ h => h) (Or.inl ⟨by kernel_rfl, ?_⟩) (by assumption) ?_
        · intro w hSw; go_simp
        simp only [List.setIfInBounds_toArray, List.set_cons_zero, List.set_cons_succ]
        refine takeD 5 14 (.int .i64 sort) rfl rfl (by kernel_rfl) (by kernel_rfl) (by kernel_rfl) (fun _ _ _ h => h) (Or.inl ⟨by kernel_rfl, ?_⟩) (by assumption) ?_
        · intro w hSw; go_simp
        simp only [List.setIfInBounds_toArray, List.set_cons_zero, List.set_cons_succ]
        refine takeD 6 15 (.int .i64 o) rfl rfl (by kernel_rfl) (by kernel_rfl) (by kernel_rfl) (fun _ _ _ h => h) (Or.inl ⟨by kernel_rfl, ?_⟩) (by assumption) ?_
        · intro w hSw; go_simp
        simp only [List.setIfInBounds_toArray, List.set_cons_zero, List.set_cons_succ]
        refine wpAnyH_ready (rs := [1]) (by kernel_rfl) (by simp) ?_
        refine (AllReadyH.cons rfl (fun K hK => ?_) AllReadyH.nil)
        go_simp
        refine (recordOf_any o _).mono ?_
        rintro e w2 ⟨rfl, rfl⟩
        go_wp2_with fail
        refine hK.out _ _ c4 (fun hHeld => ?_)
        clear hK K
        refine wpAnyH_ready (rs := [7]) (by kernel_rfl) (by simp) ?_
        refine (AllReadyH.cons rfl (fun K hK => ?_) AllReadyH.nil)
        go_simp
        refine (presumes_any sort o _).mono ?_
        rintro e w2 ⟨rfl, rfl⟩
        go_wp2_with fail
        refine hK.out _ _ c4 (fun hHeld => ?_)
        clear hK K
        refine takeD 8 17 (.bool true) rfl rfl (by kernel_rfl) (by kernel_rfl) (by kernel_rfl) (fun _ _ _ h => h) (Or.inl ⟨by kernel_rfl, ?_⟩) (by assumption) ?_
        · intro w hSw; go_simp
        simp only [List.setIfInBounds_toArray, List.set_cons_zero, List.set_cons_succ]
        refine takeD 9 7 (.int .i64 (recOfI o)) rfl rfl (by kernel_rfl) (by kernel_rfl) (by kernel_rfl) (fun _ _ _ h => h) (Or.inl ⟨by kernel_rfl, ?_⟩) (by assumption) ?_
        · intro w hSw; go_simp
        simp only [List.setIfInBounds_toArray, List.set_cons_zero, List.set_cons_succ]
        refine takeD 10 8 (.bool true) rfl rfl (by kernel_rfl) (by kernel_rfl) (by kernel_rfl) (fun _ _ _ h => h) (Or.inl ⟨by kernel_rfl, ?_⟩) (by assumption) ?_
        · intro w hSw; go_simp
        simp only [List.setIfInBounds_toArray, List.set_cons_zero, List.set_cons_succ]
        refine wpAnyH_done (by kernel_rfl) ?_ _
        go_wp2_with fail
        refine (awaits_any nb n text s kn L sort vt V o t _ (HP.out.only (S := []) (Only.refl _ _).drew (by simp) (by simp) (by simp))).mono ?_
        rintro e wa ⟨rfl, hOa⟩
        have hOa : Only [] w wa := (Only.refl [] w).drew.trans hOa
        have HPa : Hid (PartAt wa nb n text s kn L sort vt V) := HP.out.only hOa (by simp) (by simp) (by simp)
        have HOa : Hid (Only [] w wa) := hOa
        have hza := hOa.size
        clear hOa
        rw [ha]
        have HOw : Hid (Only [nb, kn] w wa) := HOa.out.mono (by simp)
        have HPw : Hid (PartAt wa nb n text s kn L sort vt V) := HPa
        obtain ⟨d0, -, -, d3, -⟩ := HPw.out.node.cells
        clear c0 c1 c2 c3 c4 cf
        have c0 := d0
        have c3 := d3
        clear d0 d3
        have LK : Hid (∀ w', Only [] wa w' → (Instr.lookup 127 (.map (some kn)) (keyV n t) false).run Tryz.prog w' = .ok (.int .i64 (lookI n t L)) w') := fun w' ho => run_lookI (HPw.out.known.only ho (by simp)) n t
        go_wp2_with fail
        refine wp_region_held_drew (S := fun w' => w'.cell? ⟨nb, 0, none⟩ = some (.int .i64 n) ∧ w'.cell? ⟨nb, 3, none⟩ = some (.map (some kn))) (by kernel_rfl) ⟨c0, c3⟩ (fun hHeld => ?_)
        refine takeD 0 34 (.bool true) rfl rfl (by kernel_rfl) (by kernel_rfl) (by kernel_rfl) (fun _ _ _ h => h) (Or.inl ⟨by kernel_rfl, ?_⟩) (by assumption) ?_
        · intro w hSw; go_simp
        simp only [List.setIfInBounds_toArray, List.set_cons_zero, List.set_cons_succ]
        refine takeD 1 35 (.bool true) rfl rfl (by kernel_rfl) (by kernel_rfl) (by kernel_rfl) (fun _ _ _ h => h) (Or.inl ⟨by kernel_rfl, ?_⟩) (by assumption) ?_
        · intro w hSw; go_simp
        simp only [List.setIfInBounds_toArray, List.set_cons_zero, List.set_cons_succ]
        refine takeD 2 36 (.pointer (some ⟨nb, 0, none⟩)) rfl rfl (by kernel_rfl) (by kernel_rfl) (by kernel_rfl) (fun _ _ _ h => h) (Or.inl ⟨by kernel_rfl, ?_⟩) (by assumption) ?_
        · intro w hSw; go_simp
        simp only [List.setIfInBounds_toArray, List.set_cons_zero, List.set_cons_succ]
        refine takeD 3 37 (.pointer (some ⟨nb, 0, none⟩)) rfl rfl (by kernel_rfl) (by kernel_rfl) (by kernel_rfl) (fun _ _ _ h => h) (Or.inl ⟨by kernel_rfl, ?_⟩) (by assumption) ?_
        · intro w hSw; go_simp
        simp only [List.setIfInBounds_toArray, List.set_cons_zero, List.set_cons_succ]
        refine takeD 4 38 (.pointer (some ⟨nb, 0, none⟩)) rfl rfl (by kernel_rfl) (by kernel_rfl) (by kernel_rfl) (fun _ _ _ h => h) (Or.inl ⟨by kernel_rfl, ?_⟩) (by assumption) ?_
        · intro w hSw; go_simp
        simp only [List.setIfInBounds_toArray, List.set_cons_zero, List.set_cons_succ]
        refine takeD 5 39 (.pointer (some ⟨nb, 3, none⟩)) rfl rfl (by kernel_rfl) (by kernel_rfl) (by kernel_rfl) (fun _ _ _ h => h) (Or.inl ⟨by kernel_rfl, ?_⟩) (by assumption) ?_
        · intro w hSw; go_simp
        simp only [List.setIfInBounds_toArray, List.set_cons_zero, List.set_cons_succ]
        refine takeD 6 40 (.map (some kn)) rfl rfl (by kernel_rfl) (by kernel_rfl) (by kernel_rfl) (fun _ _ _ h => h) (Or.inl ⟨by kernel_rfl, ?_⟩) (by assumption) ?_
        · intro w hSw; go_simp
        simp only [List.setIfInBounds_toArray, List.set_cons_zero, List.set_cons_succ]
        refine takeD 7 41 (.pointer (some ⟨nb, 0, none⟩)) rfl rfl (by kernel_rfl) (by kernel_rfl) (by kernel_rfl) (fun _ _ _ h => h) (Or.inl ⟨by kernel_rfl, ?_⟩) (by assumption) ?_
        · intro w hSw; go_simp
        simp only [List.setIfInBounds_toArray, List.set_cons_zero, List.set_cons_succ]
        refine takeD 8 42 (.pointer (some ⟨nb, 0, none⟩)) rfl rfl (by kernel_rfl) (by kernel_rfl) (by kernel_rfl) (fun _ _ _ h => h) (Or.inl ⟨by kernel_rfl, ?_⟩) (by assumption) ?_
        · intro w hSw; go_simp
        simp only [List.setIfInBounds_toArray, List.set_cons_zero, List.set_cons_succ]
        refine takeD 9 43 (.pointer (some ⟨nb, 0, none⟩)) rfl rfl (by kernel_rfl) (by kernel_rfl) (by kernel_rfl) (fun _ _ _ h => h) (Or.inl ⟨by kernel_rfl, ?_⟩) (by assumption) ?_
        · intro w hSw; go_simp
        simp only [List.setIfInBounds_toArray, List.set_cons_zero, List.set_cons_succ]
        refine takeD 10 44 (.int .i64 t) rfl rfl (by kernel_rfl) (by kernel_rfl) (by kernel_rfl) (fun _ _ _ h => h) (Or.inl ⟨by kernel_rfl, ?_⟩) (by assumption) ?_
        · intro w hSw; go_simp
        simp only [List.setIfInBounds_toArray, List.set_cons_zero, List.set_cons_succ]
        refine takeD 13 47 (.int .i64 (recOfI o)) rfl rfl (by kernel_rfl) (by kernel_rfl) (by kernel_rfl) (fun _ _ _ h => h) (Or.inl ⟨by kernel_rfl, ?_⟩) (by assumption) ?_
        · intro w hSw; go_simp
        simp only [List.setIfInBounds_toArray, List.set_cons_zero, List.set_cons_succ]
        refine wpAnyH_ready (rs := [11]) (by kernel_rfl) (by simp) ?_
        refine (AllReadyH.cons rfl (fun K hK => ?_) AllReadyH.nil)
        go_simp
        refine (key_any nb n t _ (by simpa using c0)).mono ?_
        rintro e w5 ⟨rfl, hw3⟩
        have hO3 : Only [] wa w5 := by rw [hw3]; exact (Only.refl _ _).drew.alloc _
        have hSn := (show _ ∧ _ from ⟨hO3.cell c0 (by simp), hO3.cell c3 (by simp)⟩)
        have lk := LK.out w5 hO3
        clear hw3
        go_wp2_with fail
        refine hK.out _ _ hSn (fun hHeld => ?_)
        clear hK K
        refine wpAnyH_ready (rs := [12]) (by kernel_rfl) (by simp) ?_
        refine (AllReadyH.cons rfl (fun K hK => ?_) AllReadyH.nil)
        go_simp
        refine hK.out _ _ hSn (fun hHeld => ?_)
        clear hK K
        refine takeD 14 48 (.bool false) rfl rfl (by kernel_rfl) (by kernel_rfl) (by kernel_rfl) (fun _ _ _ h => h) (Or.inl ⟨by kernel_rfl, ?_⟩) (by assumption) ?_
        · intro w hSw; go_simp
        simp only [List.setIfInBounds_toArray, List.set_cons_zero, List.set_cons_succ]
        refine takeD 15 49 (.bool false) rfl rfl (by kernel_rfl) (by kernel_rfl) (by kernel_rfl) (fun _ _ _ h => h) (Or.inl ⟨by kernel_rfl, ?_⟩) (by assumption) ?_
        · intro w hSw; go_simp
        simp only [List.setIfInBounds_toArray, List.set_cons_zero, List.set_cons_succ]
        refine wpAnyH_done (by kernel_rfl) ?_ _
        have HOb : Hid (Only [] wa w5) := hO3
        have hzb := hO3.size
        clear hO3 lk
        go_wp2_with fail
        go_ret
        refine ⟨_, rfl, ?_, ?_, ?_⟩
        · exact HOw.out.trans (HOb.out.mono (by simp))
        · rw [HS.out]; exact HPw.out.only HOb.out (by simp) (by simp) (by simp)
        · rw [HA.out]; exact sent_none _ _
      · have HS : Hid ((PS.mk text s L).settle n t sort o = ⟨text, s, L⟩) := by show _ = _; simp [PS.settle, ha]
        have HA : Hid (((PS.mk text s L).settle n t sort o).acks n t sort o = [(6, n, 0, t)]) := by show _ = _; rw [HS.out]; simp [PS.acks, hp, beq_iff_eq.1 he]
        go_enter Tryz.func198, Tryz.ntmps198
        go_wp2
        refine wp_region_held_drew (S := fun w' => w'.cell? ⟨nb, 5, none⟩ = some (.int .i64 sort)) (by kernel_rfl) c4 (fun hHeld => ?_)
        refine takeD 0 9 (.int .i64 o) rfl rfl (by kernel_rfl) (by kernel_rfl) (by kernel_rfl) (fun _ _ _ h => h) (Or.inl ⟨by kernel_rfl, ?_⟩) (by assumption) ?_
        · intro w hSw; go_simp
        simp only [List.setIfInBounds_toArray, List.set_cons_zero, List.set_cons_succ]
        refine takeD 2 11 (.pointer (some ⟨nb, 0, none⟩)) rfl rfl (by kernel_rfl) (by kernel_rfl) (by kernel_rfl) (fun _ _ _ h => h) (Or.inl ⟨by kernel_rfl, ?_⟩) (by assumption) ?_
        · intro w hSw; go_simp
        simp only [List.setIfInBounds_toArray, List.set_cons_zero, List.set_cons_succ]
        refine takeD 3 12 (.pointer (some ⟨nb, 0, none⟩)) rfl rfl (by kernel_rfl) (by kernel_rfl) (by kernel_rfl) (fun _ _ _ h => h) (Or.inl ⟨by kernel_rfl, ?_⟩) (by assumption) ?_
        · intro w hSw; go_simp
        simp only [List.setIfInBounds_toArray, List.set_cons_zero, List.set_cons_succ]
        refine takeD 4 13 (.pointer (some ⟨nb, 5, none⟩)) rfl rfl (by kernel_rfl) (by kernel_rfl) (by kernel_rfl) (fun _ _ _ h => h) (Or.inl ⟨by kernel_rfl, ?_⟩) (by assumption) ?_
        · intro w hSw; go_simp
        simp only [List.setIfInBounds_toArray, List.set_cons_zero, List.set_cons_succ]
        refine takeD 5 14 (.int .i64 sort) rfl rfl (by kernel_rfl) (by kernel_rfl) (by kernel_rfl) (fun _ _ _ h => h) (Or.inl ⟨by kernel_rfl, ?_⟩) (by assumption) ?_
        · intro w hSw; go_simp
        simp only [List.setIfInBounds_toArray, List.set_cons_zero, List.set_cons_succ]
        refine takeD 6 15 (.int .i64 o) rfl rfl (by kernel_rfl) (by kernel_rfl) (by kernel_rfl) (fun _ _ _ h => h) (Or.inl ⟨by kernel_rfl, ?_⟩) (by assumption) ?_
        · intro w hSw; go_simp
        simp only [List.setIfInBounds_toArray, List.set_cons_zero, List.set_cons_succ]
        refine wpAnyH_ready (rs := [1]) (by kernel_rfl) (by simp) ?_
        refine (AllReadyH.cons rfl (fun K hK => ?_) AllReadyH.nil)
        go_simp
        refine (recordOf_any o _).mono ?_
        rintro e w2 ⟨rfl, rfl⟩
        go_wp2_with fail
        refine hK.out _ _ c4 (fun hHeld => ?_)
        clear hK K
        refine wpAnyH_ready (rs := [7]) (by kernel_rfl) (by simp) ?_
        refine (AllReadyH.cons rfl (fun K hK => ?_) AllReadyH.nil)
        go_simp
        refine (presumes_any sort o _).mono ?_
        rintro e w2 ⟨rfl, rfl⟩
        go_wp2_with fail
        refine hK.out _ _ c4 (fun hHeld => ?_)
        clear hK K
        refine takeD 8 17 (.bool true) rfl rfl (by kernel_rfl) (by kernel_rfl) (by kernel_rfl) (fun _ _ _ h => h) (Or.inl ⟨by kernel_rfl, ?_⟩) (by assumption) ?_
        · intro w hSw; go_simp
        simp only [List.setIfInBounds_toArray, List.set_cons_zero, List.set_cons_succ]
        refine takeD 9 7 (.int .i64 (recOfI o)) rfl rfl (by kernel_rfl) (by kernel_rfl) (by kernel_rfl) (fun _ _ _ h => h) (Or.inl ⟨by kernel_rfl, ?_⟩) (by assumption) ?_
        · intro w hSw; go_simp
        simp only [List.setIfInBounds_toArray, List.set_cons_zero, List.set_cons_succ]
        refine takeD 10 8 (.bool true) rfl rfl (by kernel_rfl) (by kernel_rfl) (by kernel_rfl) (fun _ _ _ h => h) (Or.inl ⟨by kernel_rfl, ?_⟩) (by assumption) ?_
        · intro w hSw; go_simp
        simp only [List.setIfInBounds_toArray, List.set_cons_zero, List.set_cons_succ]
        refine wpAnyH_done (by kernel_rfl) ?_ _
        go_wp2_with fail
        refine (awaits_any nb n text s kn L sort vt V o t _ (HP.out.only (S := []) (Only.refl _ _).drew (by simp) (by simp) (by simp))).mono ?_
        rintro e wa ⟨rfl, hOa⟩
        have hOa : Only [] w wa := (Only.refl [] w).drew.trans hOa
        have HPa : Hid (PartAt wa nb n text s kn L sort vt V) := HP.out.only hOa (by simp) (by simp) (by simp)
        have HOa : Hid (Only [] w wa) := hOa
        have hza := hOa.size
        clear hOa
        rw [ha]
        have HOw : Hid (Only [nb, kn] w wa) := HOa.out.mono (by simp)
        have HPw : Hid (PartAt wa nb n text s kn L sort vt V) := HPa
        obtain ⟨d0, -, -, d3, -⟩ := HPw.out.node.cells
        clear c0 c1 c2 c3 c4 cf
        have c0 := d0
        have c3 := d3
        clear d0 d3
        have LK : Hid (∀ w', Only [] wa w' → (Instr.lookup 127 (.map (some kn)) (keyV n t) false).run Tryz.prog w' = .ok (.int .i64 (lookI n t L)) w') := fun w' ho => run_lookI (HPw.out.known.only ho (by simp)) n t
        go_wp2_with fail
        refine wp_region_held_drew (S := fun w' => w'.cell? ⟨nb, 0, none⟩ = some (.int .i64 n) ∧ w'.cell? ⟨nb, 3, none⟩ = some (.map (some kn))) (by kernel_rfl) ⟨c0, c3⟩ (fun hHeld => ?_)
        refine takeD 0 34 (.bool true) rfl rfl (by kernel_rfl) (by kernel_rfl) (by kernel_rfl) (fun _ _ _ h => h) (Or.inl ⟨by kernel_rfl, ?_⟩) (by assumption) ?_
        · intro w hSw; go_simp
        simp only [List.setIfInBounds_toArray, List.set_cons_zero, List.set_cons_succ]
        refine takeD 1 35 (.bool true) rfl rfl (by kernel_rfl) (by kernel_rfl) (by kernel_rfl) (fun _ _ _ h => h) (Or.inl ⟨by kernel_rfl, ?_⟩) (by assumption) ?_
        · intro w hSw; go_simp
        simp only [List.setIfInBounds_toArray, List.set_cons_zero, List.set_cons_succ]
        refine takeD 2 36 (.pointer (some ⟨nb, 0, none⟩)) rfl rfl (by kernel_rfl) (by kernel_rfl) (by kernel_rfl) (fun _ _ _ h => h) (Or.inl ⟨by kernel_rfl, ?_⟩) (by assumption) ?_
        · intro w hSw; go_simp
        simp only [List.setIfInBounds_toArray, List.set_cons_zero, List.set_cons_succ]
        refine takeD 3 37 (.pointer (some ⟨nb, 0, none⟩)) rfl rfl (by kernel_rfl) (by kernel_rfl) (by kernel_rfl) (fun _ _ _ h => h) (Or.inl ⟨by kernel_rfl, ?_⟩) (by assumption) ?_
        · intro w hSw; go_simp
        simp only [List.setIfInBounds_toArray, List.set_cons_zero, List.set_cons_succ]
        refine takeD 4 38 (.pointer (some ⟨nb, 0, none⟩)) rfl rfl (by kernel_rfl) (by kernel_rfl) (by kernel_rfl) (fun _ _ _ h => h) (Or.inl ⟨by kernel_rfl, ?_⟩) (by assumption) ?_
        · intro w hSw; go_simp
        simp only [List.setIfInBounds_toArray, List.set_cons_zero, List.set_cons_succ]
        refine takeD 5 39 (.pointer (some ⟨nb, 3, none⟩)) rfl rfl (by kernel_rfl) (by kernel_rfl) (by kernel_rfl) (fun _ _ _ h => h) (Or.inl ⟨by kernel_rfl, ?_⟩) (by assumption) ?_
        · intro w hSw; go_simp
        simp only [List.setIfInBounds_toArray, List.set_cons_zero, List.set_cons_succ]
        refine takeD 6 40 (.map (some kn)) rfl rfl (by kernel_rfl) (by kernel_rfl) (by kernel_rfl) (fun _ _ _ h => h) (Or.inl ⟨by kernel_rfl, ?_⟩) (by assumption) ?_
        · intro w hSw; go_simp
        simp only [List.setIfInBounds_toArray, List.set_cons_zero, List.set_cons_succ]
        refine takeD 7 41 (.pointer (some ⟨nb, 0, none⟩)) rfl rfl (by kernel_rfl) (by kernel_rfl) (by kernel_rfl) (fun _ _ _ h => h) (Or.inl ⟨by kernel_rfl, ?_⟩) (by assumption) ?_
        · intro w hSw; go_simp
        simp only [List.setIfInBounds_toArray, List.set_cons_zero, List.set_cons_succ]
        refine takeD 8 42 (.pointer (some ⟨nb, 0, none⟩)) rfl rfl (by kernel_rfl) (by kernel_rfl) (by kernel_rfl) (fun _ _ _ h => h) (Or.inl ⟨by kernel_rfl, ?_⟩) (by assumption) ?_
        · intro w hSw; go_simp
        simp only [List.setIfInBounds_toArray, List.set_cons_zero, List.set_cons_succ]
        refine takeD 9 43 (.pointer (some ⟨nb, 0, none⟩)) rfl rfl (by kernel_rfl) (by kernel_rfl) (by kernel_rfl) (fun _ _ _ h => h) (Or.inl ⟨by kernel_rfl, ?_⟩) (by assumption) ?_
        · intro w hSw; go_simp
        simp only [List.setIfInBounds_toArray, List.set_cons_zero, List.set_cons_succ]
        refine takeD 10 44 (.int .i64 t) rfl rfl (by kernel_rfl) (by kernel_rfl) (by kernel_rfl) (fun _ _ _ h => h) (Or.inl ⟨by kernel_rfl, ?_⟩) (by assumption) ?_
        · intro w hSw; go_simp
        simp only [List.setIfInBounds_toArray, List.set_cons_zero, List.set_cons_succ]
        refine takeD 13 47 (.int .i64 (recOfI o)) rfl rfl (by kernel_rfl) (by kernel_rfl) (by kernel_rfl) (fun _ _ _ h => h) (Or.inl ⟨by kernel_rfl, ?_⟩) (by assumption) ?_
        · intro w hSw; go_simp
        simp only [List.setIfInBounds_toArray, List.set_cons_zero, List.set_cons_succ]
        refine wpAnyH_ready (rs := [11]) (by kernel_rfl) (by simp) ?_
        refine (AllReadyH.cons rfl (fun K hK => ?_) AllReadyH.nil)
        go_simp
        refine (key_any nb n t _ (by simpa using c0)).mono ?_
        rintro e w5 ⟨rfl, hw3⟩
        have hO3 : Only [] wa w5 := by rw [hw3]; exact (Only.refl _ _).drew.alloc _
        have hSn := (show _ ∧ _ from ⟨hO3.cell c0 (by simp), hO3.cell c3 (by simp)⟩)
        have lk := LK.out w5 hO3
        clear hw3
        go_wp2_with fail
        refine hK.out _ _ hSn (fun hHeld => ?_)
        clear hK K
        refine wpAnyH_ready (rs := [12]) (by kernel_rfl) (by simp) ?_
        refine (AllReadyH.cons rfl (fun K hK => ?_) AllReadyH.nil)
        go_simp
        refine hK.out _ _ hSn (fun hHeld => ?_)
        clear hK K
        refine takeD 14 48 (.bool true) rfl rfl (by kernel_rfl) (by kernel_rfl) (by kernel_rfl) (fun _ _ _ h => h) (Or.inl ⟨by kernel_rfl, ?_⟩) (by assumption) ?_
        · intro w hSw; go_simp
        simp only [List.setIfInBounds_toArray, List.set_cons_zero, List.set_cons_succ]
        refine takeD 15 49 (.bool true) rfl rfl (by kernel_rfl) (by kernel_rfl) (by kernel_rfl) (fun _ _ _ h => h) (Or.inl ⟨by kernel_rfl, ?_⟩) (by assumption) ?_
        · intro w hSw; go_simp
        simp only [List.setIfInBounds_toArray, List.set_cons_zero, List.set_cons_succ]
        refine wpAnyH_done (by kernel_rfl) ?_ _
        have HOb : Hid (Only [] wa w5) := hO3
        have hzb := hO3.size
        clear hO3 lk
        go_wp2_with fail
        refine (say_any nb n 6 t _ (hSn.1)).mono ?_
        rintro e w6 ⟨rfl, hO6⟩
        have hz6 := hO6.size
        have HO6 : Hid _ := hO6
        clear hO6
        unfold msgV
        go_wp2_with fail
        go_ret
        refine ⟨_, rfl, ?_, ?_, ?_⟩
        · exact HOw.out.trans (((HOb.out.trans HO6.out).alloc _).mono (by simp))
        · rw [HS.out]; exact HPw.out.only ((HOb.out.trans HO6.out).alloc _) (by simp) (by simp) (by simp)
        · rw [HA.out]; exact sent_one _ _ _ _ _ _ (by omega)
    · have HS : Hid ((PS.mk text s L).settle n t sort o = ⟨text ++ recL (recOfI o) t, ((text ++ recL (recOfI o) t).length : Int), putI n t (recOfI o) L⟩) := by show _ = _; simp [PS.settle, hp, ha]
      have HA : Hid (((PS.mk text s L).settle n t sort o).acks n t sort o = [(6, n, 0, t)]) := by show _ = _; rw [HS.out]; simp [PS.acks, hp, lookI_put]
      go_enter Tryz.func198, Tryz.ntmps198
      go_wp2
      refine wp_region_held_drew (S := fun w' => w'.cell? ⟨nb, 5, none⟩ = some (.int .i64 sort)) (by kernel_rfl) c4 (fun hHeld => ?_)
      refine takeD 0 9 (.int .i64 o) rfl rfl (by kernel_rfl) (by kernel_rfl) (by kernel_rfl) (fun _ _ _ h => h) (Or.inl ⟨by kernel_rfl, ?_⟩) (by assumption) ?_
      · intro w hSw; go_simp
      simp only [List.setIfInBounds_toArray, List.set_cons_zero, List.set_cons_succ]
      refine takeD 2 11 (.pointer (some ⟨nb, 0, none⟩)) rfl rfl (by kernel_rfl) (by kernel_rfl) (by kernel_rfl) (fun _ _ _ h => h) (Or.inl ⟨by kernel_rfl, ?_⟩) (by assumption) ?_
      · intro w hSw; go_simp
      simp only [List.setIfInBounds_toArray, List.set_cons_zero, List.set_cons_succ]
      refine takeD 3 12 (.pointer (some ⟨nb, 0, none⟩)) rfl rfl (by kernel_rfl) (by kernel_rfl) (by kernel_rfl) (fun _ _ _ h => h) (Or.inl ⟨by kernel_rfl, ?_⟩) (by assumption) ?_
      · intro w hSw; go_simp
      simp only [List.setIfInBounds_toArray, List.set_cons_zero, List.set_cons_succ]
      refine takeD 4 13 (.pointer (some ⟨nb, 5, none⟩)) rfl rfl (by kernel_rfl) (by kernel_rfl) (by kernel_rfl) (fun _ _ _ h => h) (Or.inl ⟨by kernel_rfl, ?_⟩) (by assumption) ?_
      · intro w hSw; go_simp
      simp only [List.setIfInBounds_toArray, List.set_cons_zero, List.set_cons_succ]
      refine takeD 5 14 (.int .i64 sort) rfl rfl (by kernel_rfl) (by kernel_rfl) (by kernel_rfl) (fun _ _ _ h => h) (Or.inl ⟨by kernel_rfl, ?_⟩) (by assumption) ?_
      · intro w hSw; go_simp
      simp only [List.setIfInBounds_toArray, List.set_cons_zero, List.set_cons_succ]
      refine takeD 6 15 (.int .i64 o) rfl rfl (by kernel_rfl) (by kernel_rfl) (by kernel_rfl) (fun _ _ _ h => h) (Or.inl ⟨by kernel_rfl, ?_⟩) (by assumption) ?_
      · intro w hSw; go_simp
      simp only [List.setIfInBounds_toArray, List.set_cons_zero, List.set_cons_succ]
      refine wpAnyH_ready (rs := [1]) (by kernel_rfl) (by simp) ?_
      refine (AllReadyH.cons rfl (fun K hK => ?_) AllReadyH.nil)
      go_simp
      refine (recordOf_any o _).mono ?_
      rintro e w2 ⟨rfl, rfl⟩
      go_wp2_with fail
      refine hK.out _ _ c4 (fun hHeld => ?_)
      clear hK K
      refine wpAnyH_ready (rs := [7]) (by kernel_rfl) (by simp) ?_
      refine (AllReadyH.cons rfl (fun K hK => ?_) AllReadyH.nil)
      go_simp
      refine (presumes_any sort o _).mono ?_
      rintro e w2 ⟨rfl, rfl⟩
      go_wp2_with fail
      refine hK.out _ _ c4 (fun hHeld => ?_)
      clear hK K
      refine takeD 8 17 (.bool true) rfl rfl (by kernel_rfl) (by kernel_rfl) (by kernel_rfl) (fun _ _ _ h => h) (Or.inl ⟨by kernel_rfl, ?_⟩) (by assumption) ?_
      · intro w hSw; go_simp
      simp only [List.setIfInBounds_toArray, List.set_cons_zero, List.set_cons_succ]
      refine takeD 9 7 (.int .i64 (recOfI o)) rfl rfl (by kernel_rfl) (by kernel_rfl) (by kernel_rfl) (fun _ _ _ h => h) (Or.inl ⟨by kernel_rfl, ?_⟩) (by assumption) ?_
      · intro w hSw; go_simp
      simp only [List.setIfInBounds_toArray, List.set_cons_zero, List.set_cons_succ]
      refine takeD 10 8 (.bool true) rfl rfl (by kernel_rfl) (by kernel_rfl) (by kernel_rfl) (fun _ _ _ h => h) (Or.inl ⟨by kernel_rfl, ?_⟩) (by assumption) ?_
      · intro w hSw; go_simp
      simp only [List.setIfInBounds_toArray, List.set_cons_zero, List.set_cons_succ]
      refine wpAnyH_done (by kernel_rfl) ?_ _
      go_wp2_with fail
      refine (awaits_any nb n text s kn L sort vt V o t _ (HP.out.only (S := []) (Only.refl _ _).drew (by simp) (by simp) (by simp))).mono ?_
      rintro e wa ⟨rfl, hOa⟩
      have hOa : Only [] w wa := (Only.refl [] w).drew.trans hOa
      have HPa : Hid (PartAt wa nb n text s kn L sort vt V) := HP.out.only hOa (by simp) (by simp) (by simp)
      have HOa : Hid (Only [] w wa) := hOa
      have hza := hOa.size
      clear hOa
      rw [ha]
      go_wp2_with fail
      refine (settle_write nb n text s kn L sort vt V o t wa HPa.out hl ht1 ht2).mono ?_
      rintro e wb ⟨rfl, hOb, hPb⟩
      have hzb0 := hOb.size
      have HOb0 : Hid (Only [nb, kn] w wb) := (HOa.out.mono (by simp)).trans hOb
      have HPb : Hid _ := hPb
      clear hOb hPb
      obtain ⟨-, d1, d2, -, df⟩ := HPb.out.node.cells
      go_wp2_with fail
      refine (force_any nb _ s wb d1 d2 (df 2)).mono ?_
      rintro e wc ⟨rfl, hwc⟩
      have HOw : Hid (Only [nb, kn] w wc) := HOb0.out.trans (by rw [hwc]; exact (Only.refl _ _).setCell (.inl (by simp)) _)
      have HPw : Hid (PartAt wc nb n (text ++ recL (recOfI o) t) ((text ++ recL (recOfI o) t).length : Int) kn (putI n t (recOfI o) L) sort vt V) := by rw [hwc]; exact HPb.out.setSafe _
      have hzw : wb.heap.size ≤ wc.heap.size := by rw [hwc]; simp [World.setCell]
      clear hwc d1 d2 df
      obtain ⟨d0, -, -, d3, -⟩ := HPw.out.node.cells
      clear c0 c1 c2 c3 c4 cf
      have c0 := d0
      have c3 := d3
      clear d0 d3
      have LK : Hid (∀ w', Only [] wc w' → (Instr.lookup 127 (.map (some kn)) (keyV n t) false).run Tryz.prog w' = .ok (.int .i64 (recOfI o)) w') := fun w' ho => by
        have := run_lookI (HPw.out.known.only ho (by simp)) n t
        rw [lookI_put] at this
        exact this
      go_wp2_with fail
      refine wp_region_held_drew (S := fun w' => w'.cell? ⟨nb, 0, none⟩ = some (.int .i64 n) ∧ w'.cell? ⟨nb, 3, none⟩ = some (.map (some kn))) (by kernel_rfl) ⟨c0, c3⟩ (fun hHeld => ?_)
      refine takeD 0 34 (.bool true) rfl rfl (by kernel_rfl) (by kernel_rfl) (by kernel_rfl) (fun _ _ _ h => h) (Or.inl ⟨by kernel_rfl, ?_⟩) (by assumption) ?_
      · intro w hSw; go_simp
      simp only [List.setIfInBounds_toArray, List.set_cons_zero, List.set_cons_succ]
      refine takeD 1 35 (.bool true) rfl rfl (by kernel_rfl) (by kernel_rfl) (by kernel_rfl) (fun _ _ _ h => h) (Or.inl ⟨by kernel_rfl, ?_⟩) (by assumption) ?_
      · intro w hSw; go_simp
      simp only [List.setIfInBounds_toArray, List.set_cons_zero, List.set_cons_succ]
      refine takeD 2 36 (.pointer (some ⟨nb, 0, none⟩)) rfl rfl (by kernel_rfl) (by kernel_rfl) (by kernel_rfl) (fun _ _ _ h => h) (Or.inl ⟨by kernel_rfl, ?_⟩) (by assumption) ?_
      · intro w hSw; go_simp
      simp only [List.setIfInBounds_toArray, List.set_cons_zero, List.set_cons_succ]
      refine takeD 3 37 (.pointer (some ⟨nb, 0, none⟩)) rfl rfl (by kernel_rfl) (by kernel_rfl) (by kernel_rfl) (fun _ _ _ h => h) (Or.inl ⟨by kernel_rfl, ?_⟩) (by assumption) ?_
      · intro w hSw; go_simp
      simp only [List.setIfInBounds_toArray, List.set_cons_zero, List.set_cons_succ]
      refine takeD 4 38 (.pointer (some ⟨nb, 0, none⟩)) rfl rfl (by kernel_rfl) (by kernel_rfl) (by kernel_rfl) (fun _ _ _ h => h) (Or.inl ⟨by kernel_rfl, ?_⟩) (by assumption) ?_
      · intro w hSw; go_simp
      simp only [List.setIfInBounds_toArray, List.set_cons_zero, List.set_cons_succ]
      refine takeD 5 39 (.pointer (some ⟨nb, 3, none⟩)) rfl rfl (by kernel_rfl) (by kernel_rfl) (by kernel_rfl) (fun _ _ _ h => h) (Or.inl ⟨by kernel_rfl, ?_⟩) (by assumption) ?_
      · intro w hSw; go_simp
      simp only [List.setIfInBounds_toArray, List.set_cons_zero, List.set_cons_succ]
      refine takeD 6 40 (.map (some kn)) rfl rfl (by kernel_rfl) (by kernel_rfl) (by kernel_rfl) (fun _ _ _ h => h) (Or.inl ⟨by kernel_rfl, ?_⟩) (by assumption) ?_
      · intro w hSw; go_simp
      simp only [List.setIfInBounds_toArray, List.set_cons_zero, List.set_cons_succ]
      refine takeD 7 41 (.pointer (some ⟨nb, 0, none⟩)) rfl rfl (by kernel_rfl) (by kernel_rfl) (by kernel_rfl) (fun _ _ _ h => h) (Or.inl ⟨by kernel_rfl, ?_⟩) (by assumption) ?_
      · intro w hSw; go_simp
      simp only [List.setIfInBounds_toArray, List.set_cons_zero, List.set_cons_succ]
      refine takeD 8 42 (.pointer (some ⟨nb, 0, none⟩)) rfl rfl (by kernel_rfl) (by kernel_rfl) (by kernel_rfl) (fun _ _ _ h => h) (Or.inl ⟨by kernel_rfl, ?_⟩) (by assumption) ?_
      · intro w hSw; go_simp
      simp only [List.setIfInBounds_toArray, List.set_cons_zero, List.set_cons_succ]
      refine takeD 9 43 (.pointer (some ⟨nb, 0, none⟩)) rfl rfl (by kernel_rfl) (by kernel_rfl) (by kernel_rfl) (fun _ _ _ h => h) (Or.inl ⟨by kernel_rfl, ?_⟩) (by assumption) ?_
      · intro w hSw; go_simp
      simp only [List.setIfInBounds_toArray, List.set_cons_zero, List.set_cons_succ]
      refine takeD 10 44 (.int .i64 t) rfl rfl (by kernel_rfl) (by kernel_rfl) (by kernel_rfl) (fun _ _ _ h => h) (Or.inl ⟨by kernel_rfl, ?_⟩) (by assumption) ?_
      · intro w hSw; go_simp
      simp only [List.setIfInBounds_toArray, List.set_cons_zero, List.set_cons_succ]
      refine takeD 13 47 (.int .i64 (recOfI o)) rfl rfl (by kernel_rfl) (by kernel_rfl) (by kernel_rfl) (fun _ _ _ h => h) (Or.inl ⟨by kernel_rfl, ?_⟩) (by assumption) ?_
      · intro w hSw; go_simp
      simp only [List.setIfInBounds_toArray, List.set_cons_zero, List.set_cons_succ]
      refine wpAnyH_ready (rs := [11]) (by kernel_rfl) (by simp) ?_
      refine (AllReadyH.cons rfl (fun K hK => ?_) AllReadyH.nil)
      go_simp
      refine (key_any nb n t _ (by simpa using c0)).mono ?_
      rintro e w5 ⟨rfl, hw3⟩
      have hO3 : Only [] wc w5 := by rw [hw3]; exact (Only.refl _ _).drew.alloc _
      have hSn := (show _ ∧ _ from ⟨hO3.cell c0 (by simp), hO3.cell c3 (by simp)⟩)
      have lk := LK.out w5 hO3
      clear hw3
      go_wp2_with fail
      refine hK.out _ _ hSn (fun hHeld => ?_)
      clear hK K
      refine wpAnyH_ready (rs := [12]) (by kernel_rfl) (by simp) ?_
      refine (AllReadyH.cons rfl (fun K hK => ?_) AllReadyH.nil)
      go_simp
      refine hK.out _ _ hSn (fun hHeld => ?_)
      clear hK K
      refine takeD 14 48 (.bool true) rfl rfl (by kernel_rfl) (by kernel_rfl) (by kernel_rfl) (fun _ _ _ h => h) (Or.inl ⟨by kernel_rfl, ?_⟩) (by assumption) ?_
      · intro w hSw; go_simp
      simp only [List.setIfInBounds_toArray, List.set_cons_zero, List.set_cons_succ]
      refine takeD 15 49 (.bool true) rfl rfl (by kernel_rfl) (by kernel_rfl) (by kernel_rfl) (fun _ _ _ h => h) (Or.inl ⟨by kernel_rfl, ?_⟩) (by assumption) ?_
      · intro w hSw; go_simp
      simp only [List.setIfInBounds_toArray, List.set_cons_zero, List.set_cons_succ]
      refine wpAnyH_done (by kernel_rfl) ?_ _
      have HOb : Hid (Only [] wc w5) := hO3
      have hzb := hO3.size
      clear hO3 lk
      go_wp2_with fail
      refine (say_any nb n 6 t _ (hSn.1)).mono ?_
      rintro e w6 ⟨rfl, hO6⟩
      have hz6 := hO6.size
      have HO6 : Hid _ := hO6
      clear hO6
      unfold msgV
      go_wp2_with fail
      go_ret
      refine ⟨_, rfl, ?_, ?_, ?_⟩
      · exact HOw.out.trans (((HOb.out.trans HO6.out).alloc _).mono (by simp))
      · rw [HS.out]; exact HPw.out.only ((HOb.out.trans HO6.out).alloc _) (by simp) (by simp) (by simp)
      · rw [HA.out]; exact sent_one _ _ _ _ _ _ (by omega)
  · cases ha : awaitsB (lookI n t L) o
    · have HS : Hid ((PS.mk text s L).settle n t sort o = ⟨text, s, L⟩) := by show _ = _; simp [PS.settle, ha]
      have HA : Hid (((PS.mk text s L).settle n t sort o).acks n t sort o = []) := by show _ = _; simp [PS.acks, hp]
      go_enter Tryz.func198, Tryz.ntmps198
      go_wp2
      refine wp_region_held_drew (S := fun w' => w'.cell? ⟨nb, 5, none⟩ = some (.int .i64 sort)) (by kernel_rfl) c4 (fun hHeld => ?_)
      refine takeD 0 9 (.int .i64 o) rfl rfl (by kernel_rfl) (by kernel_rfl) (by kernel_rfl) (fun _ _ _ h => h) (Or.inl ⟨by kernel_rfl, ?_⟩) (by assumption) ?_
      · intro w hSw; go_simp
      simp only [List.setIfInBounds_toArray, List.set_cons_zero, List.set_cons_succ]
      refine takeD 2 11 (.pointer (some ⟨nb, 0, none⟩)) rfl rfl (by kernel_rfl) (by kernel_rfl) (by kernel_rfl) (fun _ _ _ h => h) (Or.inl ⟨by kernel_rfl, ?_⟩) (by assumption) ?_
      · intro w hSw; go_simp
      simp only [List.setIfInBounds_toArray, List.set_cons_zero, List.set_cons_succ]
      refine takeD 3 12 (.pointer (some ⟨nb, 0, none⟩)) rfl rfl (by kernel_rfl) (by kernel_rfl) (by kernel_rfl) (fun _ _ _ h => h) (Or.inl ⟨by kernel_rfl, ?_⟩) (by assumption) ?_
      · intro w hSw; go_simp
      simp only [List.setIfInBounds_toArray, List.set_cons_zero, List.set_cons_succ]
      refine takeD 4 13 (.pointer (some ⟨nb, 5, none⟩)) rfl rfl (by kernel_rfl) (by kernel_rfl) (by kernel_rfl) (fun _ _ _ h => h) (Or.inl ⟨by kernel_rfl, ?_⟩) (by assumption) ?_
      · intro w hSw; go_simp
      simp only [List.setIfInBounds_toArray, List.set_cons_zero, List.set_cons_succ]
      refine takeD 5 14 (.int .i64 sort) rfl rfl (by kernel_rfl) (by kernel_rfl) (by kernel_rfl) (fun _ _ _ h => h) (Or.inl ⟨by kernel_rfl, ?_⟩) (by assumption) ?_
      · intro w hSw; go_simp
      simp only [List.setIfInBounds_toArray, List.set_cons_zero, List.set_cons_succ]
      refine takeD 6 15 (.int .i64 o) rfl rfl (by kernel_rfl) (by kernel_rfl) (by kernel_rfl) (fun _ _ _ h => h) (Or.inl ⟨by kernel_rfl, ?_⟩) (by assumption) ?_
      · intro w hSw; go_simp
      simp only [List.setIfInBounds_toArray, List.set_cons_zero, List.set_cons_succ]
      refine wpAnyH_ready (rs := [1]) (by kernel_rfl) (by simp) ?_
      refine (AllReadyH.cons rfl (fun K hK => ?_) AllReadyH.nil)
      go_simp
      refine (recordOf_any o _).mono ?_
      rintro e w2 ⟨rfl, rfl⟩
      go_wp2_with fail
      refine hK.out _ _ c4 (fun hHeld => ?_)
      clear hK K
      refine wpAnyH_ready (rs := [7]) (by kernel_rfl) (by simp) ?_
      refine (AllReadyH.cons rfl (fun K hK => ?_) AllReadyH.nil)
      go_simp
      refine (presumes_any sort o _).mono ?_
      rintro e w2 ⟨rfl, rfl⟩
      go_wp2_with fail
      refine hK.out _ _ c4 (fun hHeld => ?_)
      clear hK K
      refine takeD 8 17 (.bool false) rfl rfl (by kernel_rfl) (by kernel_rfl) (by kernel_rfl) (fun _ _ _ h => h) (Or.inl ⟨by kernel_rfl, ?_⟩) (by assumption) ?_
      · intro w hSw; go_simp
      simp only [List.setIfInBounds_toArray, List.set_cons_zero, List.set_cons_succ]
      refine takeD 9 7 (.int .i64 (recOfI o)) rfl rfl (by kernel_rfl) (by kernel_rfl) (by kernel_rfl) (fun _ _ _ h => h) (Or.inl ⟨by kernel_rfl, ?_⟩) (by assumption) ?_
      · intro w hSw; go_simp
      simp only [List.setIfInBounds_toArray, List.set_cons_zero, List.set_cons_succ]
      refine takeD 10 8 (.bool false) rfl rfl (by kernel_rfl) (by kernel_rfl) (by kernel_rfl) (fun _ _ _ h => h) (Or.inl ⟨by kernel_rfl, ?_⟩) (by assumption) ?_
      · intro w hSw; go_simp
      simp only [List.setIfInBounds_toArray, List.set_cons_zero, List.set_cons_succ]
      refine wpAnyH_done (by kernel_rfl) ?_ _
      go_wp2_with fail
      refine (awaits_any nb n text s kn L sort vt V o t _ (HP.out.only (S := []) (Only.refl _ _).drew (by simp) (by simp) (by simp))).mono ?_
      rintro e wa ⟨rfl, hOa⟩
      have hOa : Only [] w wa := (Only.refl [] w).drew.trans hOa
      have HPa : Hid (PartAt wa nb n text s kn L sort vt V) := HP.out.only hOa (by simp) (by simp) (by simp)
      have HOa : Hid (Only [] w wa) := hOa
      have hza := hOa.size
      clear hOa
      rw [ha]
      have HOw : Hid (Only [nb, kn] w wa) := HOa.out.mono (by simp)
      have HPw : Hid (PartAt wa nb n text s kn L sort vt V) := HPa
      obtain ⟨d0, -, -, d3, -⟩ := HPw.out.node.cells
      clear c0 c1 c2 c3 c4 cf
      have c0 := d0
      have c3 := d3
      clear d0 d3
      go_wp2_with fail
      refine wp_region_held_drew (S := fun w' => w'.cell? ⟨nb, 0, none⟩ = some (.int .i64 n) ∧ w'.cell? ⟨nb, 3, none⟩ = some (.map (some kn))) (by kernel_rfl) ⟨c0, c3⟩ (fun hHeld => ?_)
      refine takeD 0 34 (.bool false) rfl rfl (by kernel_rfl) (by kernel_rfl) (by kernel_rfl) (fun _ _ _ h => h) (Or.inl ⟨by kernel_rfl, ?_⟩) (by assumption) ?_
      · intro w hSw; go_simp
      simp only [List.setIfInBounds_toArray, List.set_cons_zero, List.set_cons_succ]
      refine takeD 1 35 (.bool false) rfl rfl (by kernel_rfl) (by kernel_rfl) (by kernel_rfl) (fun _ _ _ h => h) (Or.inl ⟨by kernel_rfl, ?_⟩) (by assumption) ?_
      · intro w hSw; go_simp
      simp only [List.setIfInBounds_toArray, List.set_cons_zero, List.set_cons_succ]
      refine takeD 2 36 undef rfl rfl (by kernel_rfl) (by kernel_rfl) (by kernel_rfl) (fun _ _ _ h => h) (Or.inr ⟨by kernel_rfl, rfl⟩) (by assumption) ?_
      simp only [List.setIfInBounds_toArray, List.set_cons_zero, List.set_cons_succ]
      refine takeD 3 37 undef rfl rfl (by kernel_rfl) (by kernel_rfl) (by kernel_rfl) (fun _ _ _ h => h) (Or.inr ⟨by kernel_rfl, rfl⟩) (by assumption) ?_
      simp only [List.setIfInBounds_toArray, List.set_cons_zero, List.set_cons_succ]
      refine takeD 4 38 undef rfl rfl (by kernel_rfl) (by kernel_rfl) (by kernel_rfl) (fun _ _ _ h => h) (Or.inr ⟨by kernel_rfl, rfl⟩) (by assumption) ?_
      simp only [List.setIfInBounds_toArray, List.set_cons_zero, List.set_cons_succ]
      refine takeD 5 39 undef rfl rfl (by kernel_rfl) (by kernel_rfl) (by kernel_rfl) (fun _ _ _ h => h) (Or.inr ⟨by kernel_rfl, rfl⟩) (by assumption) ?_
      simp only [List.setIfInBounds_toArray, List.set_cons_zero, List.set_cons_succ]
      refine takeD 6 40 undef rfl rfl (by kernel_rfl) (by kernel_rfl) (by kernel_rfl) (fun _ _ _ h => h) (Or.inr ⟨by kernel_rfl, rfl⟩) (by assumption) ?_
      simp only [List.setIfInBounds_toArray, List.set_cons_zero, List.set_cons_succ]
      refine takeD 7 41 undef rfl rfl (by kernel_rfl) (by kernel_rfl) (by kernel_rfl) (fun _ _ _ h => h) (Or.inr ⟨by kernel_rfl, rfl⟩) (by assumption) ?_
      simp only [List.setIfInBounds_toArray, List.set_cons_zero, List.set_cons_succ]
      refine takeD 8 42 undef rfl rfl (by kernel_rfl) (by kernel_rfl) (by kernel_rfl) (fun _ _ _ h => h) (Or.inr ⟨by kernel_rfl, rfl⟩) (by assumption) ?_
      simp only [List.setIfInBounds_toArray, List.set_cons_zero, List.set_cons_succ]
      refine takeD 9 43 undef rfl rfl (by kernel_rfl) (by kernel_rfl) (by kernel_rfl) (fun _ _ _ h => h) (Or.inr ⟨by kernel_rfl, rfl⟩) (by assumption) ?_
      simp only [List.setIfInBounds_toArray, List.set_cons_zero, List.set_cons_succ]
      refine takeD 10 44 undef rfl rfl (by kernel_rfl) (by kernel_rfl) (by kernel_rfl) (fun _ _ _ h => h) (Or.inr ⟨by kernel_rfl, rfl⟩) (by assumption) ?_
      simp only [List.setIfInBounds_toArray, List.set_cons_zero, List.set_cons_succ]
      refine takeD 11 45 undef rfl rfl (by kernel_rfl) (by kernel_rfl) (by kernel_rfl) (fun _ _ _ h => h) (Or.inr ⟨by kernel_rfl, rfl⟩) (by assumption) ?_
      simp only [List.setIfInBounds_toArray, List.set_cons_zero, List.set_cons_succ]
      refine takeD 12 46 undef rfl rfl (by kernel_rfl) (by kernel_rfl) (by kernel_rfl) (fun _ _ _ h => h) (Or.inr ⟨by kernel_rfl, rfl⟩) (by assumption) ?_
      simp only [List.setIfInBounds_toArray, List.set_cons_zero, List.set_cons_succ]
      refine takeD 13 47 undef rfl rfl (by kernel_rfl) (by kernel_rfl) (by kernel_rfl) (fun _ _ _ h => h) (Or.inr ⟨by kernel_rfl, rfl⟩) (by assumption) ?_
      simp only [List.setIfInBounds_toArray, List.set_cons_zero, List.set_cons_succ]
      refine takeD 14 48 undef rfl rfl (by kernel_rfl) (by kernel_rfl) (by kernel_rfl) (fun _ _ _ h => h) (Or.inr ⟨by kernel_rfl, rfl⟩) (by assumption) ?_
      simp only [List.setIfInBounds_toArray, List.set_cons_zero, List.set_cons_succ]
      refine takeD 15 49 (.bool false) rfl rfl (by kernel_rfl) (by kernel_rfl) (by kernel_rfl) (fun _ _ _ h => h) (Or.inl ⟨by kernel_rfl, ?_⟩) (by assumption) ?_
      · intro w hSw; go_simp
      simp only [List.setIfInBounds_toArray, List.set_cons_zero, List.set_cons_succ]
      refine wpAnyH_done (by kernel_rfl) ?_ _
      go_wp2_with fail
      go_ret
      refine ⟨_, rfl, ?_, ?_, ?_⟩
      · exact HOw.out.drew
      · rw [HS.out]; exact HPw.out.only (S := []) (Only.refl _ _).drew (by simp) (by simp) (by simp)
      · rw [HA.out]; exact sent_none _ _
    · have HS : Hid ((PS.mk text s L).settle n t sort o = ⟨text ++ recL (recOfI o) t, s, putI n t (recOfI o) L⟩) := by show _ = _; simp [PS.settle, hp, ha]
      have HA : Hid (((PS.mk text s L).settle n t sort o).acks n t sort o = []) := by show _ = _; simp [PS.acks, hp]
      go_enter Tryz.func198, Tryz.ntmps198
      go_wp2
      refine wp_region_held_drew (S := fun w' => w'.cell? ⟨nb, 5, none⟩ = some (.int .i64 sort)) (by kernel_rfl) c4 (fun hHeld => ?_)
      refine takeD 0 9 (.int .i64 o) rfl rfl (by kernel_rfl) (by kernel_rfl) (by kernel_rfl) (fun _ _ _ h => h) (Or.inl ⟨by kernel_rfl, ?_⟩) (by assumption) ?_
      · intro w hSw; go_simp
      simp only [List.setIfInBounds_toArray, List.set_cons_zero, List.set_cons_succ]
      refine takeD 2 11 (.pointer (some ⟨nb, 0, none⟩)) rfl rfl (by kernel_rfl) (by kernel_rfl) (by kernel_rfl) (fun _ _ _ h => h) (Or.inl ⟨by kernel_rfl, ?_⟩) (by assumption) ?_
      · intro w hSw; go_simp
      simp only [List.setIfInBounds_toArray, List.set_cons_zero, List.set_cons_succ]
      refine takeD 3 12 (.pointer (some ⟨nb, 0, none⟩)) rfl rfl (by kernel_rfl) (by kernel_rfl) (by kernel_rfl) (fun _ _ _ h => h) (Or.inl ⟨by kernel_rfl, ?_⟩) (by assumption) ?_
      · intro w hSw; go_simp
      simp only [List.setIfInBounds_toArray, List.set_cons_zero, List.set_cons_succ]
      refine takeD 4 13 (.pointer (some ⟨nb, 5, none⟩)) rfl rfl (by kernel_rfl) (by kernel_rfl) (by kernel_rfl) (fun _ _ _ h => h) (Or.inl ⟨by kernel_rfl, ?_⟩) (by assumption) ?_
      · intro w hSw; go_simp
      simp only [List.setIfInBounds_toArray, List.set_cons_zero, List.set_cons_succ]
      refine takeD 5 14 (.int .i64 sort) rfl rfl (by kernel_rfl) (by kernel_rfl) (by kernel_rfl) (fun _ _ _ h => h) (Or.inl ⟨by kernel_rfl, ?_⟩) (by assumption) ?_
      · intro w hSw; go_simp
      simp only [List.setIfInBounds_toArray, List.set_cons_zero, List.set_cons_succ]
      refine takeD 6 15 (.int .i64 o) rfl rfl (by kernel_rfl) (by kernel_rfl) (by kernel_rfl) (fun _ _ _ h => h) (Or.inl ⟨by kernel_rfl, ?_⟩) (by assumption) ?_
      · intro w hSw; go_simp
      simp only [List.setIfInBounds_toArray, List.set_cons_zero, List.set_cons_succ]
      refine wpAnyH_ready (rs := [1]) (by kernel_rfl) (by simp) ?_
      refine (AllReadyH.cons rfl (fun K hK => ?_) AllReadyH.nil)
      go_simp
      refine (recordOf_any o _).mono ?_
      rintro e w2 ⟨rfl, rfl⟩
      go_wp2_with fail
      refine hK.out _ _ c4 (fun hHeld => ?_)
      clear hK K
      refine wpAnyH_ready (rs := [7]) (by kernel_rfl) (by simp) ?_
      refine (AllReadyH.cons rfl (fun K hK => ?_) AllReadyH.nil)
      go_simp
      refine (presumes_any sort o _).mono ?_
      rintro e w2 ⟨rfl, rfl⟩
      go_wp2_with fail
      refine hK.out _ _ c4 (fun hHeld => ?_)
      clear hK K
      refine takeD 8 17 (.bool false) rfl rfl (by kernel_rfl) (by kernel_rfl) (by kernel_rfl) (fun _ _ _ h => h) (Or.inl ⟨by kernel_rfl, ?_⟩) (by assumption) ?_
      · intro w hSw; go_simp
      simp only [List.setIfInBounds_toArray, List.set_cons_zero, List.set_cons_succ]
      refine takeD 9 7 (.int .i64 (recOfI o)) rfl rfl (by kernel_rfl) (by kernel_rfl) (by kernel_rfl) (fun _ _ _ h => h) (Or.inl ⟨by kernel_rfl, ?_⟩) (by assumption) ?_
      · intro w hSw; go_simp
      simp only [List.setIfInBounds_toArray, List.set_cons_zero, List.set_cons_succ]
      refine takeD 10 8 (.bool false) rfl rfl (by kernel_rfl) (by kernel_rfl) (by kernel_rfl) (fun _ _ _ h => h) (Or.inl ⟨by kernel_rfl, ?_⟩) (by assumption) ?_
      · intro w hSw; go_simp
      simp only [List.setIfInBounds_toArray, List.set_cons_zero, List.set_cons_succ]
      refine wpAnyH_done (by kernel_rfl) ?_ _
      go_wp2_with fail
      refine (awaits_any nb n text s kn L sort vt V o t _ (HP.out.only (S := []) (Only.refl _ _).drew (by simp) (by simp) (by simp))).mono ?_
      rintro e wa ⟨rfl, hOa⟩
      have hOa : Only [] w wa := (Only.refl [] w).drew.trans hOa
      have HPa : Hid (PartAt wa nb n text s kn L sort vt V) := HP.out.only hOa (by simp) (by simp) (by simp)
      have HOa : Hid (Only [] w wa) := hOa
      have hza := hOa.size
      clear hOa
      rw [ha]
      go_wp2_with fail
      refine (settle_write nb n text s kn L sort vt V o t wa HPa.out hl ht1 ht2).mono ?_
      rintro e wb ⟨rfl, hOb, hPb⟩
      have hzb0 := hOb.size
      have HOb0 : Hid (Only [nb, kn] w wb) := (HOa.out.mono (by simp)).trans hOb
      have HPb : Hid _ := hPb
      clear hOb hPb
      have HOw := HOb0
      have HPw : Hid (PartAt wb nb n (text ++ recL (recOfI o) t) s kn (putI n t (recOfI o) L) sort vt V) := HPb
      obtain ⟨d0, -, -, d3, -⟩ := HPw.out.node.cells
      clear c0 c1 c2 c3 c4 cf
      have c0 := d0
      have c3 := d3
      clear d0 d3
      go_wp2_with fail
      refine wp_region_held_drew (S := fun w' => w'.cell? ⟨nb, 0, none⟩ = some (.int .i64 n) ∧ w'.cell? ⟨nb, 3, none⟩ = some (.map (some kn))) (by kernel_rfl) ⟨c0, c3⟩ (fun hHeld => ?_)
      refine takeD 0 34 (.bool false) rfl rfl (by kernel_rfl) (by kernel_rfl) (by kernel_rfl) (fun _ _ _ h => h) (Or.inl ⟨by kernel_rfl, ?_⟩) (by assumption) ?_
      · intro w hSw; go_simp
      simp only [List.setIfInBounds_toArray, List.set_cons_zero, List.set_cons_succ]
      refine takeD 1 35 (.bool false) rfl rfl (by kernel_rfl) (by kernel_rfl) (by kernel_rfl) (fun _ _ _ h => h) (Or.inl ⟨by kernel_rfl, ?_⟩) (by assumption) ?_
      · intro w hSw; go_simp
      simp only [List.setIfInBounds_toArray, List.set_cons_zero, List.set_cons_succ]
      refine takeD 2 36 undef rfl rfl (by kernel_rfl) (by kernel_rfl) (by kernel_rfl) (fun _ _ _ h => h) (Or.inr ⟨by kernel_rfl, rfl⟩) (by assumption) ?_
      simp only [List.setIfInBounds_toArray, List.set_cons_zero, List.set_cons_succ]
      refine takeD 3 37 undef rfl rfl (by kernel_rfl) (by kernel_rfl) (by kernel_rfl) (fun _ _ _ h => h) (Or.inr ⟨by kernel_rfl, rfl⟩) (by assumption) ?_
      simp only [List.setIfInBounds_toArray, List.set_cons_zero, List.set_cons_succ]
      refine takeD 4 38 undef rfl rfl (by kernel_rfl) (by kernel_rfl) (by kernel_rfl) (fun _ _ _ h => h) (Or.inr ⟨by kernel_rfl, rfl⟩) (by assumption) ?_
      simp only [List.setIfInBounds_toArray, List.set_cons_zero, List.set_cons_succ]
      refine takeD 5 39 undef rfl rfl (by kernel_rfl) (by kernel_rfl) (by kernel_rfl) (fun _ _ _ h => h) (Or.inr ⟨by kernel_rfl, rfl⟩) (by assumption) ?_
      simp only [List.setIfInBounds_toArray, List.set_cons_zero, List.set_cons_succ]
      refine takeD 6 40 undef rfl rfl (by kernel_rfl) (by kernel_rfl) (by kernel_rfl) (fun _ _ _ h => h) (Or.inr ⟨by kernel_rfl, rfl⟩) (by assumption) ?_
      simp only [List.setIfInBounds_toArray, List.set_cons_zero, List.set_cons_succ]
      refine takeD 7 41 undef rfl rfl (by kernel_rfl) (by kernel_rfl) (by kernel_rfl) (fun _ _ _ h => h) (Or.inr ⟨by kernel_rfl, rfl⟩) (by assumption) ?_
      simp only [List.setIfInBounds_toArray, List.set_cons_zero, List.set_cons_succ]
      refine takeD 8 42 undef rfl rfl (by kernel_rfl) (by kernel_rfl) (by kernel_rfl) (fun _ _ _ h => h) (Or.inr ⟨by kernel_rfl, rfl⟩) (by assumption) ?_
      simp only [List.setIfInBounds_toArray, List.set_cons_zero, List.set_cons_succ]
      refine takeD 9 43 undef rfl rfl (by kernel_rfl) (by kernel_rfl) (by kernel_rfl) (fun _ _ _ h => h) (Or.inr ⟨by kernel_rfl, rfl⟩) (by assumption) ?_
      simp only [List.setIfInBounds_toArray, List.set_cons_zero, List.set_cons_succ]
      refine takeD 10 44 undef rfl rfl (by kernel_rfl) (by kernel_rfl) (by kernel_rfl) (fun _ _ _ h => h) (Or.inr ⟨by kernel_rfl, rfl⟩) (by assumption) ?_
      simp only [List.setIfInBounds_toArray, List.set_cons_zero, List.set_cons_succ]
      refine takeD 11 45 undef rfl rfl (by kernel_rfl) (by kernel_rfl) (by kernel_rfl) (fun _ _ _ h => h) (Or.inr ⟨by kernel_rfl, rfl⟩) (by assumption) ?_
      simp only [List.setIfInBounds_toArray, List.set_cons_zero, List.set_cons_succ]
      refine takeD 12 46 undef rfl rfl (by kernel_rfl) (by kernel_rfl) (by kernel_rfl) (fun _ _ _ h => h) (Or.inr ⟨by kernel_rfl, rfl⟩) (by assumption) ?_
      simp only [List.setIfInBounds_toArray, List.set_cons_zero, List.set_cons_succ]
      refine takeD 13 47 undef rfl rfl (by kernel_rfl) (by kernel_rfl) (by kernel_rfl) (fun _ _ _ h => h) (Or.inr ⟨by kernel_rfl, rfl⟩) (by assumption) ?_
      simp only [List.setIfInBounds_toArray, List.set_cons_zero, List.set_cons_succ]
      refine takeD 14 48 undef rfl rfl (by kernel_rfl) (by kernel_rfl) (by kernel_rfl) (fun _ _ _ h => h) (Or.inr ⟨by kernel_rfl, rfl⟩) (by assumption) ?_
      simp only [List.setIfInBounds_toArray, List.set_cons_zero, List.set_cons_succ]
      refine takeD 15 49 (.bool false) rfl rfl (by kernel_rfl) (by kernel_rfl) (by kernel_rfl) (fun _ _ _ h => h) (Or.inl ⟨by kernel_rfl, ?_⟩) (by assumption) ?_
      · intro w hSw; go_simp
      simp only [List.setIfInBounds_toArray, List.set_cons_zero, List.set_cons_succ]
      refine wpAnyH_done (by kernel_rfl) ?_ _
      go_wp2_with fail
      go_ret
      refine ⟨_, rfl, ?_, ?_, ?_⟩
      · exact HOw.out.drew
      · rw [HS.out]; exact HPw.out.only (S := []) (Only.refl _ _).drew (by simp) (by simp) (by simp)
      · rw [HA.out]; exact sent_none _ _
end Go.Proofs.YtfpojgljgbgkkaaGreatDoor

/-
  A participant: what it does at a message; what it says of a transaction; how it is told to vote.
-/
namespace Go.Proofs.YtfpojgljgbgkkaaGreatDoor
open Go.RowKit
open Go.ChangeMaps (setBlock)

attribute [local go_sem ↓] Go.wp_at_zero Go.wp_at_succ

def PS.gets (n sort : Int) (V : List ((Int × Int) × Int)) (k t : Int) (p : PS) : PS := if k = 1 then p.prepare n t V else if k = 4 ∨ k = 5 then p.settle n t sort k else p
def PS.sends (n sort : Int) (k t : Int) (p' : PS) : List (Int × Int × Int × Int) := if k = 1 then p'.says n t else if k = 4 ∨ k = 5 then p'.acks n t sort k else []

set_option maxRecDepth 100000 in
set_option maxHeartbeats 4000000 in
theorem partOutcome_any (nb : Nat) (n : Int) (text : List UInt8) (s : Int) (kn : Nat) (L : List ((Int × Int) × Int)) (sort : Int) (vt : Nat) (V : List ((Int × Int) × Int)) (t : Int) (w : World) (hP : PartAt w nb n text s kn L sort vt V) :
    Calls Tryz.prog 189 #[.pointer (some ⟨nb, 0, none⟩), .int .i64 t] w fun e w' => e = .returned (.int .i64 (toldI (lookI n t L))) ∧ Only [] w w' := by
  obtain ⟨c0, c1, c2, c3, cf⟩ := hP.node.cells
  have HP : Hid (PartAt w nb n text s kn L sort vt V) := hP
  have hnl := block_lt hP.node
  clear hP
  have LKK : Hid (∀ w', Only [] w w' → (Instr.lookup 127 (.map (some kn)) (keyV n t) false).run Tryz.prog w' = .ok (.int .i64 (lookI n t L)) w') := fun w' ho => run_lookI (HP.out.known.only ho (by simp)) n t
  go_enter Tryz.func189, Tryz.ntmps189
  go_wp2
  refine wp_region_held_drew (S := fun w' => w'.cell? ⟨nb, 0, none⟩ = some (.int .i64 n) ∧ w'.cell? ⟨nb, 3, none⟩ = some (.map (some kn))) (by kernel_rfl) ⟨c0, c3⟩ (fun hHeld => ?_)
  refine takeD 0 5 (.pointer (some ⟨nb, 0, none⟩)) rfl rfl (by kernel_rfl) (by kernel_rfl) (by kernel_rfl) (fun _ _ _ h => h) (Or.inl ⟨by kernel_rfl, ?_⟩) (by assumption) ?_
  · intro w hSw; go_simp
  simp only [List.setIfInBounds_toArray, List.set_cons_zero, List.set_cons_succ]
  refine takeD 1 6 (.pointer (some ⟨nb, 0, none⟩)) rfl rfl (by kernel_rfl) (by kernel_rfl) (by kernel_rfl) (fun _ _ _ h => h) (Or.inl ⟨by kernel_rfl, ?_⟩) (by assumption) ?_
  · intro w hSw; go_simp
  simp only [List.setIfInBounds_toArray, List.set_cons_zero, List.set_cons_succ]
  refine takeD 2 7 (.pointer (some ⟨nb, 0, none⟩)) rfl rfl (by kernel_rfl) (by kernel_rfl) (by kernel_rfl) (fun _ _ _ h => h) (Or.inl ⟨by kernel_rfl, ?_⟩) (by assumption) ?_
  · intro w hSw; go_simp
  simp only [List.setIfInBounds_toArray, List.set_cons_zero, List.set_cons_succ]
  refine takeD 3 8 (.pointer (some ⟨nb, 3, none⟩)) rfl rfl (by kernel_rfl) (by kernel_rfl) (by kernel_rfl) (fun _ _ _ h => h) (Or.inl ⟨by kernel_rfl, ?_⟩) (by assumption) ?_
  · intro w hSw; go_simp
  simp only [List.setIfInBounds_toArray, List.set_cons_zero, List.set_cons_succ]
  refine takeD 4 9 (.map (some kn)) rfl rfl (by kernel_rfl) (by kernel_rfl) (by kernel_rfl) (fun _ _ _ h => h) (Or.inl ⟨by kernel_rfl, ?_⟩) (by assumption) ?_
  · intro w hSw; go_simp
  simp only [List.setIfInBounds_toArray, List.set_cons_zero, List.set_cons_succ]
  refine takeD 5 10 (.pointer (some ⟨nb, 0, none⟩)) rfl rfl (by kernel_rfl) (by kernel_rfl) (by kernel_rfl) (fun _ _ _ h => h) (Or.inl ⟨by kernel_rfl, ?_⟩) (by assumption) ?_
  · intro w hSw; go_simp
  simp only [List.setIfInBounds_toArray, List.set_cons_zero, List.set_cons_succ]
  refine takeD 6 11 (.pointer (some ⟨nb, 0, none⟩)) rfl rfl (by kernel_rfl) (by kernel_rfl) (by kernel_rfl) (fun _ _ _ h => h) (Or.inl ⟨by kernel_rfl, ?_⟩) (by assumption) ?_
  · intro w hSw; go_simp
  simp only [List.setIfInBounds_toArray, List.set_cons_zero, List.set_cons_succ]
  refine takeD 7 12 (.pointer (some ⟨nb, 0, none⟩)) rfl rfl (by kernel_rfl) (by kernel_rfl) (by kernel_rfl) (fun _ _ _ h => h) (Or.inl ⟨by kernel_rfl, ?_⟩) (by assumption) ?_
  · intro w hSw; go_simp
  simp only [List.setIfInBounds_toArray, List.set_cons_zero, List.set_cons_succ]
  refine takeD 8 13 (.int .i64 t) rfl rfl (by kernel_rfl) (by kernel_rfl) (by kernel_rfl) (fun _ _ _ h => h) (Or.inl ⟨by kernel_rfl, ?_⟩) (by assumption) ?_
  · intro w hSw; go_simp
  simp only [List.setIfInBounds_toArray, List.set_cons_zero, List.set_cons_succ]
  refine wpAnyH_ready (rs := [9]) (by kernel_rfl) (by simp) ?_
  refine (AllReadyH.cons rfl (fun K hK => ?_) AllReadyH.nil)
  go_simp
  refine (key_any nb n t _ (by simpa using c0)).mono ?_
  rintro e w3 ⟨rfl, hw3⟩
  have hO3 : Only [] w w3 := by rw [hw3]; exact (Only.refl _ _).drew.alloc _
  have hSn := (show _ ∧ _ from ⟨hO3.cell c0 (by simp), hO3.cell c3 (by simp)⟩)
  have lk := LKK.out w3 hO3
  clear hw3
  go_wp2_with fail
  refine hK.out _ _ hSn (fun hHeld => ?_)
  clear hK K
  refine wpAnyH_ready (rs := [10]) (by kernel_rfl) (by simp) ?_
  refine (AllReadyH.cons rfl (fun K hK => ?_) AllReadyH.nil)
  go_simp
  refine hK.out _ _ hSn (fun hHeld => ?_)
  clear hK K
  refine wpAnyH_ready (rs := [11]) (by kernel_rfl) (by simp) ?_
  refine (AllReadyH.cons rfl (fun K hK => ?_) AllReadyH.nil)
  go_simp
  refine (told_any _ _).mono ?_
  rintro e w4 ⟨rfl, rfl⟩
  go_wp2_with fail
  refine hK.out _ _ hSn (fun hHeld => ?_)
  clear hK K
  refine takeD 12 4 (.int .i64 (toldI (lookI n t L))) rfl rfl (by kernel_rfl) (by kernel_rfl) (by kernel_rfl) (fun _ _ _ h => h) (Or.inl ⟨by kernel_rfl, ?_⟩) (by assumption) ?_
  · intro w hSw; go_simp
  simp only [List.setIfInBounds_toArray, List.set_cons_zero, List.set_cons_succ]
  refine wpAnyH_done (by kernel_rfl) ?_ _
  go_wp2_with fail
  go_ret
  exact ⟨rfl, hO3⟩

set_option maxRecDepth 100000 in
set_option maxHeartbeats 4000000 in
theorem setVote_any (nb : Nat) (n : Int) (text : List UInt8) (s : Int) (kn : Nat) (L : List ((Int × Int) × Int)) (sort : Int) (vt : Nat) (V : List ((Int × Int) × Int)) (t : Int) (yes : Bool) (w : World) (hP : PartAt w nb n text s kn L sort vt V) :
    Calls Tryz.prog 32 #[.pointer (some ⟨nb, 0, none⟩), .int .i64 t, .bool yes] w fun e w' => e = .returned (.tuple #[]) ∧ Only [vt] w w' ∧ PartAt w' nb n text s kn L sort vt (putI n t (if yes then 2 else 3) V) := by
  obtain ⟨c0, c1, c2, c3, cf⟩ := hP.node.cells
  obtain ⟨c4, c5⟩ := hP.cells
  have HP : Hid (PartAt w nb n text s kn L sort vt V) := hP
  have hnl := block_lt hP.node
  have hvn : vt ≠ nb := hP.votes.ne hP.node
  have hkv := hP.ne
  clear hP
  cases yes
  · go_enter Tryz.func32, Tryz.ntmps32
    go_wp2
    refine wp_region_held_drew (S := fun w' => w'.cell? ⟨nb, 0, none⟩ = some (.int .i64 n) ∧ w'.cell? ⟨nb, 6, none⟩ = some (.map (some vt))) (by kernel_rfl) ⟨c0, c5⟩ (fun hHeld => ?_)
    refine takeD 0 8 (.pointer (some ⟨nb, 0, none⟩)) rfl rfl (by kernel_rfl) (by kernel_rfl) (by kernel_rfl) (fun _ _ _ h => h) (Or.inl ⟨by kernel_rfl, ?_⟩) (by assumption) ?_
    · intro w hSw; go_simp
    simp only [List.setIfInBounds_toArray, List.set_cons_zero, List.set_cons_succ]
    refine takeD 1 9 (.pointer (some ⟨nb, 0, none⟩)) rfl rfl (by kernel_rfl) (by kernel_rfl) (by kernel_rfl) (fun _ _ _ h => h) (Or.inl ⟨by kernel_rfl, ?_⟩) (by assumption) ?_
    · intro w hSw; go_simp
    simp only [List.setIfInBounds_toArray, List.set_cons_zero, List.set_cons_succ]
    refine takeD 2 10 (.pointer (some ⟨nb, 6, none⟩)) rfl rfl (by kernel_rfl) (by kernel_rfl) (by kernel_rfl) (fun _ _ _ h => h) (Or.inl ⟨by kernel_rfl, ?_⟩) (by assumption) ?_
    · intro w hSw; go_simp
    simp only [List.setIfInBounds_toArray, List.set_cons_zero, List.set_cons_succ]
    refine takeD 3 11 (.map (some vt)) rfl rfl (by kernel_rfl) (by kernel_rfl) (by kernel_rfl) (fun _ _ _ h => h) (Or.inl ⟨by kernel_rfl, ?_⟩) (by assumption) ?_
    · intro w hSw; go_simp
    simp only [List.setIfInBounds_toArray, List.set_cons_zero, List.set_cons_succ]
    refine takeD 4 12 (.pointer (some ⟨nb, 0, none⟩)) rfl rfl (by kernel_rfl) (by kernel_rfl) (by kernel_rfl) (fun _ _ _ h => h) (Or.inl ⟨by kernel_rfl, ?_⟩) (by assumption) ?_
    · intro w hSw; go_simp
    simp only [List.setIfInBounds_toArray, List.set_cons_zero, List.set_cons_succ]
    refine takeD 5 13 (.pointer (some ⟨nb, 0, none⟩)) rfl rfl (by kernel_rfl) (by kernel_rfl) (by kernel_rfl) (fun _ _ _ h => h) (Or.inl ⟨by kernel_rfl, ?_⟩) (by assumption) ?_
    · intro w hSw; go_simp
    simp only [List.setIfInBounds_toArray, List.set_cons_zero, List.set_cons_succ]
    refine takeD 6 14 (.pointer (some ⟨nb, 0, none⟩)) rfl rfl (by kernel_rfl) (by kernel_rfl) (by kernel_rfl) (fun _ _ _ h => h) (Or.inl ⟨by kernel_rfl, ?_⟩) (by assumption) ?_
    · intro w hSw; go_simp
    simp only [List.setIfInBounds_toArray, List.set_cons_zero, List.set_cons_succ]
    refine takeD 7 15 (.int .i64 t) rfl rfl (by kernel_rfl) (by kernel_rfl) (by kernel_rfl) (fun _ _ _ h => h) (Or.inl ⟨by kernel_rfl, ?_⟩) (by assumption) ?_
    · intro w hSw; go_simp
    simp only [List.setIfInBounds_toArray, List.set_cons_zero, List.set_cons_succ]
    refine takeD 9 17 (.int .i64 3) rfl rfl (by kernel_rfl) (by kernel_rfl) (by kernel_rfl) (fun _ _ _ h => h) (Or.inl ⟨by kernel_rfl, ?_⟩) (by assumption) ?_
    · intro w hSw; go_simp
    simp only [List.setIfInBounds_toArray, List.set_cons_zero, List.set_cons_succ]
    refine wpAnyH_ready (rs := [8]) (by kernel_rfl) (by simp) ?_
    refine (AllReadyH.cons rfl (fun K hK => ?_) AllReadyH.nil)
    go_simp
    refine (key_any nb n t _ (by simpa using c0)).mono ?_
    rintro e w3 ⟨rfl, hw3⟩
    have hO3 : Only [] w w3 := by rw [hw3]; exact (Only.refl _ _).drew.alloc _
    have s0 := hO3.cell c0 (by simp)
    have s5 := hO3.cell c5 (by simp)
    obtain ⟨o, hu, hMo⟩ := run_put (HP.out.votes.only hO3 (by simp)) Tryz.underlying127 n t (.int .i64 3)
    have hu0 : (Instr.mapUpdate 127 (.map (some vt)) (keyV n t) (.int .i64 3)).run Tryz.prog w3 = .ok () (setBlock w3 vt o) := hu 0
    rw [putL_int] at hMo
    have HMo : Hid _ := hMo
    clear hu hMo hw3
    go_wp2_with fail
    refine hK.out _ _ ⟨s0, s5⟩ (fun hHeld => ?_)
    clear hK K
    refine wpAnyH_ready (rs := [10]) (by kernel_rfl) (by simp) ?_
    refine (AllReadyH.cons rfl (fun K hK => ?_) AllReadyH.nil)
    go_simp
    have hOs : Only [vt] w3 (setBlock w3 vt o) := (Only.refl _ _).setBlock (.inl (by simp)) _
    refine hK.out _ _ ⟨hOs.cell s0 (by simpa using Ne.symm hvn), hOs.cell s5 (by simpa using Ne.symm hvn)⟩ (fun hHeld => ?_)
    clear hK K
    refine wpAnyH_done (by kernel_rfl) ?_ _
    go_wp2_with fail
    refine bodyPost_end (v := .tuple #[]) (by simp [results, Tryz.results32, go_sem]) rfl ⟨rfl, (hO3.mono (by simp)).trans hOs, ?_⟩
    have hp3 := HP.out.only hO3 (by simp) (by simp) (by simp)
    exact ⟨hp3.node.only hOs (by simpa using Ne.symm hvn), hp3.known.only hOs (by simpa using hkv), HMo.out, hkv⟩
  · go_enter Tryz.func32, Tryz.ntmps32
    go_wp2
    refine wp_region_held_drew (S := fun w' => w'.cell? ⟨nb, 0, none⟩ = some (.int .i64 n) ∧ w'.cell? ⟨nb, 6, none⟩ = some (.map (some vt))) (by kernel_rfl) ⟨c0, c5⟩ (fun hHeld => ?_)
    refine takeD 0 8 (.pointer (some ⟨nb, 0, none⟩)) rfl rfl (by kernel_rfl) (by kernel_rfl) (by kernel_rfl) (fun _ _ _ h => h) (Or.inl ⟨by kernel_rfl, ?_⟩) (by assumption) ?_
    · intro w hSw; go_simp
    simp only [List.setIfInBounds_toArray, List.set_cons_zero, List.set_cons_succ]
    refine takeD 1 9 (.pointer (some ⟨nb, 0, none⟩)) rfl rfl (by kernel_rfl) (by kernel_rfl) (by kernel_rfl) (fun _ _ _ h => h) (Or.inl ⟨by kernel_rfl, ?_⟩) (by assumption) ?_
    · intro w hSw; go_simp
    simp only [List.setIfInBounds_toArray, List.set_cons_zero, List.set_cons_succ]
    refine takeD 2 10 (.pointer (some ⟨nb, 6, none⟩)) rfl rfl (by kernel_rfl) (by kernel_rfl) (by kernel_rfl) (fun _ _ _ h => h) (Or.inl ⟨by kernel_rfl, ?_⟩) (by assumption) ?_
    · intro w hSw; go_simp
    simp only [List.setIfInBounds_toArray, List.set_cons_zero, List.set_cons_succ]
    refine takeD 3 11 (.map (some vt)) rfl rfl (by kernel_rfl) (by kernel_rfl) (by kernel_rfl) (fun _ _ _ h => h) (Or.inl ⟨by kernel_rfl, ?_⟩) (by assumption) ?_
    · intro w hSw; go_simp
    simp only [List.setIfInBounds_toArray, List.set_cons_zero, List.set_cons_succ]
    refine takeD 4 12 (.pointer (some ⟨nb, 0, none⟩)) rfl rfl (by kernel_rfl) (by kernel_rfl) (by kernel_rfl) (fun _ _ _ h => h) (Or.inl ⟨by kernel_rfl, ?_⟩) (by assumption) ?_
    · intro w hSw; go_simp
    simp only [List.setIfInBounds_toArray, List.set_cons_zero, List.set_cons_succ]
    refine takeD 5 13 (.pointer (some ⟨nb, 0, none⟩)) rfl rfl (by kernel_rfl) (by kernel_rfl) (by kernel_rfl) (fun _ _ _ h => h) (Or.inl ⟨by kernel_rfl, ?_⟩) (by assumption) ?_
    · intro w hSw; go_simp
    simp only [List.setIfInBounds_toArray, List.set_cons_zero, List.set_cons_succ]
    refine takeD 6 14 (.pointer (some ⟨nb, 0, none⟩)) rfl rfl (by kernel_rfl) (by kernel_rfl) (by kernel_rfl) (fun _ _ _ h => h) (Or.inl ⟨by kernel_rfl, ?_⟩) (by assumption) ?_
    · intro w hSw; go_simp
    simp only [List.setIfInBounds_toArray, List.set_cons_zero, List.set_cons_succ]
    refine takeD 7 15 (.int .i64 t) rfl rfl (by kernel_rfl) (by kernel_rfl) (by kernel_rfl) (fun _ _ _ h => h) (Or.inl ⟨by kernel_rfl, ?_⟩) (by assumption) ?_
    · intro w hSw; go_simp
    simp only [List.setIfInBounds_toArray, List.set_cons_zero, List.set_cons_succ]
    refine takeD 9 17 (.int .i64 2) rfl rfl (by kernel_rfl) (by kernel_rfl) (by kernel_rfl) (fun _ _ _ h => h) (Or.inl ⟨by kernel_rfl, ?_⟩) (by assumption) ?_
    · intro w hSw; go_simp
    simp only [List.setIfInBounds_toArray, List.set_cons_zero, List.set_cons_succ]
    refine wpAnyH_ready (rs := [8]) (by kernel_rfl) (by simp) ?_
    refine (AllReadyH.cons rfl (fun K hK => ?_) AllReadyH.nil)
    go_simp
    refine (key_any nb n t _ (by simpa using c0)).mono ?_
    rintro e w3 ⟨rfl, hw3⟩
    have hO3 : Only [] w w3 := by rw [hw3]; exact (Only.refl _ _).drew.alloc _
    have s0 := hO3.cell c0 (by simp)
    have s5 := hO3.cell c5 (by simp)
    obtain ⟨o, hu, hMo⟩ := run_put (HP.out.votes.only hO3 (by simp)) Tryz.underlying127 n t (.int .i64 2)
    have hu0 : (Instr.mapUpdate 127 (.map (some vt)) (keyV n t) (.int .i64 2)).run Tryz.prog w3 = .ok () (setBlock w3 vt o) := hu 0
    rw [putL_int] at hMo
    have HMo : Hid _ := hMo
    clear hu hMo hw3
    go_wp2_with fail
    refine hK.out _ _ ⟨s0, s5⟩ (fun hHeld => ?_)
    clear hK K
    refine wpAnyH_ready (rs := [10]) (by kernel_rfl) (by simp) ?_
    refine (AllReadyH.cons rfl (fun K hK => ?_) AllReadyH.nil)
    go_simp
    have hOs : Only [vt] w3 (setBlock w3 vt o) := (Only.refl _ _).setBlock (.inl (by simp)) _
    refine hK.out _ _ ⟨hOs.cell s0 (by simpa using Ne.symm hvn), hOs.cell s5 (by simpa using Ne.symm hvn)⟩ (fun hHeld => ?_)
    clear hK K
    refine wpAnyH_done (by kernel_rfl) ?_ _
    go_wp2_with fail
    refine bodyPost_end (v := .tuple #[]) (by simp [results, Tryz.results32, go_sem]) rfl ⟨rfl, (hO3.mono (by simp)).trans hOs, ?_⟩
    have hp3 := HP.out.only hO3 (by simp) (by simp) (by simp)
    exact ⟨hp3.node.only hOs (by simpa using Ne.symm hvn), hp3.known.only hOs (by simpa using hkv), HMo.out, hkv⟩

set_option maxRecDepth 100000 in
set_option maxHeartbeats 4000000 in
theorem partReceive_any (nb : Nat) (n : Int) (text : List UInt8) (s : Int) (kn : Nat) (L : List ((Int × Int) × Int)) (sort : Int) (vt : Nat) (V : List ((Int × Int) × Int)) (k f to t : Int) (w : World) (hP : PartAt w nb n text s kn L sort vt V) (hl : text.length ≤ 1000000) (ht1 : 1 ≤ t) (ht2 : t ≤ 16383) :
    Calls Tryz.prog 190 #[.pointer (some ⟨nb, 0, none⟩), .agg #[.int .i64 k, .int .i64 f, .int .i64 to, .int .i64 t]] w fun e w' => ∃ v, e = .returned v ∧ Only [nb, kn] w w' ∧ PartAt w' nb n ((PS.mk text s L).gets n sort V k t).text ((PS.mk text s L).gets n sort V k t).safe kn ((PS.mk text s L).gets n sort V k t).L sort vt V ∧ Sent2 w.heap.size w' v (((PS.mk text s L).gets n sort V k t).sends n sort k t) := by
  have hO0 : Only [] w (w.alloc (.cells #[.int .i64 k, .int .i64 f, .int .i64 to, .int .i64 t] 64)) := (Only.refl _ _).alloc _
  have HP : Hid (PartAt (w.alloc (.cells #[.int .i64 k, .int .i64 f, .int .i64 to, .int .i64 t] 64)) nb n text s kn L sort vt V) := hP.only hO0 (by simp) (by simp) (by simp)
  have HP0 : Hid (PartAt w nb n text s kn L sort vt V) := hP
  have HO0 : Hid (Only [] w (w.alloc (.cells #[.int .i64 k, .int .i64 f, .int .i64 to, .int .i64 t] 64))) := hO0
  clear hP hO0
  have fin : ∀ {w' : World} {v : Value} {ms : List (Int × Int × Int × Int)}, Sent2 (w.alloc (.cells #[.int .i64 k, .int .i64 f, .int .i64 to, .int .i64 t] 64)).heap.size w' v ms → Sent2 w.heap.size w' v ms := fun h => ownsRow_base h (by simp)
  have FIN : Hid _ := @fin
  clear fin
  by_cases h1 : k = 1
  · subst h1
    go_enter Tryz.func190, Tryz.ntmps190
    go_wp2_with fail
    refine (prepare_any nb n text s kn L sort vt V t _ HP.out hl ht1 ht2).mono ?_
    rintro e w2 ⟨v, rfl, ho, hp, hs⟩
    have R : Hid (Only [nb, kn] w w2 ∧ PartAt w2 nb n ((PS.mk text s L).prepare n t V).text ((PS.mk text s L).prepare n t V).safe kn ((PS.mk text s L).prepare n t V).L sort vt V ∧ Sent2 w.heap.size w2 v (((PS.mk text s L).prepare n t V).says n t)) := ⟨(HO0.out.mono (by simp)).trans ho, hp, FIN.out hs⟩
    clear ho hp hs
    go_wp2_with fail
    go_ret
    exact ⟨v, rfl, by simpa [PS.gets, PS.sends] using R.out⟩
  · have b1 : (k == 1) = false := by rw [beq_eq_false_iff_ne]; exact h1
    by_cases h4 : k = 4
    · subst h4
      go_enter Tryz.func190, Tryz.ntmps190
      go_wp2_with fail
      refine (settle_any nb n text s kn L sort vt V 4 t _ HP.out hl ht1 ht2).mono ?_
      rintro e w2 ⟨v, rfl, ho, hp, hs⟩
      have R : Hid (Only [nb, kn] w w2 ∧ PartAt w2 nb n ((PS.mk text s L).settle n t sort 4).text ((PS.mk text s L).settle n t sort 4).safe kn ((PS.mk text s L).settle n t sort 4).L sort vt V ∧ Sent2 w.heap.size w2 v (((PS.mk text s L).settle n t sort 4).acks n t sort 4)) := ⟨(HO0.out.mono (by simp)).trans ho, hp, FIN.out hs⟩
      clear ho hp hs
      go_wp2_with fail
      go_ret
      exact ⟨v, rfl, by simpa [PS.gets, PS.sends] using R.out⟩
    · have b4 : (k == 4) = false := by rw [beq_eq_false_iff_ne]; exact h4
      by_cases h5 : k = 5
      · subst h5
        go_enter Tryz.func190, Tryz.ntmps190
        go_wp2_with fail
        refine (settle_any nb n text s kn L sort vt V 5 t _ HP.out hl ht1 ht2).mono ?_
        rintro e w2 ⟨v, rfl, ho, hp, hs⟩
        have R : Hid (Only [nb, kn] w w2 ∧ PartAt w2 nb n ((PS.mk text s L).settle n t sort 5).text ((PS.mk text s L).settle n t sort 5).safe kn ((PS.mk text s L).settle n t sort 5).L sort vt V ∧ Sent2 w.heap.size w2 v (((PS.mk text s L).settle n t sort 5).acks n t sort 5)) := ⟨(HO0.out.mono (by simp)).trans ho, hp, FIN.out hs⟩
        clear ho hp hs
        go_wp2_with fail
        go_ret
        exact ⟨v, rfl, by simpa [PS.gets, PS.sends] using R.out⟩
      · have b5 : (k == 5) = false := by rw [beq_eq_false_iff_ne]; exact h5
        go_enter Tryz.func190, Tryz.ntmps190
        go_wp2_with fail
        go_ret
        refine ⟨_, rfl, HO0.out.mono (by simp), ?_, ?_⟩
        · simpa [PS.gets, h1, h4, h5] using HP.out
        · simpa [PS.sends, h1, h4, h5] using sent_none _ _
end Go.Proofs.YtfpojgljgbgkkaaGreatDoor
