import Derived.Test.YtfpojgljgbgkkaaGreatDoorPH
import Derived.Lib.SliceRun
/-
  The net's row of messages: slices.Delete of one.
-/
namespace Go.Proofs.YtfpojgljgbgkkaaGreatDoor
open Go.RowKit
open Go.ChangeMaps (setBlock)

attribute [local go_sem ↓] Go.wp_at_zero Go.wp_at_succ

theorem flatM_cons (p : Int × Int × Int × Int) (ms : List (Int × Int × Int × Int)) : flatM (p :: ms) = .int .i64 p.1 :: .int .i64 p.2.1 :: .int .i64 p.2.2.1 :: .int .i64 p.2.2.2 :: flatM ms := by simp [flatM]
theorem flatM_append (a b : List (Int × Int × Int × Int)) : flatM (a ++ b) = flatM a ++ flatM b := by simp [flatM]
theorem flatM_length : ∀ ms : List (Int × Int × Int × Int), (flatM ms).length = ms.length * 4
  | [] => rfl
  | p :: ms => by rw [flatM_cons]; simp only [List.length_cons, flatM_length ms]; omega
theorem flatM_take : ∀ (ms : List (Int × Int × Int × Int)) (i : Nat), (flatM ms).take (i * 4) = flatM (ms.take i)
  | ms, 0 => by simp [flatM]
  | [], i + 1 => by simp [flatM]
  | p :: ms, i + 1 => by
    rw [show (i + 1) * 4 = i * 4 + 4 from by omega, flatM_cons]
    simp only [List.take_succ_cons, flatM_take ms i, flatM_cons]
theorem flatM_drop : ∀ (ms : List (Int × Int × Int × Int)) (i : Nat), (flatM ms).drop (i * 4) = flatM (ms.drop i)
  | ms, 0 => by simp
  | [], i + 1 => by simp [flatM]
  | p :: ms, i + 1 => by
    rw [show (i + 1) * 4 = i * 4 + 4 from by omega, flatM_cons]
    simp only [List.drop_succ_cons, flatM_drop ms i]
theorem flatM_one (ms : List (Int × Int × Int × Int)) : ∀ u ∈ flatM ms, u.oneCell' = true := by
  intro u hu
  simp only [flatM, List.mem_flatMap] at hu
  obtain ⟨p, _, hp⟩ := hu
  simp only [List.mem_cons, List.not_mem_nil, or_false] at hp
  rcases hp with rfl | rfl | rfl | rfl <;> rfl
theorem Only.setRow {S : List Nat} {a b : World} (h : Only S a b) {g : Nat} (hg : g ∈ S ∨ a.heap.size ≤ g) (cs : Array Value) : Only S a (b.setRow g cs) := by
  refine ⟨h.os, h.tape, h.output, by simpa [World.setRow] using h.size, fun i hi hs => ?_⟩
  have hne : g ≠ i := by
    rintro rfl
    rcases hg with hg | hg
    · exact hs hg
    · omega
  rw [← h.block i hi hs]
  simp [World.setRow, Array.getElem?_modify, hne]
theorem heap_setRow {w : World} {g : Nat} {cur : Array Value} {e : TypeId} {fr : Nat × Nat} (h : w.heap[g]? = some (.cells cur e fr)) (cs : Array Value) : (w.setRow g cs).heap[g]? = some (.cells cs e fr) := by
  simp [World.setRow, Array.getElem?_modify, h]

/-- What is left when the i-th of a row is taken out, as cells. -/
def without (cur : List Value) (n i : Nat) : List Value := cur.take (i * 4) ++ (cur.drop ((i + 1) * 4)).take ((n - (i + 1)) * 4) ++ cur.drop ((n - 1) * 4)
theorem run_del_append (w : World) (g cap n i c : Nat) (cur : Array Value) (A : Addr) (ty : TypeId) (hg : w.heap[g]? = some (.cells cur 64 (0, 0))) (hin : i < n) (hnc : n ≤ cap) (hcs : cur.size = cap * 4) (hA : A = ⟨g, (i + 1) * 4, none⟩ ∨ n = i + 1) (h1 : ∀ u ∈ cur.toList.take (n * 4), u.oneCell' = true) :
    (Builtin.append_ #[85, 85] ty #[.slice (some ⟨g, 0, none⟩) i cap, .slice (some A) (n - (i + 1)) c]).run Tryz.prog w = .ok (.slice (some ⟨g, 0, none⟩) (n - 1) cap) (w.setRow g (without cur.toList n i).toArray) := by
  obtain ⟨i0, hi, hz0, hz1, hz2⟩ := info_parts infoMsg
  have hlen : ((cur.toList.drop ((i + 1) * 4)).take ((n - (i + 1)) * 4)).length = (n - (i + 1)) * i0.size := by
    rw [hz1]; simp only [List.length_take, List.length_drop, Array.length_toList]; omega
  have hnews : ∀ j u, ((cur.toList.drop ((i + 1) * 4)).take ((n - (i + 1)) * 4))[j]? = some u → w.cell? (A.add j) = some u := by
    intro j u hj
    have hj1 : j < (n - (i + 1)) * 4 := by
      have := (List.getElem?_eq_some_iff.1 hj).1
      rw [hlen, hz1] at this; exact this
    rcases hA with rfl | hn
    · rw [List.getElem?_take_of_lt hj1, List.getElem?_drop] at hj
      rw [show (⟨g, (i + 1) * 4, none⟩ : Addr).add j = ⟨g, (i + 1) * 4 + j, none⟩ from by unfold Addr.add; split <;> simp_all, cell_of_row _ _ _ _ _ _ hg]
      simpa using hj
    · omega
  have h1' : ∀ u ∈ (cur.toList.drop ((i + 1) * 4)).take ((n - (i + 1)) * 4), u.oneCell' = true := by
    intro u hu
    obtain ⟨j, hj⟩ := List.getElem?_of_mem hu
    have hj1 : j < (n - (i + 1)) * 4 := by
      have := (List.getElem?_eq_some_iff.1 hj).1
      rw [hlen, hz1] at this; exact this
    rw [List.getElem?_take_of_lt hj1, List.getElem?_drop] at hj
    have hj2 : (cur.toList.take (n * 4))[(i + 1) * 4 + j]? = some u := by rw [List.getElem?_take_of_lt (by omega)]; exact hj
    exact h1 u (List.mem_of_getElem? hj2)
  have := run_append_room (P := Tryz.prog) w 85 ty 64 i0 Tryz.underlying85 hi g i cap cur hg A (n - (i + 1)) c _ hlen hnews h1' (by omega) (by rw [hlen, hz1, hcs]; omega)
  rw [this, hlen, hz1, show i + (n - (i + 1)) = n - 1 from by omega, show i * 4 + (n - (i + 1)) * 4 = (n - 1) * 4 from by omega]
  rfl
theorem run_clear_one (w : World) (g o c : Nat) (cur : Array Value) (ty : TypeId) (hg : w.heap[g]? = some (.cells cur 64 (0, 0))) (ho : o + 4 ≤ cur.size) :
    (Builtin.clear_ #[85] ty #[.slice (some ⟨g, o, none⟩) 1 c]).run Tryz.prog w = .ok (.tuple #[]) (w.setRow g (cur.toList.take o ++ [Value.int .i64 0, Value.int .i64 0, Value.int .i64 0, Value.int .i64 0] ++ cur.toList.drop (o + 4)).toArray) := by
  have hv : (zeroValue 64).run Tryz.prog w = .ok (.agg #[.int .i64 0, .int .i64 0, .int .i64 0, .int .i64 0]) w := by kernel_rfl
  have hzc : (Builtin.zeroCells (Value.agg #[.int .i64 0, .int .i64 0, .int .i64 0, .int .i64 0]).cells 1).toList = [.int .i64 0, .int .i64 0, .int .i64 0, .int .i64 0] := by kernel_rfl
  have hst := run_storeCells_at Tryz.prog g o 64 [.int .i64 0, .int .i64 0, .int .i64 0, .int .i64 0] 0 cur w hg (by simpa using ho) (fun x hx => by simp at hx; subst hx; rfl)
  simp only [Nat.add_zero] at hst
  simp [Builtin.clear_, run_underlying Tryz.underlying85, hv, hzc, hst]

theorem without_take (cur : List Value) (n i : Nat) (hin : i < n) (ms : List (Int × Int × Int × Int)) (hm : cur.take (n * 4) = flatM ms) (hn : ms.length = n) :
    (without cur n i).take ((n - 1) * 4) = flatM (ms.eraseIdx i) := by
  have e1 : cur.take (i * 4) = flatM (ms.take i) := by
    rw [← flatM_take, ← hm, List.take_take, Nat.min_eq_left (by omega)]
  have e2 : (cur.drop ((i + 1) * 4)).take ((n - (i + 1)) * 4) = flatM (ms.drop (i + 1)) := by
    rw [← flatM_drop, ← hm, List.drop_take, ← Nat.sub_mul]
  rw [without, e1, e2, ← flatM_append, ← List.eraseIdx_eq_take_drop_succ]
  have hl : (flatM (ms.eraseIdx i)).length = (n - 1) * 4 := by
    rw [flatM_length, List.length_eraseIdx_of_lt (by omega), hn]
  rw [← hl, List.take_left]
theorem without_len (cur : List Value) (n i : Nat) (hin : i < n) (hc : n * 4 ≤ cur.length) : (without cur n i).length = cur.length := by
  simp only [without, List.length_append, List.length_take, List.length_drop]
  omega

theorem step_append_run {P : Program} {ops : Array Oper} {o : Oper} {a : Act} {K : Act → World → Prop} {Q : Exit → Act → World → Prop} {E : Prop} {w w' : World} {v xv v' : Value} (hgd : o.guard = none) (s x : Operand) (t : TypeId)
    (ho : o.op = .call { callee := .builtin .append, args := #[s, x], argTypes := #[t, t] }) (hs : a.eval s = v) (hx : a.eval x = xv)
    (hr : (Builtin.append_ #[t, t] o.type #[v, xv]).run P w = .ok v' w') (h : K (a.put o.dst v') w') : if Region.wanted o (yielded ops a.tmps) = true then Oper.wp P o a w K Q else E := by
  rw [if_pos (by simp [Region.wanted, hgd])]
  unfold Oper.wp execOp
  simp only [ho, resolve, invoke, builtin, Sem.run_bind, Sem.run_pure, Result.andThen_ok, List.map_toArray, List.map_cons, List.map_nil, hs, hx, hr]
  exact h

set_option maxRecDepth 100000 in
set_option maxHeartbeats 4000000 in
theorem deleteOne_any (B g cap : Nat) (ms : List (Int × Int × Int × Int)) (i : Nat) (w : World) (hown : w.ownsRow B 64 4 (.slice (some ⟨g, 0, none⟩) ms.length cap) ms.length (flatM ms)) (hin : i < ms.length) (hN : ms.length ≤ 1000) :
    Calls Tryz.prog 96 #[.slice (some ⟨g, 0, none⟩) ms.length cap, .int .i64 i, .int .i64 ((i : Int) + 1)] w fun e w' => e = .returned (.slice (some ⟨g, 0, none⟩) (ms.length - 1) cap) ∧ Only [g] w w' ∧ w'.ownsRow B 64 4 (.slice (some ⟨g, 0, none⟩) (ms.length - 1) cap) (ms.length - 1) (flatM (ms.eraseIdx i)) := by
  obtain ⟨cur, hB, hg, hnc, hcm, hcs, htk⟩ : ∃ cur : Array Value, B ≤ g ∧ w.heap[g]? = some (.cells cur 64 (0, 0)) ∧ ms.length ≤ cap ∧ cap ≤ maxLen ∧ cur.size = cap * 4 ∧ cur.toList.take (ms.length * 4) = flatM ms := by
    rcases hown.2 with ⟨e, _⟩ | ⟨g', cap', cur, e, h1, h2, h3, h4, h5, h6⟩
    · cases e
    · injection e with e1 _ e3
      injection e1 with e1
      injection e1 with e1
      subst e1 e3
      exact ⟨cur, h1, h2, h3, h4, h5, h6⟩
  clear hown
  have h1 : ∀ u ∈ cur.toList.take (ms.length * 4), u.oneCell' = true := by rw [htk]; exact flatM_one ms
  have hw1 : ms.length * 4 ≤ cur.toList.length := by have : cur.toList.length = cap * 4 := hcs; omega
  have HT : Hid ((without cur.toList ms.length i).take ((ms.length - 1) * 4) = flatM (ms.eraseIdx i)) := without_take cur.toList ms.length i hin ms htk rfl
  have HLn : Hid ((without cur.toList ms.length i).length = cap * 4) := by show _ = _; rw [without_len _ _ _ hin hw1]; exact hcs
  have hcap : cap ≤ 9223372036854775807 := by unfold maxLen at hcm; omega
  have HE : Hid (flatM (ms.eraseIdx i) = flatM (ms.eraseIdx i)) := rfl
  generalize flatM (ms.eraseIdx i) = E at *
  clear htk
  generalize ms.length = n at *
  obtain ⟨m, rfl⟩ : ∃ m, n = m + 1 := ⟨n - 1, by omega⟩
  simp only [Nat.add_sub_cancel] at HT ⊢
  have hi0 : (0 : Int) ≤ (i : Int) := by omega
  have hi1 : (i : Int) ≤ (m : Int) := by omega
  have hi2 : (m : Int) + 1 ≤ (cap : Int) := by omega
  have hi3 : ¬ cap = m := by omega
  have hi4 : (i : Int) ≤ (cap : Int) := by omega
  have hi5 : (0 : Int) ≤ (m : Int) := by omega
  obtain ⟨A, hA, hAv⟩ : ∃ A : Addr, (A = ⟨g, (i + 1) * 4, none⟩ ∨ m + 1 = i + 1) ∧ (if cap = i + 1 then some (⟨g, 0, none⟩ : Addr) else some ⟨g, (i + 1) * 4, none⟩) = some A := by
    by_cases hc : cap = i + 1
    · exact ⟨⟨g, 0, none⟩, .inr (by omega), if_pos hc⟩
    · exact ⟨_, .inl rfl, if_neg hc⟩
  have HAV : Hid ((if cap = i + 1 then some (⟨g, 0, none⟩ : Addr) else some ⟨g, (i + 1) * 4, none⟩) = some A) := hAv
  have hap : ∀ ty, (Builtin.append_ #[85, 85] ty #[.slice (some ⟨g, 0, none⟩) i cap, .slice (some A) (m - i) (cap - (i + 1))]).run Tryz.prog w.drew = .ok (.slice (some ⟨g, 0, none⟩) m cap) (w.drew.setRow g (without cur.toList (m + 1) i).toArray) := fun ty => by
    have := run_del_append w.drew g cap (m + 1) i (cap - (i + 1)) cur A ty hg hin hnc hcs hA h1
    rw [show m + 1 - (i + 1) = m - i from by omega] at this
    exact this
  have hg2 : (w.drew.setRow g (without cur.toList (m + 1) i).toArray).heap[g]? = some (.cells (without cur.toList (m + 1) i).toArray 64 (0, 0)) := heap_setRow (w := w.drew) hg _
  have HO2 : Hid (Only [g] w (w.drew.setRow g (without cur.toList (m + 1) i).toArray)) := (Only.refl _ _).drew.setRow (.inl (by simp)) _
  have hcl : ∀ ty, (Builtin.clear_ #[85] ty #[.slice (some ⟨g, m * 4, none⟩) 1 (cap - m)]).run Tryz.prog (w.drew.setRow g (without cur.toList (m + 1) i).toArray) = .ok (.tuple #[]) ((w.drew.setRow g (without cur.toList (m + 1) i).toArray).setRow g ((without cur.toList (m + 1) i).take (m * 4) ++ [Value.int .i64 0, Value.int .i64 0, Value.int .i64 0, Value.int .i64 0] ++ (without cur.toList (m + 1) i).drop (m * 4 + 4)).toArray) := fun ty => by
    have := run_clear_one _ g (m * 4) (cap - m) _ ty hg2 (by have := HLn.out; simp only [List.size_toArray]; omega)
    simpa using this
  have HO3 : Hid (Only [g] w ((w.drew.setRow g (without cur.toList (m + 1) i).toArray).setRow g ((without cur.toList (m + 1) i).take (m * 4) ++ [Value.int .i64 0, Value.int .i64 0, Value.int .i64 0, Value.int .i64 0] ++ (without cur.toList (m + 1) i).drop (m * 4 + 4)).toArray)) := HO2.out.setRow (.inl (by simp)) _
  have hg3 := heap_setRow hg2 ((without cur.toList (m + 1) i).take (m * 4) ++ [Value.int .i64 0, Value.int .i64 0, Value.int .i64 0, Value.int .i64 0] ++ (without cur.toList (m + 1) i).drop (m * 4 + 4)).toArray
  have HG3 : Hid _ := hg3
  clear hg2 hg3 hAv h1 hg hw1 hcs hA HO2
  generalize (w.drew.setRow g (without cur.toList (m + 1) i).toArray) = w2 at *
  generalize (w2.setRow g ((without cur.toList (m + 1) i).take (m * 4) ++ [Value.int .i64 0, Value.int .i64 0, Value.int .i64 0, Value.int .i64 0] ++ (without cur.toList (m + 1) i).drop (m * 4 + 4)).toArray) = w3 at *
  go_enter Tryz.func96, Tryz.ntmps96
  go_wp2_with fail
  refine wp_region_held_drew (S := fun _ => True) (by kernel_rfl) trivial (fun hHeld => ?_)
  refine takeD 0 20 (.slice (some ⟨g, 0, none⟩) (m + 1) cap) rfl rfl (by kernel_rfl) (by kernel_rfl) (by kernel_rfl) (fun _ _ _ h => h) (Or.inl ⟨by kernel_rfl, ?_⟩) (by assumption) ?_
  · intro w hSw; go_simp
  simp only [List.setIfInBounds_toArray, List.set_cons_zero, List.set_cons_succ]
  refine takeD 1 21 (.int .i64 i) rfl rfl (by kernel_rfl) (by kernel_rfl) (by kernel_rfl) (fun _ _ _ h => h) (Or.inl ⟨by kernel_rfl, ?_⟩) (by assumption) ?_
  · intro w hSw; go_simp
  simp only [List.setIfInBounds_toArray, List.set_cons_zero, List.set_cons_succ]
  refine takeD 2 22 (.slice (some ⟨g, 0, none⟩) i cap) rfl rfl (by kernel_rfl) (by kernel_rfl) (by kernel_rfl) (fun _ _ _ h => h) (Or.inl ⟨by kernel_rfl, ?_⟩) (by assumption) ?_
  · intro w hSw; go_simp; skip
  simp only [List.setIfInBounds_toArray, List.set_cons_zero, List.set_cons_succ]
  refine takeD 3 23 (.slice (some ⟨g, 0, none⟩) (m + 1) cap) rfl rfl (by kernel_rfl) (by kernel_rfl) (by kernel_rfl) (fun _ _ _ h => h) (Or.inl ⟨by kernel_rfl, ?_⟩) (by assumption) ?_
  · intro w hSw; go_simp
  simp only [List.setIfInBounds_toArray, List.set_cons_zero, List.set_cons_succ]
  refine takeD 4 24 (.int .i64 ((i : Int) + 1)) rfl rfl (by kernel_rfl) (by kernel_rfl) (by kernel_rfl) (fun _ _ _ h => h) (Or.inl ⟨by kernel_rfl, ?_⟩) (by assumption) ?_
  · intro w hSw; go_simp
  simp only [List.setIfInBounds_toArray, List.set_cons_zero, List.set_cons_succ]
  refine takeD 5 25 (.slice (some A) (m - i) (cap - (i + 1))) rfl rfl (by kernel_rfl) (by kernel_rfl) (by kernel_rfl) (fun _ _ _ h => h) (Or.inl ⟨by kernel_rfl, ?_⟩) (by assumption) ?_
  · intro w hSw; go_simp; rw [if_pos (by omega), HAV.out]
  simp only [List.setIfInBounds_toArray, List.set_cons_zero, List.set_cons_succ]
  refine wpAnyH_ready (rs := [6]) (by kernel_rfl) (by simp) ?_
  refine (AllReadyH.cons rfl (fun K hK => ?_) AllReadyH.nil)
  refine step_append_run rfl (.tmp 22) (.tmp 25) 85 rfl rfl rfl (hap _) ?_
  go_simp
  refine hK.out _ _ trivial (fun hHeld => ?_)
  clear hK K
  refine takeD 7 0 (.slice (some ⟨g, 0, none⟩) m cap) rfl rfl (by kernel_rfl) (by kernel_rfl) (by kernel_rfl) (fun _ _ _ h => h) (Or.inl ⟨by kernel_rfl, ?_⟩) (by assumption) ?_
  · intro w hSw; go_simp
  simp only [List.setIfInBounds_toArray, List.set_cons_zero]
  refine wpAnyH_done (by kernel_rfl) ?_ _
  clear hap
  go_wp2_with fail
  go_ret
  refine ⟨rfl, HO3.out, ?_, .inr ⟨g, cap, _, rfl, hB, HG3.out, by omega, hcm, ?_, ?_⟩⟩
  · have := congrArg List.length HT.out
    rw [List.length_take, HLn.out] at this
    rw [← this]; omega
  · have := HLn.out
    simp only [List.size_toArray, List.length_append, List.length_take, List.length_drop, List.length_cons, List.length_nil]
    omega
  · have h2 : ((without cur.toList (m + 1) i).take (m * 4)).length = m * 4 := by rw [List.length_take, HLn.out]; omega
    rw [← HT.out, List.append_assoc]
    exact List.take_left' h2
end Go.Proofs.YtfpojgljgbgkkaaGreatDoor

/-
  The net: Has, All, Take.
-/
namespace Go.Proofs.YtfpojgljgbgkkaaGreatDoor
open Go.RowKit
open Go.ChangeMaps (setBlock)

attribute [local go_sem ↓] Go.wp_at_zero Go.wp_at_succ

/-- The net's messages, at a cell. -/
def NetAt (w : World) (a : Addr) (v : Value) (ms : List (Int × Int × Int × Int)) : Prop := w.cell? a = some v ∧ w.ownsRow 0 64 4 v ms.length (flatM ms)
theorem NetAt.form {w : World} {a : Addr} {v : Value} {ms : List (Int × Int × Int × Int)} (h : NetAt w a v ms) : ∃ q cap, v = .slice q ms.length cap := by
  rcases h.2.2 with ⟨rfl, h0⟩ | ⟨g, cap, cur, rfl, _⟩
  · rw [h0]; exact ⟨_, _, rfl⟩
  · exact ⟨_, _, rfl⟩

set_option maxRecDepth 100000 in
set_option maxHeartbeats 1000000 in
theorem netHas_any (cb o : Nat) (v : Value) (ms : List (Int × Int × Int × Int)) (i : Int) (w : World) (h : NetAt w ⟨cb, o, none⟩ v ms) :
    Calls Tryz.prog 49 #[.pointer (some ⟨cb, o, none⟩), .int .i64 i] w fun e w' => e = .returned (.bool (decide (0 ≤ i) && decide (i < (ms.length : Int)))) ∧ w = w' := by
  obtain ⟨q, cap, rfl⟩ := h.form
  have hc := h.1
  clear h
  by_cases h0 : 0 ≤ i
  · have hd : decide (i ≥ 0) = true := by simpa using h0
    go_enter Tryz.func49, Tryz.ntmps49
    go_wp2_with fail
    go_ret
    simp [h0]
  · have hd : decide (i ≥ 0) = false := by simpa using h0
    go_enter Tryz.func49, Tryz.ntmps49
    go_wp2_with fail
    go_ret
    simp

set_option maxRecDepth 100000 in
set_option maxHeartbeats 4000000 in
theorem cloneM_any (B : Nat) (v : Value) (ms : List (Int × Int × Int × Int)) (w : World) (h : w.ownsRow B 64 4 v ms.length (flatM ms)) (hN : ms.length ≤ 1000) :
    Calls Tryz.prog 97 #[v] w fun e w' => ∃ v', e = .returned v' ∧ Only [] w w' ∧ Sent2 w.heap.size w' v' ms := by
  obtain ⟨i0, hi, hz0, hz1, hz2⟩ := info_parts infoMsg
  rcases h.2 with ⟨rfl, h0⟩ | ⟨g, cap, cur, rfl, hB, hg, hnc, hcm, hcs, htk⟩
  · obtain rfl : ms = [] := List.length_eq_zero_iff.1 h0
    have hnil : ∀ w, (binOp .eql 85 (.slice none 0 0) (.slice none 0 0)).run Tryz.prog w = .ok (.bool true) w := fun w => Lib.run_eql_slice_nil w _ _ none 0 0 0 0 Tryz.underlying85
    go_enter Tryz.func97, Tryz.ntmps97
    go_wp2_with fail
    go_ret
    exact ⟨_, rfl, Only.refl _ _, sent_none _ _⟩
  · have hcells : ∀ j u, (flatM ms)[j]? = some u → (w.alloc (.cells #[] 64)).cell? ((⟨g, 0, none⟩ : Addr).add j) = some u := by
      intro j u hj
      exact Only.cell ((Only.refl [] w).alloc _) (h.cells (g := g) rfl j u hj) (by simp)
    have HCells : Hid _ := hcells
    have hnil : ∀ w, (binOp .eql 85 (.slice (some ⟨g, 0, none⟩) ms.length cap) (.slice none 0 0)).run Tryz.prog w = .ok (.bool false) w := fun w => Lib.run_eql_slice_nil w _ _ (some ⟨g, 0, none⟩) _ _ 0 0 Tryz.underlying85
    have hown0 : (w.alloc (.cells #[] 64)).ownsRow w.heap.size 64 4 (.slice (some ⟨w.heap.size, 0, none⟩) 0 0) 0 [] :=
      ⟨rfl, .inr ⟨w.heap.size, 0, #[], rfl, Nat.le_refl _, heap_alloc_new w _, Nat.le_refl _, by decide, rfl, rfl⟩⟩
    have HOwn : Hid _ := hown0
    have hl4 := flatM_length ms
    have HL4 : Hid _ := hl4
    clear hcells hown0 h htk hg hcs hl4
    go_enter Tryz.func97, Tryz.ntmps97
    go_wp2_with (
      at_builtin
      refine wpList_append_own _ rfl _ _ 85 rfl w.heap.size 64 i0 (.agg #[.int .i64 0, .int .i64 0, .int .i64 0, .int .i64 0]) 4 32 Tryz.underlying85 hi hz0 hz1 hz2 rfl (by decide) _ 0 [] rfl HOwn.out ⟨g, 0, none⟩ ms.length cap (flatM ms) rfl HL4.out HCells.out (flatM_one ms) (by unfold maxLen; omega) (by omega) (by simp) ?_
      intro v' w3 hown3 hgrow3 hnil3
      clear hnil3)
    go_ret
    refine ⟨_, rfl, ((Only.refl [] w).alloc _).grown hgrow3 (fun k hk => .inr (Nat.le_of_eq (Option.some.inj hk))), ?_⟩
    simpa [Sent2] using hown3

set_option maxRecDepth 100000 in
set_option maxHeartbeats 1000000 in
theorem netAll_any (cb o : Nat) (v : Value) (ms : List (Int × Int × Int × Int)) (w : World) (h : NetAt w ⟨cb, o, none⟩ v ms) (hN : ms.length ≤ 1000) :
    Calls Tryz.prog 51 #[.pointer (some ⟨cb, o, none⟩)] w fun e w' => ∃ v', e = .returned v' ∧ Only [] w w' ∧ Sent2 w.heap.size w' v' ms := by
  have hc := h.1
  have HN : Hid _ := h.2
  clear h
  go_enter Tryz.func51, Tryz.ntmps51
  go_wp2_with fail
  refine (cloneM_any 0 v ms w HN.out hN).mono ?_
  rintro e w2 ⟨v', rfl, hO, hs⟩
  have R : Hid _ := And.intro hO hs
  clear hO hs
  go_wp2_with fail
  go_ret
  exact ⟨v', rfl, R.out⟩
end Go.Proofs.YtfpojgljgbgkkaaGreatDoor

/-
  The net: Take.
-/
namespace Go.Proofs.YtfpojgljgbgkkaaGreatDoor
open Go.RowKit
open Go.ChangeMaps (setBlock)

attribute [local go_sem ↓] Go.wp_at_zero Go.wp_at_succ

def msg4 (p : Int × Int × Int × Int) : Value := .agg #[.int .i64 p.1, .int .i64 p.2.1, .int .i64 p.2.2.1, .int .i64 p.2.2.2]
theorem flatM_get (ms : List (Int × Int × Int × Int)) (i : Nat) (p : Int × Int × Int × Int) (hp : ms[i]? = some p) :
    (flatM ms)[i * 4]? = some (.int .i64 p.1) ∧ (flatM ms)[i * 4 + 1]? = some (.int .i64 p.2.1) ∧ (flatM ms)[i * 4 + 2]? = some (.int .i64 p.2.2.1) ∧ (flatM ms)[i * 4 + 3]? = some (.int .i64 p.2.2.2) := by
  have hd : (flatM ms).drop (i * 4) = .int .i64 p.1 :: .int .i64 p.2.1 :: .int .i64 p.2.2.1 :: .int .i64 p.2.2.2 :: flatM (ms.drop (i + 1)) := by
    rw [flatM_drop, List.drop_eq_getElem?_toList_append, hp]
    simp [flatM]
  have h : ∀ j, (flatM ms)[i * 4 + j]? = ((flatM ms).drop (i * 4))[j]? := fun j => by rw [List.getElem?_drop]
  refine ⟨?_, ?_, ?_, ?_⟩
  · have := h 0; rw [hd] at this; simpa using this
  · rw [h 1, hd]; rfl
  · rw [h 2, hd]; rfl
  · rw [h 3, hd]; rfl

theorem add0 (g j : Nat) : (⟨g, 0, none⟩ : Addr).add j = ⟨g, j, none⟩ := by unfold Addr.add; split <;> simp_all
theorem cell_lt {w : World} {a : Addr} {v : Value} (h : w.cell? a = some v) : a.block < w.heap.size := by
  rcases Nat.lt_or_ge a.block w.heap.size with h' | h'
  · exact h'
  · simp [World.cell?, Array.getElem?_eq_none h'] at h

theorem Only.trans2 {S S' : List Nat} {a b c : World} (h : Only S a b) (k : Only S' b c) (hs : ∀ x ∈ S', x ∈ S ∨ a.heap.size ≤ x) : Only S a c := by
  refine ⟨k.os.trans h.os, k.tape.trans h.tape, k.output.trans h.output, Nat.le_trans h.size k.size, fun i hi hS => ?_⟩
  rw [k.block i (Nat.lt_of_lt_of_le hi h.size) (fun hm => (hs i hm).elim hS (fun h' => by omega)), h.block i hi hS]
theorem ownsRow_at {S : List Nat} {w w' : World} {base : Nat} {e : TypeId} {size n g cap : Nat} {xs : List Value} (ho : Only S w w') (h : w.ownsRow base e size (.slice (some ⟨g, 0, none⟩) n cap) n xs) (hg : g ∉ S) : w'.ownsRow base e size (.slice (some ⟨g, 0, none⟩) n cap) n xs := by
  refine ⟨h.1, ?_⟩
  rcases h.2 with h2 | ⟨g', cap', cur, e, hb, hh, r⟩
  · exact .inl h2
  · injection e with e1 _ e3
    injection e1 with e1
    injection e1 with e1
    subst e1 e3
    exact .inr ⟨g, cap, cur, rfl, hb, ho.at hh hg, r⟩
theorem Only.frozen {S : List Nat} {a b : World} (h : Only S a b) {p : Addr} (hlt : p.block < a.heap.size) (hp : p.block ∉ S) : b.frozen? p = a.frozen? p := by
  simp only [World.frozen?, h.block p.block hlt hp]

set_option maxRecDepth 100000 in
set_option maxHeartbeats 4000000 in
theorem netTake_any (cb o : Nat) (cs : Array Value) (T : TypeId) (v : Value) (ms : List (Int × Int × Int × Int)) (i : Nat) (p : Int × Int × Int × Int) (w : World) (hrow : w.heap[cb]? = some (.cells cs T (0, 0))) (hv : cs[o]? = some v) (hown : w.ownsRow 0 64 4 v ms.length (flatM ms)) (hp : ms[i]? = some p) (hN : ms.length ≤ 1000) (hcb : v.ownBlock ≠ some cb) :
    Calls Tryz.prog 50 #[.pointer (some ⟨cb, o, none⟩), .int .i64 i] w fun e w' => ∃ v', e = .returned (msg4 p) ∧ w'.heap[cb]? = some (.cells (cs.setIfInBounds o v') T (0, 0)) ∧ w'.ownsRow 0 64 4 v' (ms.eraseIdx i).length (flatM (ms.eraseIdx i)) ∧ v'.ownBlock = v.ownBlock ∧ Only (cb :: v.ownBlock.toList) w w' := by
  have hi : i < ms.length := (List.getElem?_eq_some_iff.1 hp).1
  have hc : w.cell? ⟨cb, o, none⟩ = some v := by rw [cell_of_row _ _ _ _ _ _ hrow]; exact hv
  have hcf : w.frozen? ⟨cb, o, none⟩ = false := frozen_of_row _ _ _ _ _ hrow
  rcases hown.2 with ⟨rfl, h0⟩ | ⟨g, cap, cur, rfl, hB, hg, hnc, hcm, hcs, htk⟩
  · omega
  · obtain ⟨g0, g1, g2, g3⟩ := flatM_get ms i p hp
    have k0 : w.cell? ⟨g, i * 4, none⟩ = some (.int .i64 p.1) := by have := hown.cells (g := g) rfl _ _ g0; rwa [add0] at this
    have k1 : w.cell? ⟨g, i * 4 + 1, none⟩ = some (.int .i64 p.2.1) := by have := hown.cells (g := g) rfl _ _ g1; rwa [add0] at this
    have k2 : w.cell? ⟨g, i * 4 + 2, none⟩ = some (.int .i64 p.2.2.1) := by have := hown.cells (g := g) rfl _ _ g2; rwa [add0] at this
    have k3 : w.cell? ⟨g, i * 4 + 3, none⟩ = some (.int .i64 p.2.2.2) := by have := hown.cells (g := g) rfl _ _ g3; rwa [add0] at this
    have hgl := block_lt hg
    have hcl : cb < w.heap.size := cell_lt hc
    have hne : cb ≠ g := fun e => hcb (by rw [e]; rfl)
    have HOWN : Hid (w.ownsRow 0 64 4 (.slice (some ⟨g, 0, none⟩) ms.length cap) ms.length (flatM ms)) := hown
    have HROW : Hid (w.heap[cb]? = some (.cells cs T (0, 0))) := hrow
    have hi0 : (0 : Int) ≤ (i : Int) := by omega
    have hi1 : (i : Int) < (ms.length : Int) := by omega
    have HL : Hid ((ms.eraseIdx i).length = ms.length - 1) := List.length_eraseIdx_of_lt hi
    clear hown htk g0 g1 g2 g3 hcs hrow hv hg hcb hB
    obtain ⟨a, b, c, d⟩ := p
    clear hp
    go_enter Tryz.func50, Tryz.ntmps50
    go_wp2_with fail
    have hO1 : Only [] w ((w.alloc (.cells #[.int .i64 0, .int .i64 0, .int .i64 0, .int .i64 0] 64)).alloc (.cells #[.int .i64 a, .int .i64 b, .int .i64 c, .int .i64 d] 64)) := ((Only.refl [] w).alloc _).alloc _
    have bR : ((w.alloc (.cells #[.int .i64 0, .int .i64 0, .int .i64 0, .int .i64 0] 64)).alloc (.cells #[.int .i64 a, .int .i64 b, .int .i64 c, .int .i64 d] 64)).heap[w.heap.size]? = some (.cells #[.int .i64 0, .int .i64 0, .int .i64 0, .int .i64 0] 64 (0, 0)) := by
      rw [Below.heap_alloc _ _ _ (by simp)]; exact heap_alloc_new w _
    have bM : ((w.alloc (.cells #[.int .i64 0, .int .i64 0, .int .i64 0, .int .i64 0] 64)).alloc (.cells #[.int .i64 a, .int .i64 b, .int .i64 c, .int .i64 d] 64)).heap[w.heap.size + 1]? = some (.cells #[.int .i64 a, .int .i64 b, .int .i64 c, .int .i64 d] 64 (0, 0)) := by
      have := heap_alloc_new (w.alloc (.cells #[.int .i64 0, .int .i64 0, .int .i64 0, .int .i64 0] 64)) (.cells #[.int .i64 a, .int .i64 b, .int .i64 c, .int .i64 d] 64)
      simpa using this
    generalize ((w.alloc (.cells #[.int .i64 0, .int .i64 0, .int .i64 0, .int .i64 0] 64)).alloc (.cells #[.int .i64 a, .int .i64 b, .int .i64 c, .int .i64 d] 64)) = w1 at *
    refine (deleteOne_any 0 g cap ms i w1 (ownsRow_only HOWN.out hO1 (by simp)) hi hN).mono ?_
    rintro e w3 ⟨rfl, hO3, hown3⟩
    have cR := hO3.at bR (by simp; omega)
    have cM := hO3.at bM (by simp; omega)
    have cB := hO3.at (hO1.at HROW.out (by simp)) (by simpa using hne)
    have r0 : w3.cell? ⟨w.heap.size, 0, none⟩ = some (.int .i64 0) := by rw [cell_of_row _ _ _ _ _ _ cR]; rfl
    have r1 : w3.cell? ⟨w.heap.size, 1, none⟩ = some (.int .i64 0) := by rw [cell_of_row _ _ _ _ _ _ cR]; rfl
    have r2 : w3.cell? ⟨w.heap.size, 2, none⟩ = some (.int .i64 0) := by rw [cell_of_row _ _ _ _ _ _ cR]; rfl
    have r3 : w3.cell? ⟨w.heap.size, 3, none⟩ = some (.int .i64 0) := by rw [cell_of_row _ _ _ _ _ _ cR]; rfl
    have rf : ∀ j, w3.frozen? ⟨w.heap.size, j, none⟩ = false := fun j => frozen_of_row _ _ _ _ _ cR
    have m0 : w3.cell? ⟨w.heap.size + 1, 0, none⟩ = some (.int .i64 a) := by rw [cell_of_row _ _ _ _ _ _ cM]; rfl
    have m1 : w3.cell? ⟨w.heap.size + 1, 1, none⟩ = some (.int .i64 b) := by rw [cell_of_row _ _ _ _ _ _ cM]; rfl
    have m2 : w3.cell? ⟨w.heap.size + 1, 2, none⟩ = some (.int .i64 c) := by rw [cell_of_row _ _ _ _ _ _ cM]; rfl
    have m3 : w3.cell? ⟨w.heap.size + 1, 3, none⟩ = some (.int .i64 d) := by rw [cell_of_row _ _ _ _ _ _ cM]; rfl
    have hc3 : w3.cell? ⟨cb, o, none⟩ = some (.slice (some ⟨g, 0, none⟩) ms.length cap) := hO3.cell (hO1.cell hc (by simp)) (by simpa using hne)
    have cf3 : w3.frozen? ⟨cb, o, none⟩ = false := frozen_of_row _ _ _ _ _ cB
    have n1 : w.heap.size ≠ cb := by omega
    have n2 : w.heap.size + 1 ≠ cb := by omega
    have HO3 : Hid (Only [g] w1 w3) := hO3
    have HO1 : Hid (Only [] w w1) := hO1
    have HOWN3 : Hid (w3.ownsRow 0 64 4 (.slice (some ⟨g, 0, none⟩) (ms.length - 1) cap) (ms.length - 1) (flatM (ms.eraseIdx i))) := hown3
    have CB : Hid _ := cB
    have CR : Hid _ := cR
    clear hO3 hO1 hown3 cR cM cB bR bM hc k0 k1 k2 k3 hcf
    go_wp2_with fail
    have x1 : Only [cb] w3 (w3.setCell ⟨cb, o, none⟩ (.slice (some ⟨g, 0, none⟩) (ms.length - 1) cap)) := (Only.refl _ _).setCell (.inl (by simp)) _
    have y1 := heap_setCell_same w3 cb o cs T (.slice (some ⟨g, 0, none⟩) (ms.length - 1) cap) CB.out
    have z1 := x1.at CR.out (by simpa using n1)
    have o1 := ownsRow_at x1 HOWN3.out (by simpa using Ne.symm hne)
    generalize (w3.setCell ⟨cb, o, none⟩ (.slice (some ⟨g, 0, none⟩) (ms.length - 1) cap)) = w4 at *
    have x2 : Only [w.heap.size] w4 ((((w4.setCell ⟨w.heap.size, 0, none⟩ (.int .i64 a)).setCell ⟨w.heap.size, 1, none⟩ (.int .i64 b)).setCell ⟨w.heap.size, 2, none⟩ (.int .i64 c)).setCell ⟨w.heap.size, 3, none⟩ (.int .i64 d)) :=
      ((((Only.refl _ _).setCell (.inl (by simp)) _).setCell (.inl (by simp)) _).setCell (.inl (by simp)) _).setCell (.inl (by simp)) _
    have z2 := heap_setCell_same _ w.heap.size 3 _ _ (.int .i64 d) (heap_setCell_same _ w.heap.size 2 _ _ (.int .i64 c) (heap_setCell_same _ w.heap.size 1 _ _ (.int .i64 b) (heap_setCell_same w4 w.heap.size 0 _ _ (.int .i64 a) z1)))
    generalize ((((w4.setCell ⟨w.heap.size, 0, none⟩ (.int .i64 a)).setCell ⟨w.heap.size, 1, none⟩ (.int .i64 b)).setCell ⟨w.heap.size, 2, none⟩ (.int .i64 c)).setCell ⟨w.heap.size, 3, none⟩ (.int .i64 d)) = w5 at *
    have s0 : w5.cell? ⟨w.heap.size, 0, none⟩ = some (.int .i64 a) := by rw [cell_of_row _ _ _ _ _ _ z2]; rfl
    have s1 : w5.cell? ⟨w.heap.size, 1, none⟩ = some (.int .i64 b) := by rw [cell_of_row _ _ _ _ _ _ z2]; rfl
    have s2 : w5.cell? ⟨w.heap.size, 2, none⟩ = some (.int .i64 c) := by rw [cell_of_row _ _ _ _ _ _ z2]; rfl
    have s3 : w5.cell? ⟨w.heap.size, 3, none⟩ = some (.int .i64 d) := by rw [cell_of_row _ _ _ _ _ _ z2]; rfl
    refine bodyPost_ret (v := msg4 (a, b, c, d)) (by simp [results, Tryz.results50, msg4, s0, s1, s2, s3, go_sem]) rfl ⟨.slice (some ⟨g, 0, none⟩) (ms.length - 1) cap, rfl, x2.at y1 (by simpa using Ne.symm n1), ?_, rfl, ?_⟩
    · rw [HL.out]; exact ownsRow_at x2 o1 (by simp; omega)
    · have p1 : Only [cb, g] w w4 := (HO1.out.mono (by simp)).trans ((HO3.out.mono (by simp)).trans (x1.mono (by simp)))
      refine p1.trans2 x2 (fun k hk => ?_)
      simp at hk
      exact .inr (by omega)
end Go.Proofs.YtfpojgljgbgkkaaGreatDoor

/-
  The net: Send.
-/
namespace Go.Proofs.YtfpojgljgbgkkaaGreatDoor
open Go.RowKit
open Go.ChangeMaps (setBlock)

attribute [local go_sem ↓] Go.wp_at_zero Go.wp_at_succ

theorem run_append_none (w : World) (ty : TypeId) (q : Option Addr) (n cap : Nat) (h : n ≤ cap) :
    (Builtin.append_ #[85, 85] ty #[.slice q n cap, .slice none 0 0]).run Tryz.prog w = .ok (.slice q n cap) w := by
  obtain ⟨i0, hi, hz0, hz1, hz2⟩ := info_parts infoMsg
  cases q <;> simp [Builtin.append_, run_underlying Tryz.underlying85, sizeOf, typeInfo, hi, Builtin.lenOf, h, Builtin.firstCells, storeCells]
/-- The first k of some messages, appended. -/
theorem send_append (w : World) (ty : TypeId) (v : Value) (ms new : List (Int × Int × Int × Int)) (B : Nat) (q : Option Addr) (c k : Nat) (hown : w.ownsRow 0 64 4 v ms.length (flatM ms)) (hx : Sent2 B w (.slice q new.length c) new) (hk : k ≤ new.length) (hn : ms.length + new.length ≤ 100000) :
    ∃ q' c' w', (Builtin.append_ #[85, 85] ty #[v, .slice q k c]).run Tryz.prog w = .ok (.slice q' (ms.length + k) c') w' ∧ w'.ownsRow 0 64 4 (.slice q' (ms.length + k) c') (ms.length + k) (flatM (ms ++ new.take k)) ∧ w.grownBy w' v.ownBlock ∧ ((Value.slice q' (ms.length + k) c').ownBlock = v.ownBlock ∨ (Value.slice q' (ms.length + k) c').ownBlock = some w.heap.size) := by
  obtain ⟨i0, hi, hz0, hz1, hz2⟩ := info_parts infoMsg
  rcases hx.2 with ⟨e, h0⟩ | ⟨g, cap, cur, e, hB, hg, hnc, hcm, hcs, htk⟩
  · injection e with e1 e2 e3
    subst e1 e3
    obtain rfl : k = 0 := by omega
    obtain ⟨qv, cv, rfl, hle⟩ : ∃ qv cv, v = .slice qv ms.length cv ∧ ms.length ≤ cv := by
      rcases hown.2 with ⟨rfl, h1⟩ | ⟨g, cap, cur, rfl, _, _, h2, _⟩
      · exact ⟨none, 0, by rw [h1], by omega⟩
      · exact ⟨_, _, rfl, h2⟩
    exact ⟨qv, cv, w, run_append_none w ty qv ms.length cv hle, by simpa using hown, ⟨rfl, rfl, rfl, Nat.le_refl _, fun _ _ _ => rfl⟩, .inl rfl⟩
  · injection e with e1 e2 e3
    subst e1 e3
    have hl : (flatM (new.take k)).length = k * 4 := by rw [flatM_length, List.length_take, Nat.min_eq_left hk]
    have hnews : ∀ j u, (flatM (new.take k))[j]? = some u → w.cell? ((⟨g, 0, none⟩ : Addr).add j) = some u := by
      intro j u hj
      apply World.ownsRow.cells hx (g := g) rfl
      rw [← flatM_take] at hj
      have hlt : j < k * 4 := by
        have := (List.getElem?_eq_some_iff.1 hj).1
        rw [List.length_take] at this; omega
      rwa [List.getElem?_take_of_lt hlt] at hj
    obtain ⟨v', w', hr, h2, h3, _, h5⟩ := run_append_own_at (P := Tryz.prog) w 0 85 ty 64 i0 _ 4 32 Tryz.underlying85 hi hz0 hz1 hz2 rfl (by decide) v ms.length (flatM ms) hown ⟨g, 0, none⟩ k c (flatM (new.take k)) hl hnews (flatM_one _) (by unfold maxLen; omega) (by omega) (Nat.zero_le _)
    rw [← flatM_append] at h2
    obtain ⟨q', c', rfl⟩ : ∃ q' c', v' = .slice q' (ms.length + k) c' := by
      rcases h2.2 with ⟨rfl, h1⟩ | ⟨g, cap, cur, rfl, _⟩
      · rw [h1]; exact ⟨_, _, rfl⟩
      · exact ⟨_, _, rfl⟩
    exact ⟨q', c', w', hr, h2, h3, h5⟩

set_option maxRecDepth 100000 in
set_option maxHeartbeats 4000000 in
theorem netSend_any (cb o : Nat) (cs : Array Value) (T : TypeId) (v : Value) (ms new : List (Int × Int × Int × Int)) (B : Nat) (xv : Value) (w : World) (hrow : w.heap[cb]? = some (.cells cs T (0, 0))) (hv : cs[o]? = some v) (hown : w.ownsRow 0 64 4 v ms.length (flatM ms)) (hx : Sent2 B w xv new) (hms : ms.length ≤ 100) (hnew : new.length ≤ 1000) (hcb : v.ownBlock ≠ some cb) :
    Calls Tryz.prog 38 #[.pointer (some ⟨cb, o, none⟩), xv] w fun e w' => ∃ v', e = .returned (.tuple #[]) ∧ w'.heap[cb]? = some (.cells (cs.setIfInBounds o v') T (0, 0)) ∧ w'.ownsRow 0 64 4 v' (ms ++ new.take (100 - ms.length)).length (flatM (ms ++ new.take (100 - ms.length))) ∧ (v'.ownBlock = v.ownBlock ∨ ∃ g, v'.ownBlock = some g ∧ w.heap.size ≤ g) ∧ Only (cb :: v.ownBlock.toList) w w' := by
  have hc : w.cell? ⟨cb, o, none⟩ = some v := by rw [cell_of_row _ _ _ _ _ _ hrow]; exact hv
  have hcl : cb < w.heap.size := cell_lt hc
  obtain ⟨qv, cv, hvf⟩ : ∃ qv cv, v = .slice qv ms.length cv := by
    rcases hown.2 with ⟨rfl, h1⟩ | ⟨g, cap, cur, rfl, _⟩
    · rw [h1]; exact ⟨_, _, rfl⟩
    · exact ⟨_, _, rfl⟩
  obtain ⟨k, hk, hkl, hkt, hkm⟩ : ∃ k : Nat, k ≤ new.length ∧ ms.length + k = (ms ++ new.take (100 - ms.length)).length ∧ new.take k = new.take (100 - ms.length) ∧ (if (new.length : Int) < 100 - (ms.length : Int) then (new.length : Int) else 100 - (ms.length : Int)) = (k : Int) := by
    by_cases hlt : (new.length : Int) < 100 - (ms.length : Int)
    · refine ⟨new.length, Nat.le_refl _, ?_, ?_, if_pos hlt⟩
      · rw [List.length_append, List.length_take, Nat.min_eq_right (by omega)]
      · rw [List.take_length, List.take_of_length_le (by omega)]
    · refine ⟨100 - ms.length, by omega, ?_, rfl, by rw [if_neg hlt]; omega⟩
      rw [List.length_append, List.length_take, Nat.min_eq_left (by omega)]
  obtain ⟨q, c, rfl, hqc⟩ : ∃ q c, xv = .slice q new.length c ∧ (q = none ∧ c = 0 ∧ new.length = 0 ∨ ∃ g, q = some ⟨g, 0, none⟩ ∧ new.length ≤ c) := by
    rcases hx.2 with ⟨rfl, h1⟩ | ⟨g, cap, cur, rfl, _, _, h2, _⟩
    · exact ⟨none, 0, by rw [h1], .inl ⟨rfl, rfl, h1⟩⟩
    · exact ⟨_, _, rfl, .inr ⟨g, rfl, h2⟩⟩
  obtain ⟨q', c', w2, hap, hown2, hgr, hob⟩ := send_append w.drew 85 v ms new B q c k hown hx hk (by omega)
  rw [hkl, hkt] at hown2
  have cB2 : w2.heap[cb]? = some (.cells cs T (0, 0)) := by
    rw [← hrow]
    exact hgr.block cb hcl (fun e => hcb e.symm)
  have hO2 : Only (cb :: v.ownBlock.toList) w w2 := by
    have := ((Only.refl (cb :: v.ownBlock.toList) w).drew).grown hgr (fun k hk => .inl (by simp [hk]))
    exact this
  have R : Hid (∀ u, u = Value.slice q' (ms.length + k) c' → (w2.setCell ⟨cb, o, none⟩ u).heap[cb]? = some (.cells (cs.setIfInBounds o u) T (0, 0)) ∧ (w2.setCell ⟨cb, o, none⟩ u).ownsRow 0 64 4 u (ms ++ new.take (100 - ms.length)).length (flatM (ms ++ new.take (100 - ms.length))) ∧ (u.ownBlock = v.ownBlock ∨ ∃ g, u.ownBlock = some g ∧ w.heap.size ≤ g) ∧ Only (cb :: v.ownBlock.toList) w (w2.setCell ⟨cb, o, none⟩ u)) := by
    rintro u rfl
    have hOb : (Value.slice q' (ms.length + k) c').ownBlock ≠ some cb := by
      rcases hob with h | h
      · rw [h]; exact hcb
      · rw [h]
        intro e
        have := Option.some.inj e
        have e2 : w.drew.heap.size = w.heap.size := rfl
        omega
    refine ⟨heap_setCell_same w2 cb o cs T _ cB2, ?_, ?_, hO2.setCell (.inl (by simp)) _⟩
    · have x1 : Only [cb] w2 (w2.setCell ⟨cb, o, none⟩ (.slice q' (ms.length + k) c')) := (Only.refl _ _).setCell (.inl (by simp)) _
      rw [← hkl] at hown2 ⊢
      refine ⟨hown2.1, ?_⟩
      rcases hown2.2 with h2 | ⟨g', cap', cur, e, hb, hh, r⟩
      · exact .inl h2
      · refine .inr ⟨g', cap', cur, e, hb, x1.at hh ?_, r⟩
        rw [e] at hOb
        simpa [Value.ownBlock] using hOb
    · rcases hob with h | h
      · exact .inl h
      · exact .inr ⟨_, h, Nat.le_refl _⟩
  have hc2 : w2.cell? ⟨cb, o, none⟩ = some v := by rw [cell_of_row _ _ _ _ _ _ cB2]; exact hv
  have hcf2 : w2.frozen? ⟨cb, o, none⟩ = false := frozen_of_row _ _ _ _ _ cB2
  have HAP : Hid _ := hap
  have HKM : Hid ((if (new.length : Int) < 100 - (ms.length : Int) then (new.length : Int) else 100 - (ms.length : Int)) = (k : Int)) := hkm
  have hk0 : (0 : Int) ≤ (k : Int) := by omega
  have hkn : (k : Int) ≤ (new.length : Int) := by omega
  have hw1 : (0 : Int) ≤ 100 - (ms.length : Int) := by omega
  clear hap hown2 hgr hob cB2 hO2 hown hx hrow hv hkl hkt hkm hcb
  subst hvf
  rcases hqc with ⟨rfl, rfl, hn0⟩ | ⟨g, rfl, hcap⟩
  · have HKC : Hid (k ≤ 0) := by show _ ≤ _; omega
    clear hn0
    go_enter Tryz.func38, Tryz.ntmps38
    go_wp2_with fail
    refine wp_region_held_drew (S := fun _ => True) (by kernel_rfl) trivial (fun hHeld => ?_)
    refine takeD 0 11 (.pointer (some ⟨cb, o, none⟩)) rfl rfl (by kernel_rfl) (by kernel_rfl) (by kernel_rfl) (fun _ _ _ h => h) (Or.inl ⟨by kernel_rfl, ?_⟩) (by assumption) ?_
    · intro w hSw; go_simp
    simp only [List.setIfInBounds_toArray, List.set_cons_zero, List.set_cons_succ]
    refine takeD 1 12 (.pointer (some ⟨cb, o, none⟩)) rfl rfl (by kernel_rfl) (by kernel_rfl) (by kernel_rfl) (fun _ _ _ h => h) (Or.inl ⟨by kernel_rfl, ?_⟩) (by assumption) ?_
    · intro w hSw; go_simp
    simp only [List.setIfInBounds_toArray, List.set_cons_zero, List.set_cons_succ]
    refine takeD 2 13 (.pointer (some ⟨cb, o, none⟩)) rfl rfl (by kernel_rfl) (by kernel_rfl) (by kernel_rfl) (fun _ _ _ h => h) (Or.inl ⟨by kernel_rfl, ?_⟩) (by assumption) ?_
    · intro w hSw; go_simp
    simp only [List.setIfInBounds_toArray, List.set_cons_zero, List.set_cons_succ]
    refine takeD 3 14 (.pointer (some ⟨cb, o, none⟩)) rfl rfl (by kernel_rfl) (by kernel_rfl) (by kernel_rfl) (fun _ _ _ h => h) (Or.inl ⟨by kernel_rfl, ?_⟩) (by assumption) ?_
    · intro w hSw; go_simp
    simp only [List.setIfInBounds_toArray, List.set_cons_zero, List.set_cons_succ]
    refine takeD 5 16 (.slice none new.length 0) rfl rfl (by kernel_rfl) (by kernel_rfl) (by kernel_rfl) (fun _ _ _ h => h) (Or.inl ⟨by kernel_rfl, ?_⟩) (by assumption) ?_
    · intro w hSw; go_simp
    simp only [List.setIfInBounds_toArray, List.set_cons_zero, List.set_cons_succ]
    refine takeD 6 17 (.int .i64 (100 - (ms.length : Int))) rfl rfl (by kernel_rfl) (by kernel_rfl) (by kernel_rfl) (fun _ _ _ h => h) (Or.inl ⟨by kernel_rfl, ?_⟩) (by assumption) ?_
    · intro w hSw; go_simp
    simp only [List.setIfInBounds_toArray, List.set_cons_zero, List.set_cons_succ]
    refine takeD 7 18 (.slice none new.length 0) rfl rfl (by kernel_rfl) (by kernel_rfl) (by kernel_rfl) (fun _ _ _ h => h) (Or.inl ⟨by kernel_rfl, ?_⟩) (by assumption) ?_
    · intro w hSw; go_simp
    simp only [List.setIfInBounds_toArray, List.set_cons_zero, List.set_cons_succ]
    refine takeD 8 19 (.int .i64 (new.length : Int)) rfl rfl (by kernel_rfl) (by kernel_rfl) (by kernel_rfl) (fun _ _ _ h => h) (Or.inl ⟨by kernel_rfl, ?_⟩) (by assumption) ?_
    · intro w hSw; go_simp
    simp only [List.setIfInBounds_toArray, List.set_cons_zero, List.set_cons_succ]
    refine wpAnyH_ready (rs := [4, 9]) (by kernel_rfl) (by simp) ?_
    refine (AllReadyH.cons rfl (fun K hK => ?ordA0) (AllReadyH.cons rfl (fun K hK => ?ordB0) AllReadyH.nil))
    case' ordA0 =>
      go_simp
      refine hK.out _ _ trivial (fun hHeld => ?_)
      clear hK K
      refine wpAnyH_ready (rs := [9]) (by kernel_rfl) (by simp) ?_
      refine (AllReadyH.cons rfl (fun K hK => ?_) AllReadyH.nil)
      go_simp
      simp only [HKM.out]
      refine hK.out _ _ trivial (fun hHeld => ?_)
      clear hK K
      refine takeD 10 21 (.slice none k 0) rfl rfl (by kernel_rfl) (by kernel_rfl) (by kernel_rfl) (fun _ _ _ h => h) (Or.inl ⟨by kernel_rfl, ?_⟩) (by assumption) ?_
      · intro w hSw; go_simp; intro hc; have := HKC.out; omega
      simp only [List.setIfInBounds_toArray, List.set_cons_zero, List.set_cons_succ]
    case' ordB0 =>
      go_simp
      simp only [HKM.out]
      refine hK.out _ _ trivial (fun hHeld => ?_)
      clear hK K
      refine takeD 10 21 (.slice none k 0) rfl rfl (by kernel_rfl) (by kernel_rfl) (by kernel_rfl) (fun _ _ _ h => h) (Or.inl ⟨by kernel_rfl, ?_⟩) (by assumption) ?_
      · intro w hSw; go_simp; intro hc; have := HKC.out; omega
      simp only [List.setIfInBounds_toArray, List.set_cons_zero, List.set_cons_succ]
      refine wpAnyH_ready (rs := [4]) (by kernel_rfl) (by simp) ?_
      refine (AllReadyH.cons rfl (fun K hK => ?_) AllReadyH.nil)
      go_simp
      refine hK.out _ _ trivial (fun hHeld => ?_)
      clear hK K
    all_goals
      refine wpAnyH_ready (rs := [11]) (by kernel_rfl) (by simp) ?_
      refine (AllReadyH.cons rfl (fun K hK => ?_) AllReadyH.nil)
      refine step_append_run rfl (.tmp 15) (.tmp 21) 85 rfl rfl rfl HAP.out ?_
      go_simp
      refine hK.out _ _ trivial (fun hHeld => ?_)
      clear hK K
      refine takeD 12 23 (.pointer (some ⟨cb, o, none⟩)) rfl rfl (by kernel_rfl) (by kernel_rfl) (by kernel_rfl) (fun _ _ _ h => h) (Or.inl ⟨by kernel_rfl, ?_⟩) (by assumption) ?_
      · intro w hSw; go_simp
      simp only [List.setIfInBounds_toArray, List.set_cons_zero, List.set_cons_succ]
      refine takeD 13 24 (.pointer (some ⟨cb, o, none⟩)) rfl rfl (by kernel_rfl) (by kernel_rfl) (by kernel_rfl) (fun _ _ _ h => h) (Or.inl ⟨by kernel_rfl, ?_⟩) (by assumption) ?_
      · intro w hSw; go_simp
      simp only [List.setIfInBounds_toArray, List.set_cons_zero, List.set_cons_succ]
      refine wpAnyH_ready (rs := [14]) (by kernel_rfl) (by simp) ?_
      refine (AllReadyH.cons rfl (fun K hK => ?_) AllReadyH.nil)
      go_simp
      refine hK.out _ _ trivial (fun hHeld => ?_)
      clear hK K
      refine wpAnyH_done (by kernel_rfl) ?_ _
      have RR := R.out _ rfl
      clear R
      have RRH : Hid _ := RR
      clear RR
      go_wp2_with fail
      exact bodyPost_end (v := .tuple #[]) (by simp [results, Tryz.results38, go_sem]) rfl ⟨_, rfl, RRH.out⟩
  · have HKC : Hid (k ≤ c) := by show _ ≤ _; omega
    clear hcap
    go_enter Tryz.func38, Tryz.ntmps38
    go_wp2_with fail
    refine wp_region_held_drew (S := fun _ => True) (by kernel_rfl) trivial (fun hHeld => ?_)
    refine takeD 0 11 (.pointer (some ⟨cb, o, none⟩)) rfl rfl (by kernel_rfl) (by kernel_rfl) (by kernel_rfl) (fun _ _ _ h => h) (Or.inl ⟨by kernel_rfl, ?_⟩) (by assumption) ?_
    · intro w hSw; go_simp
    simp only [List.setIfInBounds_toArray, List.set_cons_zero, List.set_cons_succ]
    refine takeD 1 12 (.pointer (some ⟨cb, o, none⟩)) rfl rfl (by kernel_rfl) (by kernel_rfl) (by kernel_rfl) (fun _ _ _ h => h) (Or.inl ⟨by kernel_rfl, ?_⟩) (by assumption) ?_
    · intro w hSw; go_simp
    simp only [List.setIfInBounds_toArray, List.set_cons_zero, List.set_cons_succ]
    refine takeD 2 13 (.pointer (some ⟨cb, o, none⟩)) rfl rfl (by kernel_rfl) (by kernel_rfl) (by kernel_rfl) (fun _ _ _ h => h) (Or.inl ⟨by kernel_rfl, ?_⟩) (by assumption) ?_
    · intro w hSw; go_simp
    simp only [List.setIfInBounds_toArray, List.set_cons_zero, List.set_cons_succ]
    refine takeD 3 14 (.pointer (some ⟨cb, o, none⟩)) rfl rfl (by kernel_rfl) (by kernel_rfl) (by kernel_rfl) (fun _ _ _ h => h) (Or.inl ⟨by kernel_rfl, ?_⟩) (by assumption) ?_
    · intro w hSw; go_simp
    simp only [List.setIfInBounds_toArray, List.set_cons_zero, List.set_cons_succ]
    refine takeD 5 16 (.slice (some ⟨g, 0, none⟩) new.length c) rfl rfl (by kernel_rfl) (by kernel_rfl) (by kernel_rfl) (fun _ _ _ h => h) (Or.inl ⟨by kernel_rfl, ?_⟩) (by assumption) ?_
    · intro w hSw; go_simp
    simp only [List.setIfInBounds_toArray, List.set_cons_zero, List.set_cons_succ]
    refine takeD 6 17 (.int .i64 (100 - (ms.length : Int))) rfl rfl (by kernel_rfl) (by kernel_rfl) (by kernel_rfl) (fun _ _ _ h => h) (Or.inl ⟨by kernel_rfl, ?_⟩) (by assumption) ?_
    · intro w hSw; go_simp
    simp only [List.setIfInBounds_toArray, List.set_cons_zero, List.set_cons_succ]
    refine takeD 7 18 (.slice (some ⟨g, 0, none⟩) new.length c) rfl rfl (by kernel_rfl) (by kernel_rfl) (by kernel_rfl) (fun _ _ _ h => h) (Or.inl ⟨by kernel_rfl, ?_⟩) (by assumption) ?_
    · intro w hSw; go_simp
    simp only [List.setIfInBounds_toArray, List.set_cons_zero, List.set_cons_succ]
    refine takeD 8 19 (.int .i64 (new.length : Int)) rfl rfl (by kernel_rfl) (by kernel_rfl) (by kernel_rfl) (fun _ _ _ h => h) (Or.inl ⟨by kernel_rfl, ?_⟩) (by assumption) ?_
    · intro w hSw; go_simp
    simp only [List.setIfInBounds_toArray, List.set_cons_zero, List.set_cons_succ]
    refine wpAnyH_ready (rs := [4, 9]) (by kernel_rfl) (by simp) ?_
    refine (AllReadyH.cons rfl (fun K hK => ?ordA1) (AllReadyH.cons rfl (fun K hK => ?ordB1) AllReadyH.nil))
    case' ordA1 =>
      go_simp
      refine hK.out _ _ trivial (fun hHeld => ?_)
      clear hK K
      refine wpAnyH_ready (rs := [9]) (by kernel_rfl) (by simp) ?_
      refine (AllReadyH.cons rfl (fun K hK => ?_) AllReadyH.nil)
      go_simp
      simp only [HKM.out]
      refine hK.out _ _ trivial (fun hHeld => ?_)
      clear hK K
      refine takeD 10 21 (.slice (some ⟨g, 0, none⟩) k c) rfl rfl (by kernel_rfl) (by kernel_rfl) (by kernel_rfl) (fun _ _ _ h => h) (Or.inl ⟨by kernel_rfl, ?_⟩) (by assumption) ?_
      · intro w hSw; go_simp; intro hc; have := HKC.out; omega
      simp only [List.setIfInBounds_toArray, List.set_cons_zero, List.set_cons_succ]
    case' ordB1 =>
      go_simp
      simp only [HKM.out]
      refine hK.out _ _ trivial (fun hHeld => ?_)
      clear hK K
      refine takeD 10 21 (.slice (some ⟨g, 0, none⟩) k c) rfl rfl (by kernel_rfl) (by kernel_rfl) (by kernel_rfl) (fun _ _ _ h => h) (Or.inl ⟨by kernel_rfl, ?_⟩) (by assumption) ?_
      · intro w hSw; go_simp; intro hc; have := HKC.out; omega
      simp only [List.setIfInBounds_toArray, List.set_cons_zero, List.set_cons_succ]
      refine wpAnyH_ready (rs := [4]) (by kernel_rfl) (by simp) ?_
      refine (AllReadyH.cons rfl (fun K hK => ?_) AllReadyH.nil)
      go_simp
      refine hK.out _ _ trivial (fun hHeld => ?_)
      clear hK K
    all_goals
      refine wpAnyH_ready (rs := [11]) (by kernel_rfl) (by simp) ?_
      refine (AllReadyH.cons rfl (fun K hK => ?_) AllReadyH.nil)
      refine step_append_run rfl (.tmp 15) (.tmp 21) 85 rfl rfl rfl HAP.out ?_
      go_simp
      refine hK.out _ _ trivial (fun hHeld => ?_)
      clear hK K
      refine takeD 12 23 (.pointer (some ⟨cb, o, none⟩)) rfl rfl (by kernel_rfl) (by kernel_rfl) (by kernel_rfl) (fun _ _ _ h => h) (Or.inl ⟨by kernel_rfl, ?_⟩) (by assumption) ?_
      · intro w hSw; go_simp
      simp only [List.setIfInBounds_toArray, List.set_cons_zero, List.set_cons_succ]
      refine takeD 13 24 (.pointer (some ⟨cb, o, none⟩)) rfl rfl (by kernel_rfl) (by kernel_rfl) (by kernel_rfl) (fun _ _ _ h => h) (Or.inl ⟨by kernel_rfl, ?_⟩) (by assumption) ?_
      · intro w hSw; go_simp
      simp only [List.setIfInBounds_toArray, List.set_cons_zero, List.set_cons_succ]
      refine wpAnyH_ready (rs := [14]) (by kernel_rfl) (by simp) ?_
      refine (AllReadyH.cons rfl (fun K hK => ?_) AllReadyH.nil)
      go_simp
      refine hK.out _ _ trivial (fun hHeld => ?_)
      clear hK K
      refine wpAnyH_done (by kernel_rfl) ?_ _
      have RR := R.out _ rfl
      clear R
      have RRH : Hid _ := RR
      clear RR
      go_wp2_with fail
      exact bodyPost_end (v := .tuple #[]) (by simp [results, Tryz.results38, go_sem]) rfl ⟨_, rfl, RRH.out⟩
end Go.Proofs.YtfpojgljgbgkkaaGreatDoor

/-
  New nodes.
-/
namespace Go.Proofs.YtfpojgljgbgkkaaGreatDoor
open Go.RowKit
open Go.ChangeMaps (setBlock)

attribute [local go_sem ↓] Go.wp_at_zero Go.wp_at_succ

theorem run_makeInts (w : World) : (Instr.makeMap 127 none).run Tryz.prog w = .ok (.map (some w.heap.size)) (w.alloc (.map #[] 0)) := by
  simp [Instr.makeMap, newObj, Sem.run, Result.andThen]
theorem run_makeMatters (w : World) : (Instr.makeMap 130 none).run Tryz.prog w = .ok (.map (some w.heap.size)) (w.alloc (.map #[] 0)) := by
  simp [Instr.makeMap, newObj, Sem.run, Result.andThen]
theorem run_makeSet (w : World) : (Instr.makeMap 132 none).run Tryz.prog w = .ok (.map (some w.heap.size)) (w.alloc (.map #[] 0)) := by
  simp [Instr.makeMap, newObj, Sem.run, Result.andThen]
theorem MapI.new {w : World} {b : Nat} (h : w.heap[b]? = some (.map #[] 0)) : MapI w b [] := ⟨#[], 0, h, rfl, by simp [Stamp]⟩
attribute [local go_sem] run_makeInts run_makeMatters run_makeSet

set_option maxRecDepth 100000 in
set_option maxHeartbeats 1000000 in
theorem newBase_any (n : Int) (w : World) :
    Calls Tryz.prog 89 #[.int .i64 n] w fun e w' => ∃ kn, e = .returned (.agg #[.int .i64 n, .string (bs []), .int .i64 0, .map (some kn), .bool false]) ∧ w.heap.size ≤ kn ∧ Only [] w w' ∧ MapI w' kn [] := by
  go_enter Tryz.func89, Tryz.ntmps89
  go_wp2_with fail
  have hO : Only [] w ((w.alloc (.cells #[.int .i64 n, .string (bs []), .int .i64 0, .map (some (w.heap.size + 1)), .bool false] 129)).alloc (.map #[] 0)) := ((Only.refl _ _).alloc _).alloc _
  have hm : ((w.alloc (.cells #[.int .i64 n, .string (bs []), .int .i64 0, .map (some (w.heap.size + 1)), .bool false] 129)).alloc (.map #[] 0)).heap[w.heap.size + 1]? = some (.map #[] 0) := by
    have := heap_alloc_new (w.alloc (.cells #[.int .i64 n, .string (bs []), .int .i64 0, .map (some (w.heap.size + 1)), .bool false] 129)) (.map #[] 0)
    simpa using this
  exact bodyPost_ret (v := .agg #[.int .i64 n, .string (bs []), .int .i64 0, .map (some (w.heap.size + 1)), .bool false]) (by simp [results, Tryz.results89, go_sem]; rfl) rfl ⟨_, rfl, by omega, hO, MapI.new hm⟩

set_option maxRecDepth 100000 in
set_option maxHeartbeats 1000000 in
theorem newPart_any (n sort : Int) (w : World) :
    Calls Tryz.prog 46 #[.int .i64 n, .int .i64 sort] w fun e w' => ∃ nb kn vt, e = .returned (.pointer (some ⟨nb, 0, none⟩)) ∧ w.heap.size ≤ nb ∧ w.heap.size ≤ kn ∧ w.heap.size ≤ vt ∧ Only [] w w' ∧ PartAt w' nb n [] 0 kn [] sort vt [] := by
  go_enter Tryz.func46, Tryz.ntmps46
  go_wp2_with fail
  refine (newBase_any n w).mono ?_
  rintro e w1 ⟨kn, rfl, hkn, hO1, hM1⟩
  have hz1 := hO1.size
  have hkl : kn < w1.heap.size := by obtain ⟨_, _, h, _⟩ := hM1; exact block_lt h
  go_wp2_with fail
  go_ret
  have hm : (w1.alloc (.map #[] 0)).heap[w1.heap.size]? = some (.map #[] 0) := heap_alloc_new w1 _
  have hO2 : Only [] w1 (w1.alloc (.map #[] 0)) := (Only.refl _ _).alloc _
  generalize hW : w1.alloc (.map #[] 0) = w2 at *
  have hz2 : w2.heap.size = w1.heap.size + 1 := by rw [← hW]; simp
  have hO3 : Only [] w2 (w2.alloc (.cells #[.int .i64 n, .string (bs []), .int .i64 0, .map (some kn), .bool false, .int .i64 sort, .map (some w1.heap.size)] 148)) := (Only.refl _ _).alloc _
  have hn : (w2.alloc (.cells #[.int .i64 n, .string (bs []), .int .i64 0, .map (some kn), .bool false, .int .i64 sort, .map (some w1.heap.size)] 148)).heap[w1.heap.size + 1]? = some (.cells #[.int .i64 n, .string (bs []), .int .i64 0, .map (some kn), .bool false, .int .i64 sort, .map (some w1.heap.size)] 148 (0, 0)) := by
    rw [← hz2]; exact heap_alloc_new w2 _
  exact ⟨w1.heap.size + 1, kn, w1.heap.size, rfl, by omega, hkn, hz1, (hO1.trans hO2).trans hO3, hn, (hM1.only hO2 (by simp)).only hO3 (by simp), MapI.only (MapI.new hm) hO3 (by simp), by omega⟩

set_option maxRecDepth 100000 in
set_option maxHeartbeats 4000000 in
theorem cloneI_any (sb scap : Nat) (ss : List Int) (w : World) (h : Head w sb 3 (intsV ss)) (hN : ss.length ≤ 1000) :
    Calls Tryz.prog 90 #[.slice (some ⟨sb, 0, none⟩) ss.length scap] w fun e w' => ∃ g cap, e = .returned (.slice (some ⟨g, 0, none⟩) ss.length cap) ∧ w.heap.size ≤ g ∧ Only [] w w' ∧ Head w' g 3 (intsV ss) := by
  obtain ⟨i0, hi, hz0, hz1, hz2⟩ := info_parts infoInt2
  have hcells : ∀ j u, (intsV ss)[j]? = some u → (w.alloc (.cells #[] 3)).cell? ((⟨sb, 0, none⟩ : Addr).add j) = some u := by
    intro j u hj
    have hlt := (List.getElem?_eq_some_iff.1 hj).1
    have : (⟨sb, 0, none⟩ : Addr).add j = ⟨sb, j, none⟩ := by unfold Addr.add; split <;> simp_all
    rw [this]
    exact Only.cell ((Only.refl [] w).alloc _) (by rw [h.cell j hlt]; exact hj) (by simp)
  have HCells : Hid _ := hcells
  have hnil : ∀ w, (binOp .eql 26 (.slice (some ⟨sb, 0, none⟩) ss.length scap) (.slice none 0 0)).run Tryz.prog w = .ok (.bool false) w := fun w => Lib.run_eql_slice_nil w _ _ (some ⟨sb, 0, none⟩) _ _ 0 0 Tryz.underlying26
  have hown0 : (w.alloc (.cells #[] 3)).ownsRow w.heap.size 3 1 (.slice (some ⟨w.heap.size, 0, none⟩) 0 0) 0 [] :=
    ⟨rfl, .inr ⟨w.heap.size, 0, #[], rfl, Nat.le_refl _, heap_alloc_new w _, Nat.le_refl _, by decide, rfl, rfl⟩⟩
  have HOwn : Hid _ := hown0
  have HL4 : Hid ((intsV ss).length = ss.length * 1) := by show _ = _; simp [intsV]
  have H1 : Hid (∀ u ∈ intsV ss, u.oneCell' = true) := fun u hu => by
    obtain ⟨x, _, rfl⟩ := List.mem_map.1 hu
    rfl
  clear hcells hown0 h
  go_enter Tryz.func90, Tryz.ntmps90
  go_wp2_with (
    at_builtin
    refine wpList_append_own _ rfl _ _ 26 rfl w.heap.size 3 i0 (.int .i64 0) 1 8 Tryz.underlying26 hi hz0 hz1 hz2 rfl (by decide) _ 0 [] rfl HOwn.out ⟨sb, 0, none⟩ ss.length scap (intsV ss) rfl HL4.out HCells.out H1.out (by unfold maxLen; omega) (by omega) (by simp) ?_
    intro v' w3 hown3 hgrow3 hnil3)
  go_ret
  have hO := ((Only.refl [] w).alloc (.cells #[] 3)).grown hgrow3 (fun k hk => .inr (Nat.le_of_eq (Option.some.inj hk)))
  rcases hown3.2 with ⟨e, -⟩ | ⟨g, cap, cur, e, hB, hg, hnc, hcm, hcs, htk⟩
  · have h : Value.slice (some ⟨w.heap.size, 0, none⟩) 0 0 = .slice none 0 0 := (hnil3.1 e).1
    cases h
  · rw [Nat.zero_add] at e hnc htk
    have hl := HL4.out
    rw [Nat.mul_one] at hl hcs htk
    refine ⟨g, ⟨cap, congrArg Ending.returned e⟩, hB, hO, cur, hg, by omega, ?_⟩
    rw [hl]; exact htk

end Go.Proofs.YtfpojgljgbgkkaaGreatDoor

/-
  A new coordinator.
-/
namespace Go.Proofs.YtfpojgljgbgkkaaGreatDoor
open Go.RowKit
open Go.ChangeMaps (setBlock)

attribute [local go_sem ↓] Go.wp_at_zero Go.wp_at_succ
attribute [local go_sem] run_makeInts run_makeMatters run_makeSet

set_option maxRecDepth 100000 in
set_option maxHeartbeats 4000000 in
theorem newCo_any (sb scap : Nat) (ss : List Int) (wait : Int) (w : World) (h : Head w sb 3 (intsV ss)) (hN : ss.length ≤ 1000) :
    Calls Tryz.prog 45 #[.slice (some ⟨sb, 0, none⟩) ss.length scap, .int .i64 wait] w fun e w' => ∃ p : CoP, e = .returned (.pointer (some ⟨p.nb, 0, none⟩)) ∧ (∀ k ∈ p.sb :: p.blocks, w.heap.size ≤ k) ∧ Only [] w w' ∧ CoAt w' p ss wait ⟨[], 0, [], [], [], []⟩ := by
  have HH : Hid (Head w sb 3 (intsV ss)) := h
  clear h
  go_enter Tryz.func45, Tryz.ntmps45
  go_wp2_with fail
  refine (newBase_any 0 w).mono ?_
  rintro e w1 ⟨kn, rfl, hkn, hO1, hM1⟩
  have hz1 := hO1.size
  have hkl : kn < w1.heap.size := by obtain ⟨_, _, h, _⟩ := hM1; exact block_lt h
  have HM1 : Hid (MapI w1 kn []) := hM1
  have HO1 : Hid (Only [] w w1) := hO1
  clear hM1 hO1
  go_wp2_with fail
  refine (cloneI_any sb scap ss w1 (HH.out.only HO1.out (by simp)) hN).mono ?_
  rintro e w2 ⟨g, cap, rfl, hg, hO2, hS2⟩
  have hz2 := hO2.size
  have hgl := hS2.lt
  have HM2 : Hid (MapI w2 kn []) := HM1.out.only hO2 (by simp)
  have HO2 : Hid (Only [] w w2) := HO1.out.trans hO2
  have HS2 : Hid (Head w2 g 3 (intsV ss)) := hS2
  clear hO2 hS2
  go_wp2_with fail
  go_ret
  have a3 : Only [] w2 (w2.alloc (.map #[] 0)) := (Only.refl _ _).alloc _
  have b3 : (w2.alloc (.map #[] 0)).heap[w2.heap.size]? = some (.map #[] 0) := heap_alloc_new w2 _
  generalize hW3 : w2.alloc (.map #[] 0) = w3 at *
  have z3 : w3.heap.size = w2.heap.size + 1 := by rw [← hW3]; simp
  have a4 : Only [] w3 (w3.alloc (.map #[] 0)) := (Only.refl _ _).alloc _
  have b4 : (w3.alloc (.map #[] 0)).heap[w3.heap.size]? = some (.map #[] 0) := heap_alloc_new w3 _
  generalize hW4 : w3.alloc (.map #[] 0) = w4 at *
  have z4 : w4.heap.size = w3.heap.size + 1 := by rw [← hW4]; simp
  have a5 : Only [] w4 (w4.alloc (.map #[] 0)) := (Only.refl _ _).alloc _
  have b5 : (w4.alloc (.map #[] 0)).heap[w4.heap.size]? = some (.map #[] 0) := heap_alloc_new w4 _
  generalize hW5 : w4.alloc (.map #[] 0) = w5 at *
  have z5 : w5.heap.size = w4.heap.size + 1 := by rw [← hW5]; simp
  rw [← z3, ← z4, ← z5]
  have a6 : Only [] w5 (w5.alloc (.cells #[.int .i64 0, .string (bs []), .int .i64 0, .map (some kn), .bool false, .slice (some ⟨g, 0, none⟩) ss.length cap, .int .i64 wait, .map (some w2.heap.size), .map (some w3.heap.size), .map (some w4.heap.size)] 134)) := (Only.refl _ _).alloc _
  have b6 : (w5.alloc (.cells #[.int .i64 0, .string (bs []), .int .i64 0, .map (some kn), .bool false, .slice (some ⟨g, 0, none⟩) ss.length cap, .int .i64 wait, .map (some w2.heap.size), .map (some w3.heap.size), .map (some w4.heap.size)] 134)).heap[w5.heap.size]? = some (.cells #[.int .i64 0, .string (bs []), .int .i64 0, .map (some kn), .bool false, .slice (some ⟨g, 0, none⟩) ss.length cap, .int .i64 wait, .map (some w2.heap.size), .map (some w3.heap.size), .map (some w4.heap.size)] 134 (0, 0)) := heap_alloc_new w5 _
  generalize w5.alloc (.cells #[.int .i64 0, .string (bs []), .int .i64 0, .map (some kn), .bool false, .slice (some ⟨g, 0, none⟩) ss.length cap, .int .i64 wait, .map (some w2.heap.size), .map (some w3.heap.size), .map (some w4.heap.size)] 134) = w6 at *
  have a26 : Only [] w2 w6 := a3.trans (a4.trans (a5.trans a6))
  refine ⟨⟨w5.heap.size, kn, g, cap, w2.heap.size, w3.heap.size, w4.heap.size⟩, rfl, ?_, HO2.out.trans a26, b6, HS2.out.only a26 (by simp), HM2.out.only a26 (by simp), MapI.only (MapI.new b3) (a4.trans (a5.trans a6)) (by simp), MapI.only (MapI.new b4) (a5.trans a6) (by simp), MapI.only (MapI.new b5) a6 (by simp), ?_⟩
  · intro k hk
    simp only [CoP.blocks, List.mem_cons, List.not_mem_nil, or_false] at hk
    rcases hk with rfl | rfl | rfl | rfl | rfl | rfl <;> omega
  · simp only [List.nodup_cons, List.mem_cons, List.not_mem_nil, or_false, not_or, List.nodup_nil, not_false_eq_true, and_true]
    omega
end Go.Proofs.YtfpojgljgbgkkaaGreatDoor
