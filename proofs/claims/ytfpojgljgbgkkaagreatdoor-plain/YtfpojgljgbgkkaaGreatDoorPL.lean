import Derived.Test.YtfpojgljgbgkkaaGreatDoorPK
/-
  The game begins: started.
-/
namespace Go.Proofs.YtfpojgljgbgkkaaGreatDoor
open Go.RowKit
open Go.ChangeMaps (setBlock)

attribute [local go_sem ↓] Go.wp_at_zero Go.wp_at_succ

theorem chosen_all (N : Nat) : chosen (fun x => x != 0) N = (List.range N).map fun (i : Nat) => (i : Int) + 1 := by
  unfold chosen
  rw [List.filter_eq_self]
  intro x hx
  obtain ⟨i, -, rfl⟩ := List.mem_map.1 hx
  simp; omega
/-- A cluster in which the first transaction has begun. -/
def Cl.first (ss : List Int) : Cl := (Cl.new ss.length).begin ss
theorem first_net (ss : List Int) (h6 : ss.length ≤ 6) : (Cl.first ss).net = (List.range ss.length).map fun (i : Nat) => ((1 : Int), (0 : Int), (i : Int) + 1, (1 : Int)) := by
  show [] ++ List.take (100 - 0) (toAll 1 (0 + 1) (chosen (fun x => x != 0) ss.length)) = _
  rw [chosen_all, List.nil_append, List.take_of_length_le (by simp [toAll]; omega)]
  simp [toAll]
theorem first_len (ss : List Int) (h6 : ss.length ≤ 6) : (Cl.first ss).net.length = ss.length := by rw [first_net ss h6]; simp
theorem first_msg (ss : List Int) (h1 : 1 ≤ ss.length) (h6 : ss.length ≤ 6) : (Cl.first ss).net[0]? = some (1, 0, 1, 1) := by
  rw [first_net ss h6]
  obtain ⟨N, hN⟩ : ∃ N, ss.length = N + 1 := ⟨ss.length - 1, by omega⟩
  rw [hN]
  simp [List.range_succ_eq_map]
theorem mild_mk {k f t x : Int} (h : 1 ≤ k ∧ k ≤ 7 ∧ 0 ≤ f ∧ f ≤ 6 ∧ 0 ≤ t ∧ t ≤ 6 ∧ 1 ≤ x ∧ x ≤ 40) : mild (k, f, t, x) := by
  simp only [mild, fair, endsB, rightNodeB, rightTxB, Bool.and_eq_true, decide_eq_true_eq]
  omega
theorem first_mild (ss : List Int) (h6 : ss.length ≤ 6) : ∀ m ∈ (Cl.first ss).net, mild m := by
  rw [first_net ss h6]
  intro m hm
  obtain ⟨i, hi, rfl⟩ := List.mem_map.1 hm
  rw [List.mem_range] at hi
  exact mild_mk (by omega)
theorem first_open (ss : List Int) : (Cl.first ss).outcome 0 1 = 1 := by
  show CS.outcome 1 (CS.begun ss 1 ⟨[], 0, [], [], [], []⟩) = 1
  unfold CS.begun
  split <;> rfl
/-- The row of a game that begins. -/
theorem game_begins (cb : Nat) (n : Int) : (((Tryz.zeroCells36.setIfInBounds 0 (.pointer (some ⟨cb, 0, none⟩))).setIfInBounds 1 (.int .i64 n)).setIfInBounds 2 (.int .i64 1)).size = 865 ∧ (((Tryz.zeroCells36.setIfInBounds 0 (.pointer (some ⟨cb, 0, none⟩))).setIfInBounds 1 (.int .i64 n)).setIfInBounds 2 (.int .i64 1))[0]? = some (.pointer (some ⟨cb, 0, none⟩)) ∧ (((Tryz.zeroCells36.setIfInBounds 0 (.pointer (some ⟨cb, 0, none⟩))).setIfInBounds 1 (.int .i64 n)).setIfInBounds 2 (.int .i64 1))[1]? = some (.int .i64 n) ∧ (((Tryz.zeroCells36.setIfInBounds 0 (.pointer (some ⟨cb, 0, none⟩))).setIfInBounds 1 (.int .i64 n)).setIfInBounds 2 (.int .i64 1))[864]? = some (.bool false) :=
  ⟨by kernel_rfl, by kernel_rfl, by kernel_rfl, by kernel_rfl⟩
end Go.Proofs.YtfpojgljgbgkkaaGreatDoor

/-
  The game begins: started.
-/
namespace Go.Proofs.YtfpojgljgbgkkaaGreatDoor
open Go.RowKit
open Go.ChangeMaps (setBlock)

attribute [local go_sem ↓] Go.wp_at_zero Go.wp_at_succ

/-- A game in memory: made since the world w0. -/
structure GameAt (w0 w : World) (gb : Nat) (P : ClP) (ss : List Int) (wait : Int) (nv : Value) (c : Cl) (cs : Array Value) : Prop where
  cl : ClAt w P ss wait nv c
  game : GameRow w gb P.cb (ss.length : Int) cs
  out : gb ∉ P.all nv
  new : w0.heap.size ≤ gb ∧ ∀ k ∈ P.all nv, w0.heap.size ≤ k
  only : Only [] w0 w

theorem cellsMsgN : Tryz.prog.cellsOf 64 = 4 := by kernel_rfl
set_option maxRecDepth 100000 in
set_option maxHeartbeats 16000000 in
theorem started_any (ao : Option Addr) (n cap : Nat) (wt : Int) {a : Nat → Addr} (w : World) (hS : Sent w a) (hw0 : -9223372036854775808 ≤ wt) (hw1 : wt ≤ 9223372036854775807) (hn : n ≤ 9223372036854775807)
    (hts : ∀ k, k < n → ∃ tb toff z, ao = some ⟨tb, toff, none⟩ ∧ tb < w.heap.size ∧ w.cell? ⟨tb, toff + k, none⟩ = some (.int .i64 z) ∧ -9223372036854775808 ≤ z ∧ z ≤ 9223372036854775807) :
    Calls Tryz.prog 11 #[.slice ao n cap, .int .i64 wt] w fun e w' => ∃ gb P ss nv cs, e = .returned (.pointer (some ⟨gb, 0, none⟩)) ∧ 1 ≤ ss.length ∧ ss.length ≤ 6 ∧ (∀ x ∈ ss, wrongB x = false) ∧ GameAt w w' gb P ss (1 + pickI wt 20) nv (Cl.first ss) cs := by
  have HS : Hid (Sent w a) := hS
  have HT : Hid (∀ k, k < n → ∃ tb toff z, ao = some ⟨tb, toff, none⟩ ∧ tb < w.heap.size ∧ w.cell? ⟨tb, toff + k, none⟩ = some (.int .i64 z) ∧ -9223372036854775808 ≤ z ∧ z ≤ 9223372036854775807) := hts
  obtain ⟨i0, hi, hz0, hz1, hz2⟩ := info_parts infoInt2
  have cint := cellsInt2
  have cstr := cellsStr
  have cmsg := cellsMsgN
  have HPW : Hid (∀ w : World, Calls Tryz.prog 12 #[.int .i64 wt, .int .i64 20] w fun e w' => e = .returned (.int .i64 (pickI wt 20)) ∧ w = w') := fun w => keepPick_any wt 20 w hw0 hw1 (by omega) (by omega)
  have hpb := pickI_bd wt 20 (by decide)
  generalize pickI wt 20 = pw at *
  clear hS hts hw0 hw1
  go_enter Tryz.func11, Tryz.ntmps11
  go_wp2_with fail
  go_loopw [5, 6] (fun v i wr => ∃ (j : Nat) (l : List Int), j ≤ n ∧ j ≤ 6 ∧ i = .int .i64 j ∧ Hid (l.length = j) ∧ Hid (∀ x ∈ l, wrongB x = false) ∧ Hid (Only [] w wr) ∧ Hid (wr.ownsRow w.heap.size 3 1 v l.length (intsV l))) (fun _ i _ => 6 - (intOf i).toNat)
  case atStart => exact ⟨0, [], by omega, by omega, rfl, rfl, by show ∀ x ∈ ([] : List Int), _; simp, Only.refl _ _, World.ownsRow_nil _ _ _ _⟩
  case round =>
    obtain ⟨j, l, hj, hj6, rfl, HL, HV, HO, HW⟩ := hrel
    by_cases hgo : j < n ∧ j < 6
    · obtain ⟨hjn, hj6'⟩ := hgo
      obtain ⟨tb, toff, z, rfl, htb, htc, hzl, hzh⟩ := HT.out j hjn
      have hc : wr.cell? ⟨tb, toff + j, none⟩ = some (.int .i64 z) := HO.out.cell htc (by simp)
      have HPZ : Hid (∀ w : World, Calls Tryz.prog 12 #[.int .i64 z, .int .i64 3] w fun e w' => e = .returned (.int .i64 (pickI z 3)) ∧ w = w') := fun w => keepPick_any z 3 w hzl hzh (by omega) (by omega)
      have hzb := pickI_bd z 3 (by decide)
      generalize pickI z 3 = y at *
      have e1 : ((j : Int) < (n : Int)) := by omega
      have e0 : (0 : Int) ≤ (j : Int) := by omega
      have e2 : ((j : Int) < 6) := by omega
      clear htc hzl hzh
      go_wp2_with fail
      refine Calls.mono (HPZ.out wr) ?_
      rintro e w2 ⟨rfl, rfl⟩
      have HWJ : Hid (wr.ownsRow w.heap.size 3 1 u5 j (intsV l)) := by have := HW.out; rwa [HL.out] at this
      have hz := HO.out.size
      go_wp2_with (
        at_builtin
        refine wpList_append_own _ rfl _ _ 26 rfl w.heap.size 3 i0 (.int .i64 0) 1 8 Tryz.underlying26 hi hz0 hz1 hz2 rfl (by decide) _ j (intsV l) rfl (HWJ.out.alloc _) ⟨wr.heap.size, 0, none⟩ 1 1 [.int .i64 y] rfl rfl (cell_one_at2 _ _ _ _ rfl) (fun x hx => by simp at hx; rw [hx]; rfl) (by unfold maxLen; omega) (by omega) (by simp; omega) ?_
        intro v' w4 hown4 hgrow4 hnil4
        clear hnil4)
      go_roundw
      case rel =>
        refine ⟨j + 1, l ++ [y], by omega, by omega, by go_num, ?_, ?_, (HO.out.alloc _).grown hgrow4 (fun q hq => .inr (HWJ.out.lt _ hq).1), ?_⟩
        · show _ = _; simp [HL.out]
        · show ∀ x ∈ l ++ [y], _
          intro x hx
          simp only [List.mem_append, List.mem_cons, List.not_mem_nil, or_false] at hx
          rcases hx with hx | rfl
          · exact HV.out x hx
          · simp [wrongB]; omega
        · show World.ownsRow _ _ _ _ _ _ _
          rw [List.length_append, HL.out]
          simpa [intsV] using hown4
      case measure => simp [intOf]; omega
    · obtain ⟨uq, ucap, rfl, huq⟩ : ∃ uq ucap, u5 = .slice uq j ucap ∧ (0 < j → ∃ g, uq = some ⟨g, 0, none⟩) := by
        have := HW.out
        rw [HL.out] at this
        rcases this.2 with ⟨rfl, h0⟩ | ⟨g, cap, cur, rfl, _⟩
        · rw [h0]; exact ⟨_, _, rfl, fun h => by omega⟩
        · exact ⟨_, _, rfl, fun _ => ⟨g, rfl⟩⟩
      have hz := HO.out.size
      by_cases hj0 : j = 0
      case' pos =>
        have e1 : ¬ ((j : Int) < (n : Int)) := by omega
        have ez : ((j : Int) == 0) = true := by rw [beq_iff_eq]; omega
        clear hj0 hgo hj hj6 HW HV HL huq
        go_wp2_with fail
        have HOW : Hid (Only [] w (wr.alloc (.cells #[.int .i64 0, .int .i64 1, .int .i64 2] 3))) := HO.out.alloc _
        have hhd : Head (wr.alloc (.cells #[.int .i64 0, .int .i64 1, .int .i64 2] 3)) wr.heap.size 3 (intsV [0, 1, 2]) := ⟨_, heap_alloc_new wr _, by simp [intsV], by simp [intsV]⟩
        clear l
        obtain ⟨ss, hss⟩ : ∃ ss : List Int, ss = [0, 1, 2] := ⟨_, rfl⟩
        have hvs : Value.slice (some ⟨wr.heap.size, 0, none⟩) 3 3 = Value.slice (some ⟨wr.heap.size, 0, none⟩) ss.length 3 := by rw [hss]; rfl
        have h1 : 1 ≤ ss.length := by rw [hss]; simp
        have h6 : ss.length ≤ 6 := by rw [hss]; simp
        have HVS : Hid (∀ x ∈ ss, wrongB x = false) := by
          show ∀ x ∈ ss, _
          rw [hss]; decide
        rw [← hss] at hhd
        have HSS : Hid _ := hhd
        rw [hvs]
        clear hhd hss hvs hz HO
        generalize wr.alloc (.cells #[.int .i64 0, .int .i64 1, .int .i64 2] 3) = W at *
      case' neg =>
        obtain ⟨g, rfl⟩ := huq (by omega)
        have HOW : Hid (Only [] w wr) := HO.out
        have HSS : Hid (Head wr g 3 (intsV l)) := ownsRow_head HW.out rfl
        have HVS : Hid (∀ x ∈ l, wrongB x = false) := HV.out
        have ez : ((j : Int) == 0) = false := by rw [beq_eq_false_iff_ne]; omega
        have h1 : 1 ≤ j := by omega
        have h6 : j ≤ 6 := by omega
        have hL := HL.out
        clear HW HV HO HL huq hj0 hz
        subst hL
        by_cases e1 : ((l.length : Int) < (n : Int))
        case' pos => have e2 : ¬ ((l.length : Int) < 6) := by omega
        all_goals
          clear hgo
          go_wp2_with fail
        all_goals generalize l = ss at *
      all_goals
        refine Calls.mono (HPW.out _) ?_
        rintro e w2 ⟨rfl, rfl⟩
        go_wp2_with fail
        refine (new_any _ _ ss (1 + pw) _ HSS.out h1 h6 HVS.out (by omega) (by omega)).mono ?_
        rintro e w2 ⟨P, rfl, hO2, hbl2, hC2⟩
        have HB : Hid (Calls Tryz.prog 23 #[.pointer (some ⟨P.cb, 0, none⟩)] w2 fun e w' => ∃ nv', e = .returned (.tuple #[.int .i64 1, .int .i64 0]) ∧ Only (P.all (.slice none 0 0)) w2 w' ∧ Fresh w2 (.slice none 0 0) nv' ∧ ClAt w' P ss (1 + pw) nv' (Cl.first ss)) := clBegin_any P ss (1 + pw) _ (Cl.new ss.length) w2 hC2 (by omega) (by simp [Cl.new]) (by simp [Cl.new]) (by simp [Cl.new]) (by simp [Cl.new]) (by rw [chosen_all]; simp; omega)
        have HO2 : Hid (Only [] w w2) := HOW.out.trans hO2
        have hzW := HOW.out.size
        have hz2 := hO2.size
        have HBL : Hid (∀ k ∈ P.blocks, w.heap.size ≤ k) := fun k hk => by
          have := hbl2 k hk
          omega
        clear hO2 hbl2 hC2
        go_wp2_with fail
        refine Calls.mono HB.out ?_
        rintro e w3 ⟨nv, rfl, hO3, hF3, hC3⟩
        have hO3' : Only [] w w3 := HO2.out.trans2 hO3 (fun x hx => .inr (HBL.out x (by simpa [ClP.all, Value.ownBlock] using hx)))
        have HNV : Hid (∀ g, nv.ownBlock = some g → w.heap.size ≤ g) := fun g hg => by
          rcases hF3 with h | ⟨g', h, hg'⟩
          · rw [h] at hg; cases hg
          · rw [h] at hg; cases hg; omega
        have HN : Hid _ := clNet_any P ss (1 + pw) nv (Cl.first ss) w3 (HS.out.only0 hO3') hC3 (by rw [first_len ss h6]; omega) (fun m hm => (first_mild ss h6 m hm).1)
        have HC3 : Hid _ := hC3
        have HO3 : Hid _ := hO3'
        clear hO3 hO3' hF3 hC3
        go_wp2_with fail
        refine Calls.mono HN.out ?_
        rintro e w4 ⟨u, rfl, hO4, hown4⟩
        rw [first_len ss h6] at hown4
        obtain ⟨ug, ucap, rfl⟩ : ∃ ug ucap, u = .slice (some ⟨ug, 0, none⟩) ss.length ucap := by
          rcases hown4.2 with ⟨-, h0⟩ | ⟨g, cap, cur, rfl, _⟩
          · omega
          · exact ⟨_, _, rfl⟩
        have hu0 : w4.cell? ⟨ug, 0, none⟩ = some (.string (bs (msgL 1 0 1 1))) := by
          have := World.ownsRow.cells hown4 (g := ug) rfl 0 (.string (bs (msgL 1 0 1 1))) (by simp [textsV, first_msg ss h1 h6, msgB])
          rwa [add0] at this
        have HO4 : Hid (Only [] w w4) := HO3.out.trans hO4
        have HC4 : Hid _ := HC3.out.only0 hO4
        have HD : Hid _ := decode_msg 1 0 1 1 (by decide) (by decide) w4 a (HS.out.only0 HO4.out)
        have i1 : (0 : Int) < (ss.length : Int) := by omega
        clear hown4 hO4
        go_wp2_with fail
        refine Calls.mono HD.out ?_
        rintro e w5 ⟨rfl, hb5⟩
        have hO5 : Only [] w4 (w5.alloc (.cells #[.int .i64 1, .int .i64 0, .int .i64 1, .int .i64 1] 64)) := (Only.of_below hb5).alloc _
        have HO5 : Hid (Only [] w (w5.alloc (.cells #[.int .i64 1, .int .i64 0, .int .i64 1, .int .i64 1] 64))) := HO4.out.trans hO5
        have HC5 : Hid (ClAt (w5.alloc (.cells #[.int .i64 1, .int .i64 0, .int .i64 1, .int .i64 1] 64)) P ss (1 + pw) nv (Cl.first ss)) := HC4.out.only0 hO5
        have HBK : Hid ((w5.alloc (.cells #[.int .i64 1, .int .i64 0, .int .i64 1, .int .i64 1] 64)).heap[w5.heap.size]? = some (.cells #[.int .i64 1, .int .i64 0, .int .i64 1, .int .i64 1] 64 (0, 0))) := heap_alloc_new w5 _
        have HOUT : Hid (Calls Tryz.prog 15 #[.pointer (some ⟨P.cb, 0, none⟩), .int .i64 0, .int .i64 1] (w5.alloc (.cells #[.int .i64 1, .int .i64 0, .int .i64 1, .int .i64 1] 64)) fun e w' => e = .returned (.tuple #[.int .i64 1, .int .i64 0]) ∧ Only [] (w5.alloc (.cells #[.int .i64 1, .int .i64 0, .int .i64 1, .int .i64 1] 64)) w') := by
          have := outcome0_any P ss (1 + pw) nv (Cl.first ss) 1 _ HC5.out (by omega) (Int.le_refl _)
          rwa [first_open] at this
        clear hO5 hb5 hu0
        go_wp2_with fail
        refine Calls.mono HOUT.out ?_
        rintro e w7 ⟨rfl, hO7⟩
        have hbk7 := hO7.at HBK.out (by simp)
        have m0 : w7.cell? ⟨w5.heap.size, 0, none⟩ = some (.int .i64 1) := by rw [cell_of_row _ _ _ _ _ _ hbk7]; rfl
        have m1 : w7.cell? ⟨w5.heap.size, 1, none⟩ = some (.int .i64 0) := by rw [cell_of_row _ _ _ _ _ _ hbk7]; rfl
        have m2 : w7.cell? ⟨w5.heap.size, 2, none⟩ = some (.int .i64 1) := by rw [cell_of_row _ _ _ _ _ _ hbk7]; rfl
        have m3 : w7.cell? ⟨w5.heap.size, 3, none⟩ = some (.int .i64 1) := by rw [cell_of_row _ _ _ _ _ _ hbk7]; rfl
        have HC7 : Hid _ := HC5.out.only0 hO7
        have HO7 : Hid _ := HO5.out.trans hO7
        clear hO7 hbk7
        go_wp2_with fail
        go_ret
        have HCS := game_begins P.cb (ss.length : Int)
        generalize (((Tryz.zeroCells36.setIfInBounds 0 (.pointer (some ⟨P.cb, 0, none⟩))).setIfInBounds 1 (.int .i64 (ss.length : Int))).setIfInBounds 2 (.int .i64 1)) = cs at *
        have hlow := HC7.out.low
        have hz7 := HO7.out.size
        have hO8 : Only [] w7 (w7.alloc (.cells cs 36)) := (Only.refl _ _).alloc _
        have hnvl : ∀ g, nv.ownBlock = some g → g < w7.heap.size := fun g hg => (ownsRow_head HC7.out.net hg).lt
        refine ⟨w7.heap.size, P, ss, nv, cs, rfl, h1, h6, HVS.out, HC7.out.only0 hO8, ⟨heap_alloc_new w7 _, HCS.1, HCS.2.1, HCS.2.2.1, HCS.2.2.2⟩, ?_, ⟨hz7, ?_⟩, HO7.out.trans hO8⟩
        · intro hm
          simp only [ClP.all, List.mem_append, Option.mem_toList] at hm
          rcases hm with hm | hm
          · exact absurd (hlow _ hm) (Nat.lt_irrefl _)
          · exact absurd (hnvl _ hm) (Nat.lt_irrefl _)
        · intro k hk
          simp only [ClP.all, List.mem_append, Option.mem_toList] at hk
          rcases hk with hk | hk
          · exact HBL.out k hk
          · exact HNV.out k hk
end Go.Proofs.YtfpojgljgbgkkaaGreatDoor

/-
  The protocol's run without losses, in small: who knows what of the one transaction.
-/
namespace Go.Proofs.YtfpojgljgbgkkaaGreatDoor

/-- In small: what each participant knows, what the coordinator has open and knows, who has voted yes, who is waited for, what is under way (kind, participant). -/
structure AS where
  kp : List Nat
  oc : Nat
  kc : Nat
  va : List Bool
  aw : List Bool
  net : List (Nat × Nat)
def recA (o : Nat) : Nat := if o = 4 then 3 else 4
def AS.fin (rest new : List (Nat × Nat)) (a : AS) : Option AS := if rest.length + new.length ≤ 100 then some { a with net := rest ++ new } else none
def AS.awd (ask : List Bool) (left : Nat) (a : AS) : List Bool := (List.range a.kp.length).map fun i => a.aw.getD i false || ((i != left) && ask.getD i false)
def AS.dec (ask : List Bool) (o left : Nat) (a : AS) : AS := { a with oc := if (a.awd ask left).all (!·) then 0 else (if o = 4 then 2 else 3), kc := recA o, va := List.replicate a.kp.length false, aw := a.awd ask left }
def AS.decM (o left : Nat) (a : AS) : List (Nat × Nat) := ((List.range a.kp.length).filter fun i => i != left).map fun i => (o, i)
def prepA (nov : List Bool) (i old : Nat) : Nat := if old = 0 then (if nov.getD i false then 4 else 2) else old
def setA (k old : Nat) : Nat := if old = 2 ∨ (old = 0 ∧ k = 5) then recA k else old
def astep (out : Nat) (ask nov : List Bool) (a : AS) : Option AS := match a.net with
  | [] => none
  | (k, i) :: rest =>
    if k = 1 then
      AS.fin rest (if prepA nov i (a.kp.getD i 0) = 2 then [(2, i)] else if prepA nov i (a.kp.getD i 0) = 4 then [(3, i)] else []) { a with kp := a.kp.set i (prepA nov i (a.kp.getD i 0)) }
    else if k = 2 then
      if a.oc = 1 then
        if (a.va.set i true).all id then (if out = 4 then AS.fin rest (a.decM 4 a.kp.length) (AS.dec ask 4 a.kp.length { a with va := a.va.set i true }) else none)
        else AS.fin rest [] { a with va := a.va.set i true }
      else AS.fin rest [] a
    else if k = 3 then
      if a.oc = 1 then (if out = 5 then AS.fin rest (a.decM 5 i) (a.dec ask 5 i) else none)
      else AS.fin rest [] a
    else if k = 6 then
      if 2 ≤ a.oc then AS.fin rest [] { a with aw := a.aw.set i false, oc := if (a.aw.set i false).all (!·) then 0 else a.oc }
      else AS.fin rest [] a
    else if k = out then
      AS.fin rest (if ask.getD i false = true ∧ setA k (a.kp.getD i 0) = recA k then [(6, i)] else []) { a with kp := a.kp.set i (setA k (a.kp.getD i 0)) }
    else none
def arun (out : Nat) (ask nov : List Bool) : Nat → AS → Option AS
  | 0, a => if a.net.isEmpty then some a else none
  | n + 1, a => if a.net.isEmpty then some a else match astep out ask nov a with
    | some a' => arun out ask nov n a'
    | none => none
def ainit (N : Nat) : AS := ⟨List.replicate N 0, 1, 0, List.replicate N false, List.replicate N false, (List.range N).map fun i => (1, i)⟩
def goodA (out : Nat) (a : AS) : Bool := a.kp.all (fun k => k == recA out) && a.oc == 0 && a.kc == recA out
def checkA (N out : Nat) (ask nov : List Bool) : Bool := match arun out ask nov 60 (ainit N) with | some a => goodA out a | none => false
def masks : Nat → List (List Bool)
  | 0 => [[]]
  | n + 1 => (masks n).flatMap fun m => [true :: m, false :: m]
theorem mem_masks : ∀ m : List Bool, m ∈ masks m.length
  | [] => by simp [masks]
  | b :: m => by
    simp only [masks, List.length_cons, List.mem_flatMap]
    exact ⟨m, mem_masks m, by cases b <;> simp⟩
theorem all_checked : ((List.range 6).all fun n => (masks (n + 1)).all fun ask => checkA (n + 1) 4 ask (List.replicate (n + 1) false) && (List.range (n + 1)).all fun r => checkA (n + 1) 5 ask ((List.range (n + 1)).map fun i => i == r)) = true := by kernel_rfl
theorem checked_yes (ask : List Bool) (h1 : 1 ≤ ask.length) (h6 : ask.length ≤ 6) : checkA ask.length 4 ask (List.replicate ask.length false) = true := by
  have h := List.all_eq_true.1 all_checked (ask.length - 1) (by rw [List.mem_range]; omega)
  have e : ask.length - 1 + 1 = ask.length := by omega
  rw [e] at h
  have h2 := List.all_eq_true.1 h ask (mem_masks ask)
  rw [Bool.and_eq_true] at h2
  exact h2.1
theorem checked_no (ask : List Bool) (h1 : 1 ≤ ask.length) (h6 : ask.length ≤ 6) (r : Nat) (hr : r < ask.length) : checkA ask.length 5 ask ((List.range ask.length).map fun i => i == r) = true := by
  have h := List.all_eq_true.1 all_checked (ask.length - 1) (by rw [List.mem_range]; omega)
  have e : ask.length - 1 + 1 = ask.length := by omega
  rw [e] at h
  have h2 := List.all_eq_true.1 h ask (mem_masks ask)
  rw [Bool.and_eq_true] at h2
  exact List.all_eq_true.1 h2.2 r (by rw [List.mem_range]; exact hr)
end Go.Proofs.YtfpojgljgbgkkaaGreatDoor

/-
  The cluster's run is the run in small.
-/
namespace Go.Proofs.YtfpojgljgbgkkaaGreatDoor

theorem mem_addS (p : Int × Int) (x y : Int) (S : List (Int × Int)) : p ∈ addS x y S ↔ p = (x, y) ∨ p ∈ S := by
  unfold addS
  by_cases h : (x, y) ∈ S
  · simp only [h, if_true]
    constructor
    · exact .inr
    · rintro (rfl | h')
      · exact h
      · exact h'
  · simp only [h, if_false, List.mem_append, List.mem_cons, List.not_mem_nil, or_false]
    exact Or.comm
theorem delS_sub (x y : Int) : ∀ S : List (Int × Int), (delS x y S).Sublist S
  | [] => by simp [delS]
  | p :: S => by
    unfold delS
    split
    · exact List.sublist_cons_self _ _
    · exact (delS_sub x y S).cons_cons p
theorem mem_delS (p : Int × Int) (x y : Int) : ∀ S : List (Int × Int), S.Nodup → (p ∈ delS x y S ↔ p ∈ S ∧ p ≠ (x, y))
  | [], _ => by simp [delS]
  | q :: S, hn => by
    rw [List.nodup_cons] at hn
    unfold delS
    split
    · rename_i h
      have hq : q = (x, y) := Prod.ext h.1 h.2
      subst hq
      constructor
      · intro hp
        exact ⟨List.mem_cons_of_mem _ hp, fun e => hn.1 (e ▸ hp)⟩
      · rintro ⟨hp, hne⟩
        rcases List.mem_cons.1 hp with h' | h'
        · exact absurd h' hne
        · exact h'
    · rename_i h
      have hq : q ≠ (x, y) := fun e => h ⟨by rw [e], by rw [e]⟩
      rw [List.mem_cons, mem_delS p x y S hn.2, List.mem_cons]
      constructor
      · rintro (rfl | ⟨h1, h2⟩)
        · exact ⟨.inl rfl, hq⟩
        · exact ⟨.inr h1, h2⟩
      · rintro ⟨rfl | h1, h2⟩
        · exact .inl rfl
        · exact .inr ⟨h1, h2⟩
theorem mem_waits (ss : List Int) (o t : Int) (p : Int × Int) : ∀ (l : List Int) (A : List (Int × Int)), p ∈ waits ss o t A l ↔ p ∈ A ∨ ∃ x ∈ l, presB (ss.getD (x - 1).toNat 0) o = false ∧ p = (x, t)
  | [], A => by simp [waits]
  | x :: l, A => by
    have ih := mem_waits ss o t p l
    simp only [waits, List.foldl_cons] at ih ⊢
    rw [ih]
    cases hb : presB (ss.getD (x - 1).toNat 0) o
    · simp only [Bool.false_eq_true, if_false, mem_addS, List.mem_cons, exists_eq_or_imp, hb, true_and]
      rw [Or.comm (a := p = (x, t)), or_assoc]
    · simp only [if_true, List.mem_cons, exists_eq_or_imp, hb, Bool.true_eq_false, false_and, false_or]
theorem waits_nodup (ss : List Int) (o t : Int) : ∀ (l : List Int) (A : List (Int × Int)), A.Nodup → (waits ss o t A l).Nodup
  | [], A, h => h
  | x :: l, A, h => by
    simp only [waits, List.foldl_cons]
    split
    · exact waits_nodup ss o t l A h
    · exact waits_nodup ss o t l _ (addS_nodup x t A h)
theorem chosen_idx (b : Int → Bool) (N : Nat) : chosen b N = ((List.range N).filter fun (i : Nat) => b ((i : Int) + 1)).map fun (i : Nat) => (i : Int) + 1 := by
  simp only [chosen, List.filter_map, Function.comp_def]
theorem chosen_none (b : Int → Bool) (N : Nat) : (chosen b N).length = 0 ↔ ∀ i : Nat, i < N → b ((i : Int) + 1) = false := by
  rw [chosen_idx, List.length_map, List.length_eq_zero_iff, List.filter_eq_nil_iff]
  simp only [List.mem_range, Bool.not_eq_true]
theorem mem_chosen (b : Int → Bool) (N : Nat) (x : Int) : x ∈ chosen b N ↔ ∃ i : Nat, i < N ∧ b ((i : Int) + 1) = true ∧ x = (i : Int) + 1 := by
  rw [chosen_idx]
  simp only [List.mem_map, List.mem_filter, List.mem_range]
  constructor
  · rintro ⟨i, ⟨h1, h2⟩, rfl⟩; exact ⟨i, h1, h2, rfl⟩
  · rintro ⟨i, h1, h2, rfl⟩; exact ⟨i, ⟨h1, h2⟩, rfl⟩

def openL : Nat → List ((Int × Int) × (Int × Int))
  | 0 => []
  | 1 => [((0, 1), (0, 0))]
  | 2 => [((0, 1), (4, 0))]
  | _ => [((0, 1), (5, 0))]
def msgOf (m : Nat × Nat) : Int × Int × Int × Int := if m.1 = 2 ∨ m.1 = 3 ∨ m.1 = 6 then ((m.1 : Int), (m.2 : Int) + 1, 0, 1) else ((m.1 : Int), 0, (m.2 : Int) + 1, 1)
/-- A cluster and its like in small. -/
structure Rel (ss : List Int) (nov : List Bool) (b : Nat) (c : Cl) (a : AS) : Prop where
  lp : c.ps.length = ss.length
  lk : a.kp.length = ss.length
  lv : a.va.length = ss.length
  la : a.aw.length = ss.length
  kp : ∀ (i : Nat) (v : PV), c.ps[i]? = some v → lookI ((i : Int) + 1) 1 v.p.L = ((a.kp.getD i 0 : Nat) : Int)
  vt : ∀ (i : Nat) (v : PV), c.ps[i]? = some v → (lookI ((i : Int) + 1) 1 v.V = 3 ↔ nov.getD i false = true)
  oc : c.co.O = openL a.oc
  kc : a.kc ≠ 0 → lookI 0 1 c.co.L = (a.kc : Int)
  va : ∀ i : Nat, i < ss.length → (((i : Int) + 1, (1 : Int)) ∈ c.co.V ↔ a.va.getD i false = true)
  aw : ∀ i : Nat, i < ss.length → (((i : Int) + 1, (1 : Int)) ∈ c.co.A ↔ a.aw.getD i false = true)
  net : c.net = a.net.map msgOf
  idx : ∀ m ∈ a.net, m.2 < ss.length ∧ 1 ≤ m.1 ∧ m.1 ≤ 6
  nl : a.net.length ≤ 100
  nv : c.co.V.Nodup
  na : c.co.A.Nodup
  txt : c.co.text.length ≤ b ∧ ∀ v ∈ c.ps, v.p.text.length ≤ b
  bg : c.begun = 1

theorem getD_set_same {α : Type} (l : List α) (i : Nat) (v d : α) (h : i < l.length) : (l.set i v).getD i d = v := by simp [List.getD, h]
theorem getD_set_other {α : Type} (l : List α) (i j : Nat) (v d : α) (h : i ≠ j) : (l.set i v).getD j d = l.getD j d := by simp [List.getD, h]

/-- What is sent behind a message that has arrived. -/
theorem fin_net {rest new : List (Nat × Nat)} {a a' : AS} (hf : AS.fin rest new a = some a') : a' = { a with net := rest ++ new } ∧ rest.length + new.length ≤ 100 := by
  unfold AS.fin at hf
  split at hf
  · exact ⟨(Option.some.inj hf).symm, by assumption⟩
  · cases hf

/-- A participant has turned. -/
theorem Rel.part {ss : List Int} {nov : List Bool} {b : Nat} {c : Cl} {a a' : AS} (h : Rel ss nov b c a) {k i : Nat} {rest new : List (Nat × Nat)} (hn : a.net = (k, i) :: rest) {v : PV} (hv : c.ps[i]? = some v) (p' : PS) (kv : Nat) (hk : lookI ((i : Int) + 1) 1 p'.L = (kv : Int)) (ht : p'.text.length ≤ v.p.text.length + 9) (hf : AS.fin rest new { a with kp := a.kp.set i kv } = some a') (hidx : ∀ m ∈ new, m.2 < ss.length ∧ 1 ≤ m.1 ∧ m.1 ≤ 6) (ms : List (Int × Int × Int × Int)) (hms : ms = new.map msgOf) :
    Rel ss nov (b + 30) (({ c with net := c.net.eraseIdx 0, ps := c.ps.set i ⟨p', v.V⟩ } : Cl).send ms) a' := by
  obtain ⟨rfl, hle⟩ := fin_net hf
  have hil : i < c.ps.length := (List.getElem?_eq_some_iff.1 hv).1
  have hnet : c.net.eraseIdx 0 = rest.map msgOf := by rw [h.net, hn]; rfl
  refine ⟨by simpa [Cl.send] using h.lp, by simpa using h.lk, h.lv, h.la, ?_, ?_, h.oc, h.kc, h.va, h.aw, ?_, ?_, by rw [List.length_append]; exact hle, h.nv, h.na, ⟨Nat.le_trans h.txt.1 (by omega), ?_⟩, h.bg⟩
  · intro j u hu
    simp only [Cl.send, List.getElem?_set] at hu
    by_cases hij : i = j
    · subst hij
      simp only [if_true, hil] at hu
      obtain rfl := Option.some.inj hu
      rw [getD_set_same _ _ _ _ (by rw [h.lk, ← h.lp]; exact hil)]
      exact hk
    · simp only [hij, if_false] at hu
      rw [getD_set_other _ _ _ _ _ hij]
      exact h.kp j u hu
  · intro j u hu
    simp only [Cl.send, List.getElem?_set] at hu
    by_cases hij : i = j
    · subst hij
      simp only [if_true, hil] at hu
      obtain rfl := Option.some.inj hu
      exact h.vt i v hv
    · simp only [hij, if_false] at hu
      exact h.vt j u hu
  · show c.net.eraseIdx 0 ++ List.take (100 - (c.net.eraseIdx 0).length) ms = _
    rw [hnet, hms, List.map_append, List.length_map, List.take_of_length_le (by rw [List.length_map]; omega)]
  · intro m hm
    rcases List.mem_append.1 hm with hm | hm
    · exact h.idx m (by rw [hn]; exact List.mem_cons_of_mem _ hm)
    · exact hidx m hm
  · intro u hu
    rcases List.mem_or_eq_of_mem_set hu with hu | rfl
    · exact Nat.le_trans (h.txt.2 u hu) (by omega)
    · have := h.txt.2 v (List.mem_of_getElem? hv)
      show p'.text.length ≤ _
      omega

theorem sim_prepare {ss : List Int} {out : Nat} {ask nov : List Bool} {b : Nat} {c : Cl} {a a' : AS} (h : Rel ss nov b c a) {i : Nat} {rest : List (Nat × Nat)} (hn : a.net = (1, i) :: rest) (hs : astep out ask nov a = some a') {v : PV} (hv : c.ps[i]? = some v) (s : Int) :
    Rel ss nov (b + 30) (({ c with net := c.net.eraseIdx 0, ps := c.ps.set i ⟨v.p.gets ((i : Int) + 1) s v.V 1 1, v.V⟩ } : Cl).send ((v.p.gets ((i : Int) + 1) s v.V 1 1).sends ((i : Int) + 1) s 1 1)) a' := by
  have hil : i < ss.length := by rw [← h.lp]; exact (List.getElem?_eq_some_iff.1 hv).1
  have hg : v.p.gets ((i : Int) + 1) s v.V 1 1 = v.p.prepare ((i : Int) + 1) 1 v.V := by simp [PS.gets]
  have hsd : ∀ q : PS, q.sends ((i : Int) + 1) s 1 1 = q.says ((i : Int) + 1) 1 := fun q => by simp [PS.sends]
  have hL : lookI ((i : Int) + 1) 1 (v.p.prepare ((i : Int) + 1) 1 v.V).L = ((prepA nov i (a.kp.getD i 0) : Nat) : Int) := by
    have h1 := h.kp i v hv
    have h2 := h.vt i v hv
    unfold PS.prepare prepA
    by_cases h0 : lookI ((i : Int) + 1) 1 v.p.L = 0
    · have h0' : a.kp.getD i 0 = 0 := by rw [h0] at h1; exact_mod_cast h1.symm
      rw [if_pos h0, if_pos h0']
      simp only [PS.vote, lookI_put, voteK]
      by_cases h3 : lookI ((i : Int) + 1) 1 v.V = 3
      · rw [if_pos h3, if_pos (h2.1 h3)]; rfl
      · rw [if_neg h3, if_neg (fun e => h3 (h2.2 e))]; rfl
    · have h0' : a.kp.getD i 0 ≠ 0 := by intro e; rw [e] at h1; exact h0 (by exact_mod_cast h1)
      rw [if_neg h0, if_neg h0']
      exact h1
  have hT : (v.p.prepare ((i : Int) + 1) 1 v.V).text.length ≤ v.p.text.length + 9 := by
    unfold PS.prepare
    split
    · have := recL_len (voteK (lookI ((i : Int) + 1) 1 v.V)) 1
      simp only [PS.vote, List.length_append]; omega
    · omega
  simp only [astep, hn, if_true] at hs
  rw [hg, hsd]
  refine h.part hn hv _ _ hL hT hs ?_ _ ?_
  · intro m hm
    split at hm
    · simp at hm; rw [hm]; exact ⟨hil, by simp, by simp⟩
    · split at hm
      · simp at hm; rw [hm]; exact ⟨hil, by simp, by simp⟩
      · simp at hm
  · unfold PS.says
    rw [hL]
    by_cases e2 : prepA nov i (a.kp.getD i 0) = 2
    · rw [e2]; rfl
    · by_cases e4 : prepA nov i (a.kp.getD i 0) = 4
      · rw [e4]; rfl
      · rw [if_neg e2, if_neg e4, if_neg (by exact_mod_cast e2), if_neg (by exact_mod_cast e4)]
        rfl

theorem sim_settle {ss : List Int} {out : Nat} {ask nov : List Bool} {b : Nat} {c : Cl} {a a' : AS} (h : Rel ss nov b c a) {k i : Nat} {rest : List (Nat × Nat)} (hk : k = 4 ∨ k = 5) (hn : a.net = (k, i) :: rest) (hs : astep out ask nov a = some a') {v : PV} (hv : c.ps[i]? = some v) {s : Int} (hask : ask.getD i false = !presB s (out : Int)) :
    Rel ss nov (b + 30) (({ c with net := c.net.eraseIdx 0, ps := c.ps.set i ⟨v.p.gets ((i : Int) + 1) s v.V (k : Int) 1, v.V⟩ } : Cl).send ((v.p.gets ((i : Int) + 1) s v.V (k : Int) 1).sends ((i : Int) + 1) s (k : Int) 1)) a' := by
  have hil : i < ss.length := by rw [← h.lp]; exact (List.getElem?_eq_some_iff.1 hv).1
  have hkI : (k : Int) = 4 ∨ (k : Int) = 5 := by omega
  have hk1 : ¬ ((k : Int) = 1) := by omega
  have hg : v.p.gets ((i : Int) + 1) s v.V (k : Int) 1 = v.p.settle ((i : Int) + 1) 1 s (k : Int) := by simp [PS.gets, hk1, hkI]
  have hsd : ∀ q : PS, q.sends ((i : Int) + 1) s (k : Int) 1 = q.acks ((i : Int) + 1) 1 s (k : Int) := fun q => by simp [PS.sends, hk1, hkI]
  have hrec : recOfI (k : Int) = ((recA k : Nat) : Int) := by rcases hk with rfl | rfl <;> rfl
  have hL : lookI ((i : Int) + 1) 1 (v.p.settle ((i : Int) + 1) 1 s (k : Int)).L = ((setA k (a.kp.getD i 0) : Nat) : Int) := by
    have h1 := h.kp i v hv
    unfold PS.settle setA
    rw [h1]
    have hw : awaitsB ((a.kp.getD i 0 : Nat) : Int) (k : Int) = true ↔ (a.kp.getD i 0 = 2 ∨ (a.kp.getD i 0 = 0 ∧ k = 5)) := by
      simp only [awaitsB, Bool.or_eq_true, Bool.and_eq_true, beq_iff_eq]
      omega
    by_cases hc : a.kp.getD i 0 = 2 ∨ (a.kp.getD i 0 = 0 ∧ k = 5)
    · rw [if_pos hc, if_pos (hw.2 hc)]
      simp only [lookI_put, hrec]
    · rw [if_neg hc, if_neg (fun e => hc (hw.1 e))]
      exact h1
  have hT : (v.p.settle ((i : Int) + 1) 1 s (k : Int)).text.length ≤ v.p.text.length + 9 := by
    unfold PS.settle
    split
    · have := recL_len (recOfI (k : Int)) 1
      simp only [List.length_append]; omega
    · omega
  have n1 : k ≠ 1 := by omega
  have n2 : k ≠ 2 := by omega
  have n3 : k ≠ 3 := by omega
  have n6 : k ≠ 6 := by omega
  simp only [astep, hn, n1, n2, n3, n6, if_false] at hs
  by_cases ho : k = out
  · rw [if_pos ho] at hs
    rw [hg, hsd]
    refine h.part hn hv _ _ hL hT hs ?_ _ ?_
    · intro m hm
      split at hm
      · simp at hm; rw [hm]; exact ⟨hil, by simp, by simp⟩
      · simp at hm
    · unfold PS.acks
      rw [hL, hrec]
      rw [← ho] at hask
      have e1 : (presB s (k : Int) = false ∧ ((setA k (a.kp.getD i 0) : Nat) : Int) = ((recA k : Nat) : Int)) ↔ (ask.getD i false = true ∧ setA k (a.kp.getD i 0) = recA k) := by
        rw [hask]
        simp only [Bool.not_eq_true', Int.ofNat_inj]
      by_cases hc : ask.getD i false = true ∧ setA k (a.kp.getD i 0) = recA k
      · rw [if_pos hc, if_pos (e1.2 hc)]; rfl
      · rw [if_neg hc, if_neg (fun e => hc (e1.1 e))]; rfl
  · rw [if_neg ho] at hs
    cases hs
end Go.Proofs.YtfpojgljgbgkkaaGreatDoor

/-
  The cluster's run is the run in small: the coordinator.
-/
namespace Go.Proofs.YtfpojgljgbgkkaaGreatDoor

/-- The coordinator has turned. -/
theorem Rel.coord {ss : List Int} {nov : List Bool} {b : Nat} {c : Cl} {a a' : AS} (h : Rel ss nov b c a) {k i : Nat} {rest new : List (Nat × Nat)} (hn : a.net = (k, i) :: rest) (co' : CS) (a1 : AS) (hf : AS.fin rest new a1 = some a') (hkp : a1.kp = a.kp) (hoc : co'.O = openL a1.oc) (hkc : a1.kc ≠ 0 → lookI 0 1 co'.L = (a1.kc : Int))
    (hlv : a1.va.length = ss.length) (hva : ∀ i : Nat, i < ss.length → (((i : Int) + 1, (1 : Int)) ∈ co'.V ↔ a1.va.getD i false = true)) (hla : a1.aw.length = ss.length) (haw : ∀ i : Nat, i < ss.length → (((i : Int) + 1, (1 : Int)) ∈ co'.A ↔ a1.aw.getD i false = true))
    (hnv : co'.V.Nodup) (hna : co'.A.Nodup) (htx : co'.text.length ≤ c.co.text.length + 20) (hidx : ∀ m ∈ new, m.2 < ss.length ∧ 1 ≤ m.1 ∧ m.1 ≤ 6) (ms : List (Int × Int × Int × Int)) (hms : ms = new.map msgOf) :
    Rel ss nov (b + 30) (({ c with net := c.net.eraseIdx 0, co := co' } : Cl).send ms) a' := by
  obtain ⟨rfl, hle⟩ := fin_net hf
  have hnet : c.net.eraseIdx 0 = rest.map msgOf := by rw [h.net, hn]; rfl
  refine ⟨h.lp, by rw [show ({ a1 with net := rest ++ new } : AS).kp = a.kp from hkp]; exact h.lk, hlv, hla, ?_, h.vt, hoc, hkc, hva, haw, ?_, ?_, by rw [List.length_append]; exact hle, hnv, hna, ⟨?_, fun v hv => Nat.le_trans (h.txt.2 v hv) (by omega)⟩, h.bg⟩
  · intro j u hu
    rw [show ({ a1 with net := rest ++ new } : AS).kp = a.kp from hkp]
    exact h.kp j u hu
  · show c.net.eraseIdx 0 ++ List.take (100 - (c.net.eraseIdx 0).length) ms = _
    rw [hnet, hms, List.map_append, List.length_map, List.take_of_length_le (by rw [List.length_map]; omega)]
  · intro m hm
    rcases List.mem_append.1 hm with hm | hm
    · exact h.idx m (by rw [hn]; exact List.mem_cons_of_mem _ hm)
    · exact hidx m hm
  · have := h.txt.1
    show co'.text.length ≤ _
    omega
theorem coll_oc {c : CS} {oc : Nat} (h : c.O = openL oc) : c.coll 1 = true ↔ oc = 1 := by
  unfold CS.coll
  rw [h]
  match oc with
  | 0 => simp [openL, lookM]
  | 1 => simp [openL, lookM]
  | 2 => simp [openL, lookM]
  | n + 3 => simp [openL, lookM]
theorem all_getD (l : List Bool) : l.all id = true ↔ ∀ j : Nat, j < l.length → l.getD j false = true := by
  rw [List.all_eq_true]
  constructor
  · intro h j hj
    rw [List.getD, List.getElem?_eq_getElem hj]
    exact h _ (List.getElem_mem hj)
  · intro h x hx
    obtain ⟨j, hj, rfl⟩ := List.getElem_of_mem hx
    have := h j hj
    rwa [List.getD, List.getElem?_eq_getElem hj] at this
theorem none_getD (l : List Bool) : l.all (!·) = true ↔ ∀ j : Nat, j < l.length → l.getD j false = false := by
  rw [List.all_eq_true]
  constructor
  · intro h j hj
    rw [List.getD, List.getElem?_eq_getElem hj]
    simpa using h _ (List.getElem_mem hj)
  · intro h x hx
    obtain ⟨j, hj, rfl⟩ := List.getElem_of_mem hx
    have := h j hj
    rw [List.getD, List.getElem?_eq_getElem hj] at this
    simpa using this
theorem getD_range {α : Type} (N i : Nat) (f : Nat → α) (d : α) (h : i < N) : ((List.range N).map f).getD i d = f i := by
  simp [List.getD, h]
theorem over_oc (N : Nat) (c : CS) (l : List Bool) (oc : Nat) (hl : l.length = N) (hA : ∀ i : Nat, i < N → (((i : Int) + 1, (1 : Int)) ∈ c.A ↔ l.getD i false = true)) (hO : c.O = openL oc) (h1 : 1 ≤ oc) :
    (c.over N 1).O = openL (if l.all (!·) then 0 else oc) ∧ (c.over N 1).L = c.L ∧ (c.over N 1).V = c.V ∧ (c.over N 1).A = c.A ∧ (c.over N 1).text.length ≤ c.text.length + 9 := by
  have hiff : (chosen (fun x => decide ((x, (1 : Int)) ∈ c.A)) N).length = 0 ↔ l.all (!·) = true := by
    rw [chosen_none, none_getD, hl]
    constructor
    · intro h j hj
      have := h j hj
      rw [decide_eq_false_iff_not, hA j hj] at this
      simpa using this
    · intro h j hj
      rw [decide_eq_false_iff_not, hA j hj, h j hj]
      decide
  unfold CS.over
  by_cases hc : l.all (!·) = true
  · rw [if_pos (hiff.2 hc), if_pos hc]
    refine ⟨?_, rfl, rfl, rfl, ?_⟩
    · show delM 0 1 c.O = _
      rw [hO]
      match oc, h1 with
      | 1, _ => rfl
      | 2, _ => rfl
      | n + 3, _ => rfl
    · have := recL_len 5 1
      simp only [List.length_append]; omega
  · rw [if_neg (fun e => hc (hiff.1 e)), if_neg hc]
    exact ⟨hO, rfl, rfl, rfl, by omega⟩

/-- A decision. -/
theorem dec_sim {ss : List Int} {ask : List Bool} {c : CS} {a : AS} (o : Nat) (ho : o = 4 ∨ o = 5) (left : Nat) (leftI : Int) (hleft : ∀ i : Nat, i < ss.length → ((((i : Int) + 1) != leftI) = (i != left))) (hask : ∀ i : Nat, i < ss.length → ask.getD i false = !presB (ss.getD i 0) (o : Int))
    (hlk : a.kp.length = ss.length) (hO : c.O = openL 1) (hA : ∀ i : Nat, i < ss.length → (((i : Int) + 1, (1 : Int)) ∈ c.A ↔ a.aw.getD i false = true)) (hnv : c.V.Nodup) (hna : c.A.Nodup) :
    (c.dec ss (o : Int) 1 leftI).O = openL (a.dec ask o left).oc ∧ lookI 0 1 (c.dec ss (o : Int) 1 leftI).L = ((a.dec ask o left).kc : Int) ∧ (∀ i : Nat, i < ss.length → (((i : Int) + 1, (1 : Int)) ∈ (c.dec ss (o : Int) 1 leftI).V ↔ (a.dec ask o left).va.getD i false = true)) ∧
    (∀ i : Nat, i < ss.length → (((i : Int) + 1, (1 : Int)) ∈ (c.dec ss (o : Int) 1 leftI).A ↔ (a.dec ask o left).aw.getD i false = true)) ∧ (c.dec ss (o : Int) 1 leftI).V.Nodup ∧ (c.dec ss (o : Int) 1 leftI).A.Nodup ∧ (c.dec ss (o : Int) 1 leftI).text.length ≤ c.text.length + 20 := by
  have hAA : ∀ i : Nat, i < ss.length → (((i : Int) + 1, (1 : Int)) ∈ waits ss (o : Int) 1 c.A (chosen (fun x => x != leftI) ss.length) ↔ (a.awd ask left).getD i false = true) := by
    intro i hi
    rw [mem_waits, AS.awd, getD_range _ _ _ _ (by rw [hlk]; exact hi), hA i hi, Bool.or_eq_true, Bool.and_eq_true]
    constructor
    · rintro (h | ⟨x, hx, hp, he⟩)
      · exact .inl h
      · obtain ⟨j, hj, hb, rfl⟩ := (mem_chosen _ _ _).1 hx
        have hij : i = j := by
          have := (Prod.mk.inj he).1
          omega
        subst hij
        refine .inr ⟨by rw [← hleft i hi]; exact hb, ?_⟩
        rw [hask i hi]
        have e : ((i : Int) + 1 - 1).toNat = i := by omega
        rw [e] at hp
        rw [hp]; rfl
    · rintro (h | ⟨h1, h2⟩)
      · exact .inl h
      · refine .inr ⟨(i : Int) + 1, (mem_chosen _ _ _).2 ⟨i, hi, by rw [hleft i hi]; exact h1, rfl⟩, ?_, rfl⟩
        have e : ((i : Int) + 1 - 1).toNat = i := by omega
        rw [e]
        rw [hask i hi] at h2
        simpa using h2
  have hrec : recOfI (o : Int) = ((recA o : Nat) : Int) := by rcases ho with rfl | rfl <;> rfl
  have hput : ∀ x : CS, x.O = openL 1 → putM 0 1 ((o : Int), 0) x.O = openL (if o = 4 then 2 else 3) := by
    intro x hx
    rw [hx]
    rcases ho with rfl | rfl <;> rfl
  have hlen : (a.awd ask left).length = ss.length := by simp [AS.awd, hlk]
  have hF : ∀ (bb : Bool) (x : CS), (x.forceIf bb).O = x.O ∧ (x.forceIf bb).L = x.L ∧ (x.forceIf bb).V = x.V ∧ (x.forceIf bb).A = x.A ∧ (x.forceIf bb).text = x.text := by
    intro bb x
    unfold CS.forceIf CS.force
    split <;> exact ⟨rfl, rfl, rfl, rfl, rfl⟩
  obtain ⟨f1, f2, f3, f4, f5⟩ := hF ((o : Int) == 4 || decide ((0 : Int) ∈ ss)) (c.put (o : Int) 1)
  have key := over_oc ss.length ({ (((c.put (o : Int) 1).forceIf ((o : Int) == 4 || decide ((0 : Int) ∈ ss))).clear 1) with O := putM 0 1 ((o : Int), 0) (((c.put (o : Int) 1).forceIf ((o : Int) == 4 || decide ((0 : Int) ∈ ss))).clear 1).O, A := waits ss (o : Int) 1 (((c.put (o : Int) 1).forceIf ((o : Int) == 4 || decide ((0 : Int) ∈ ss))).clear 1).A (chosen (fun x => x != leftI) ss.length) } : CS) (a.awd ask left) (if o = 4 then 2 else 3) hlen
    (by
      intro i hi
      show _ ∈ waits ss (o : Int) 1 ((c.put (o : Int) 1).forceIf _).A _ ↔ _
      rw [f4]
      exact hAA i hi)
    (hput (((c.put (o : Int) 1).forceIf ((o : Int) == 4 || decide ((0 : Int) ∈ ss))).clear 1) (by
      show ((c.put (o : Int) 1).forceIf _).O = _
      rw [f1]; exact hO)) (by split <;> omega)
  obtain ⟨k1, k2, k3, k4, k5⟩ := key
  have hdec : c.dec ss (o : Int) 1 leftI = ({ (((c.put (o : Int) 1).forceIf ((o : Int) == 4 || decide ((0 : Int) ∈ ss))).clear 1) with O := putM 0 1 ((o : Int), 0) (((c.put (o : Int) 1).forceIf ((o : Int) == 4 || decide ((0 : Int) ∈ ss))).clear 1).O, A := waits ss (o : Int) 1 (((c.put (o : Int) 1).forceIf ((o : Int) == 4 || decide ((0 : Int) ∈ ss))).clear 1).A (chosen (fun x => x != leftI) ss.length) } : CS).over ss.length 1 := rfl
  rw [hdec, k2, k3, k4]
  refine ⟨k1, ?_, ?_, ?_, ?_, ?_, ?_⟩
  · show lookI 0 1 ((c.put (o : Int) 1).forceIf _).L = _
    rw [f2]
    show lookI 0 1 (putI 0 1 (recOfI (o : Int)) c.L) = _
    rw [lookI_put, hrec]; rfl
  · intro i hi
    have e2 : (a.dec ask o left).va.getD i false = false := by
      show (List.replicate a.kp.length false).getD i false = false
      rw [List.getD, List.getElem?_replicate]; split <;> rfl
    rw [e2]
    show ((i : Int) + 1, (1 : Int)) ∈ List.filter (fun p => !(p.2 == 1)) ((c.put (o : Int) 1).forceIf _).V ↔ _
    simp
  · intro i hi
    show _ ∈ waits ss (o : Int) 1 ((c.put (o : Int) 1).forceIf _).A _ ↔ _
    rw [f4]
    exact hAA i hi
  · show (List.filter (fun p => !(p.2 == 1)) ((c.put (o : Int) 1).forceIf _).V).Nodup
    rw [f3]
    exact List.Nodup.sublist List.filter_sublist hnv
  · show (waits ss (o : Int) 1 ((c.put (o : Int) 1).forceIf _).A _).Nodup
    rw [f4]
    exact waits_nodup ss _ _ _ _ hna
  · refine Nat.le_trans k5 ?_
    show ((c.put (o : Int) 1).forceIf _).text.length + 9 ≤ _
    rw [f5]
    have := recL_len (recOfI (o : Int)) 1
    show (c.text ++ recL (recOfI (o : Int)) 1).length + 9 ≤ _
    rw [List.length_append]; omega
theorem decM_msgs {a : AS} {N o left : Nat} {leftI : Int} (ho : o = 4 ∨ o = 5) (hlk : a.kp.length = N) (hleft : ∀ i : Nat, i < N → ((((i : Int) + 1) != leftI) = (i != left))) : toAll (o : Int) 1 (chosen (fun x => x != leftI) N) = (a.decM o left).map msgOf := by
  rw [chosen_idx, AS.decM, hlk, toAll, List.map_map, List.map_map]
  have e : (List.range N).filter (fun (i : Nat) => (((i : Int) + 1) != leftI)) = (List.range N).filter (fun i => i != left) := List.filter_congr (fun i hi => hleft i (List.mem_range.1 hi))
  rw [e]
  apply List.map_congr_left
  intro i _
  rcases ho with rfl | rfl <;> rfl
theorem decM_idx {a : AS} {N o left : Nat} (ho : o = 4 ∨ o = 5) (hlk : a.kp.length = N) : ∀ m ∈ a.decM o left, m.2 < N ∧ 1 ≤ m.1 ∧ m.1 ≤ 6 := by
  intro m hm
  obtain ⟨i, hi, rfl⟩ := List.mem_map.1 hm
  have := (List.mem_filter.1 hi).1
  rw [hlk, List.mem_range] at this
  exact ⟨this, by show 1 ≤ o; omega, by show o ≤ 6; omega⟩
end Go.Proofs.YtfpojgljgbgkkaaGreatDoor

/-
  The cluster's run is the run in small: what comes to the coordinator; whole runs.
-/
namespace Go.Proofs.YtfpojgljgbgkkaaGreatDoor

theorem sim_yes {ss : List Int} {out : Nat} {ask nov : List Bool} {b : Nat} {c : Cl} {a a' : AS} (h : Rel ss nov b c a) {i : Nat} {rest : List (Nat × Nat)} (hn : a.net = (2, i) :: rest) (hs : astep out ask nov a = some a') (hask : ∀ i : Nat, i < ss.length → ask.getD i false = !presB (ss.getD i 0) (out : Int)) :
    Rel ss nov (b + 30) (({ c with net := c.net.eraseIdx 0, co := c.co.gets ss 2 ((i : Int) + 1) 1 } : Cl).send (c.co.sends ss 2 ((i : Int) + 1) 1)) a' := by
  have hil : i < ss.length := h.idx (2, i) (by rw [hn]; exact List.mem_cons_self) |>.1
  have hno : ¬ ((i : Int) + 1 < 1 ∨ (ss.length : Int) < (i : Int) + 1) := by omega
  have hg : c.co.gets ss 2 ((i : Int) + 1) 1 = c.co.yes ss ((i : Int) + 1) 1 := by rw [CS.gets, if_neg hno]; rfl
  have hsd : c.co.sends ss 2 ((i : Int) + 1) 1 = c.co.yesM ss ((i : Int) + 1) 1 := by rw [CS.sends, if_neg hno]; rfl
  have hcoll := coll_oc h.oc
  rw [hg, hsd]
  simp only [astep, hn, if_true, show ¬ (2 : Nat) = 1 by omega, if_false] at hs
  have hvote : ∀ j : Nat, j < ss.length → (((j : Int) + 1, (1 : Int)) ∈ (c.co.vote ((i : Int) + 1) 1).V ↔ (a.va.set i true).getD j false = true) := by
    intro j hj
    show _ ∈ addS _ _ _ ↔ _
    rw [mem_addS]
    by_cases hij : i = j
    · subst hij
      rw [getD_set_same _ _ _ _ (by rw [h.lv]; exact hil)]
      simp
    · rw [getD_set_other _ _ _ _ _ hij, ← h.va j hj]
      constructor
      · rintro (e | e)
        · have := (Prod.mk.inj e).1; omega
        · exact e
      · exact .inr
  have hvn : (c.co.vote ((i : Int) + 1) 1).V.Nodup := addS_nodup _ _ _ h.nv
  unfold CS.yes CS.yesM
  by_cases hoc : a.oc = 1
  · rw [if_pos hoc] at hs
    rw [if_pos (hcoll.2 hoc), if_pos (hcoll.2 hoc)]
    have hall : (c.co.vote ((i : Int) + 1) 1).all ss.length 1 = true ↔ (a.va.set i true).all id = true := by
      unfold CS.all
      rw [beq_iff_eq, chosen_none, all_getD, List.length_set, h.lv]
      constructor
      · intro hh j hj
        have := hh j hj
        rw [Bool.not_eq_false', decide_eq_true_eq, hvote j hj] at this
        exact this
      · intro hh j hj
        rw [Bool.not_eq_false', decide_eq_true_eq, hvote j hj]
        exact hh j hj
    by_cases hc : (a.va.set i true).all id = true
    · rw [if_pos hc] at hs
      rw [if_pos (hall.2 hc), if_pos (hall.2 hc)]
      by_cases ho : out = 4
      · rw [if_pos ho] at hs
        subst ho
        have hleft : ∀ j : Nat, j < ss.length → ((((j : Int) + 1) != 0) = (j != a.kp.length)) := by
          intro j hj
          have e1 : (((j : Int) + 1) != 0) = true := by rw [bne_iff_ne]; omega
          have e2 : (j != a.kp.length) = true := by rw [bne_iff_ne, h.lk]; omega
          rw [e1, e2]
        obtain ⟨d1, d2, d3, d4, d5, d6, d7⟩ := dec_sim (ss := ss) (ask := ask) (c := c.co.vote ((i : Int) + 1) 1) (a := { a with va := a.va.set i true }) 4 (.inl rfl) a.kp.length 0 hleft hask h.lk (by rw [show (c.co.vote ((i : Int) + 1) 1).O = c.co.O from rfl, h.oc, hoc]) h.aw hvn h.na
        refine h.coord hn _ _ hs rfl d1 (fun _ => d2) ?_ d3 ?_ d4 d5 d6 d7 (decM_idx (.inl rfl) h.lk) _ (decM_msgs (.inl rfl) h.lk hleft)
        · show (List.replicate a.kp.length false).length = _
          rw [List.length_replicate, h.lk]
        · show (AS.awd ask _ _).length = _
          simp [AS.awd, h.lk]
      · rw [if_neg ho] at hs; cases hs
    · rw [if_neg hc] at hs
      rw [if_neg (fun e => hc (hall.1 e)), if_neg (fun e => hc (hall.1 e))]
      exact h.coord hn (c.co.vote ((i : Int) + 1) 1) _ hs rfl h.oc h.kc (by rw [List.length_set]; exact h.lv) hvote h.la h.aw hvn h.na (by show c.co.text.length ≤ _; omega) (by simp) _ rfl
  · rw [if_neg hoc] at hs
    rw [if_neg (fun e => hoc (hcoll.1 e)), if_neg (fun e => hoc (hcoll.1 e))]
    exact h.coord hn _ _ hs rfl h.oc h.kc h.lv h.va h.la h.aw h.nv h.na (by omega) (by simp) _ rfl

theorem sim_no {ss : List Int} {out : Nat} {ask nov : List Bool} {b : Nat} {c : Cl} {a a' : AS} (h : Rel ss nov b c a) {i : Nat} {rest : List (Nat × Nat)} (hn : a.net = (3, i) :: rest) (hs : astep out ask nov a = some a') (hask : ∀ i : Nat, i < ss.length → ask.getD i false = !presB (ss.getD i 0) (out : Int)) :
    Rel ss nov (b + 30) (({ c with net := c.net.eraseIdx 0, co := c.co.gets ss 3 ((i : Int) + 1) 1 } : Cl).send (c.co.sends ss 3 ((i : Int) + 1) 1)) a' := by
  have hil : i < ss.length := h.idx (3, i) (by rw [hn]; exact List.mem_cons_self) |>.1
  have hno : ¬ ((i : Int) + 1 < 1 ∨ (ss.length : Int) < (i : Int) + 1) := by omega
  have hg : c.co.gets ss 3 ((i : Int) + 1) 1 = c.co.no ss ((i : Int) + 1) 1 := by rw [CS.gets, if_neg hno]; rfl
  have hsd : c.co.sends ss 3 ((i : Int) + 1) 1 = c.co.noM ss ((i : Int) + 1) 1 := by rw [CS.sends, if_neg hno]; rfl
  have hcoll := coll_oc h.oc
  rw [hg, hsd]
  simp only [astep, hn, if_true, show ¬ (3 : Nat) = 1 by omega, show ¬ (3 : Nat) = 2 by omega, if_false] at hs
  unfold CS.no CS.noM
  by_cases hoc : a.oc = 1
  · rw [if_pos hoc] at hs
    rw [if_pos (hcoll.2 hoc), if_pos (hcoll.2 hoc)]
    by_cases ho : out = 5
    · rw [if_pos ho] at hs
      subst ho
      have hleft : ∀ j : Nat, j < ss.length → ((((j : Int) + 1) != (i : Int) + 1) = (j != i)) := by
        intro j hj
        by_cases e : j = i
        · subst e; simp
        · have e1 : (((j : Int) + 1) != (i : Int) + 1) = true := by rw [bne_iff_ne]; omega
          have e2 : (j != i) = true := by rw [bne_iff_ne]; exact e
          rw [e1, e2]
      obtain ⟨d1, d2, d3, d4, d5, d6, d7⟩ := dec_sim (ss := ss) (ask := ask) (c := c.co) (a := a) 5 (.inr rfl) i ((i : Int) + 1) hleft hask h.lk (by rw [h.oc, hoc]) h.aw h.nv h.na
      refine h.coord hn _ _ hs rfl d1 (fun _ => d2) ?_ d3 ?_ d4 d5 d6 d7 (decM_idx (.inr rfl) h.lk) _ (decM_msgs (.inr rfl) h.lk hleft)
      · show (List.replicate a.kp.length false).length = _
        rw [List.length_replicate, h.lk]
      · show (AS.awd ask _ _).length = _
        simp [AS.awd, h.lk]
    · rw [if_neg ho] at hs; cases hs
  · rw [if_neg hoc] at hs
    rw [if_neg (fun e => hoc (hcoll.1 e)), if_neg (fun e => hoc (hcoll.1 e))]
    exact h.coord hn _ _ hs rfl h.oc h.kc h.lv h.va h.la h.aw h.nv h.na (by omega) (by simp) _ rfl

theorem sim_ack {ss : List Int} {out : Nat} {ask nov : List Bool} {b : Nat} {c : Cl} {a a' : AS} (h : Rel ss nov b c a) {i : Nat} {rest : List (Nat × Nat)} (hn : a.net = (6, i) :: rest) (hs : astep out ask nov a = some a') :
    Rel ss nov (b + 30) (({ c with net := c.net.eraseIdx 0, co := c.co.gets ss 6 ((i : Int) + 1) 1 } : Cl).send (c.co.sends ss 6 ((i : Int) + 1) 1)) a' := by
  have hil : i < ss.length := h.idx (6, i) (by rw [hn]; exact List.mem_cons_self) |>.1
  have hno : ¬ ((i : Int) + 1 < 1 ∨ (ss.length : Int) < (i : Int) + 1) := by omega
  have hg : c.co.gets ss 6 ((i : Int) + 1) 1 = c.co.ack ss.length ((i : Int) + 1) 1 := by rw [CS.gets, if_neg hno]; rfl
  have hsd : c.co.sends ss 6 ((i : Int) + 1) 1 = [] := by rw [CS.sends, if_neg hno]; rfl
  rw [hg, hsd]
  simp only [astep, hn, if_true, show ¬ (6 : Nat) = 1 by omega, show ¬ (6 : Nat) = 2 by omega, show ¬ (6 : Nat) = 3 by omega, if_false] at hs
  have hcond : ((lookM 0 1 c.co.O).isSome = true ∧ c.co.coll 1 = false) ↔ 2 ≤ a.oc := by
    have hc := coll_oc h.oc
    have h1 : (lookM 0 1 c.co.O).isSome = true ↔ a.oc ≠ 0 := by
      rw [h.oc]
      match a.oc with
      | 0 => simp [openL, lookM]
      | 1 => simp [openL, lookM]
      | 2 => simp [openL, lookM]
      | n + 3 => simp [openL, lookM]
    have h2 : c.co.coll 1 = false ↔ a.oc ≠ 1 := by
      rw [← Bool.not_eq_true, hc]
    rw [h1, h2]; omega
  unfold CS.ack
  by_cases hoc : 2 ≤ a.oc
  · rw [if_pos hoc] at hs
    rw [if_pos (hcond.2 hoc)]
    have hA : ∀ j : Nat, j < ss.length → (((j : Int) + 1, (1 : Int)) ∈ delS ((i : Int) + 1) 1 c.co.A ↔ (a.aw.set i false).getD j false = true) := by
      intro j hj
      rw [mem_delS _ _ _ _ h.na]
      by_cases hij : i = j
      · subst hij
        rw [getD_set_same _ _ _ _ (by rw [h.la]; exact hil)]
        simp
      · rw [getD_set_other _ _ _ _ _ hij, ← h.aw j hj]
        constructor
        · exact fun e => e.1
        · intro e
          refine ⟨e, fun e' => ?_⟩
          have := (Prod.mk.inj e').1; omega
    obtain ⟨k1, k2, k3, k4, k5⟩ := over_oc ss.length ({ c.co with A := delS ((i : Int) + 1) 1 c.co.A } : CS) (a.aw.set i false) a.oc (by rw [List.length_set]; exact h.la) hA h.oc (by omega)
    refine h.coord hn _ _ hs rfl k1 (by rw [k2]; exact h.kc) h.lv (by rw [k3]; exact h.va) (by rw [List.length_set]; exact h.la) (by rw [k4]; exact hA) (by rw [k3]; exact h.nv) (by rw [k4]; exact (List.Nodup.sublist (delS_sub _ _ _) h.na)) ?_ (by simp) _ rfl
    exact Nat.le_trans k5 (by show c.co.text.length + 9 ≤ _; omega)
  · rw [if_neg hoc] at hs
    rw [if_neg (fun e => hoc (hcond.1 e))]
    exact h.coord hn _ _ hs rfl h.oc h.kc h.lv h.va h.la h.aw h.nv h.na (by omega) (by simp) _ rfl

/-- The cluster in which the first transaction has begun, and one participant was told how to vote. -/
theorem rel_first (ss : List Int) (h6 : ss.length ≤ 6) (r : Nat) (hr : r < ss.length) (yes : Bool) (nov : List Bool) (hnov : ∀ i : Nat, i < ss.length → nov.getD i false = (!yes && i == r)) : Rel ss nov 30 ((Cl.first ss).vote r 1 yes) (ainit ss.length) := by
  have hps : (Cl.first ss).ps = List.replicate ss.length ⟨⟨[], 0, []⟩, []⟩ := rfl
  have hpr : (Cl.first ss).ps[r]? = some ⟨⟨[], 0, []⟩, []⟩ := by rw [hps, List.getElem?_replicate, if_pos hr]
  have hv : (Cl.first ss).vote r 1 yes = { Cl.first ss with ps := (Cl.first ss).ps.set r ⟨⟨[], 0, []⟩, putI ((r : Int) + 1) 1 (if yes then 2 else 3) []⟩ } := by
    rw [Cl.vote, hpr]
  have hone : ∀ (i : Nat) (v : PV), ((Cl.first ss).vote r 1 yes).ps[i]? = some v → v.p = ⟨[], 0, []⟩ ∧ i < ss.length ∧ v.V = if i = r then [((((r : Int) + 1), 1), if yes then 2 else 3)] else [] := by
    intro i v hi
    rw [hv] at hi
    simp only [List.getElem?_set] at hi
    by_cases hir : r = i
    · subst hir
      rw [if_pos rfl, if_pos (by rw [hps, List.length_replicate]; exact hr)] at hi
      obtain rfl := Option.some.inj hi
      exact ⟨rfl, hr, by rw [if_pos rfl]; rfl⟩
    · rw [if_neg hir, hps, List.getElem?_replicate] at hi
      split at hi
      · rename_i hlt
        obtain rfl := Option.some.inj hi
        exact ⟨rfl, hlt, by rw [if_neg (fun e => hir e.symm)]⟩
      · cases hi
  have hco : ((Cl.first ss).vote r 1 yes).co = CS.begun ss 1 ⟨[], 0, [], [], [], []⟩ := by rw [hv]; rfl
  have hb : ∀ x : CS, x = CS.begun ss 1 ⟨[], 0, [], [], [], []⟩ → x.O = openL 1 ∧ x.V = [] ∧ x.A = [] ∧ x.text.length ≤ 9 := by
    rintro x rfl
    unfold CS.begun
    split
    · exact ⟨rfl, rfl, rfl, by have := recL_len 1 1; simpa [CS.opened, CS.force, CS.note] using this⟩
    · exact ⟨rfl, rfl, rfl, by simp [CS.opened]⟩
  obtain ⟨b1, b2, b3, b4⟩ := hb _ hco
  have hrep : ∀ (i : Nat), (List.replicate ss.length false).getD i false = false := by
    intro i
    rw [List.getD, List.getElem?_replicate]; split <;> rfl
  refine ⟨by rw [hv]; simp [hps], by simp [ainit], by simp [ainit], by simp [ainit], ?_, ?_, b1, fun h => absurd rfl h, ?_, ?_, ?_, ?_, by simp [ainit]; omega, by rw [b2]; exact List.nodup_nil, by rw [b3]; exact List.nodup_nil, ⟨by omega, ?_⟩, by rw [hv]; rfl⟩
  · intro i v hi
    rw [(hone i v hi).1]
    show (0 : Int) = (((List.replicate ss.length 0).getD i 0 : Nat) : Int)
    have : (List.replicate ss.length 0).getD i 0 = 0 := by
      rw [List.getD, List.getElem?_replicate]; split <;> rfl
    rw [this]; rfl
  · intro i v hi
    obtain ⟨-, hlt, hV⟩ := hone i v hi
    rw [hV, hnov i hlt]
    by_cases hir : i = r
    · subst hir
      cases yes <;> simp [lookI]
    · simp [hir, lookI]
  · intro i hi
    rw [b2]
    show _ ∈ [] ↔ (List.replicate ss.length false).getD i false = true
    rw [hrep]; simp
  · intro i hi
    rw [b3]
    show _ ∈ [] ↔ (List.replicate ss.length false).getD i false = true
    rw [hrep]; simp
  · rw [show ((Cl.first ss).vote r 1 yes).net = (Cl.first ss).net by rw [hv], first_net ss h6]
    simp only [ainit, List.map_map]
    rfl
  · intro m hm
    obtain ⟨i, hi, rfl⟩ := List.mem_map.1 hm
    exact ⟨List.mem_range.1 hi, by simp, by simp⟩
  · intro v hvm
    obtain ⟨i, hi⟩ := List.getElem?_of_mem hvm
    rw [(hone i v hi).1]
    simp
end Go.Proofs.YtfpojgljgbgkkaaGreatDoor
