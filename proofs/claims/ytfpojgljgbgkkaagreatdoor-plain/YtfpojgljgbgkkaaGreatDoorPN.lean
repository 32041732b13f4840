import Derived.Test.YtfpojgljgbgkkaaGreatDoorPM
import Derived.Stop.LaidTwo
import Derived.LaidMore
import Derived.Test.YtfpojgljgbgkkaaGreatDoorTie
import Derived.Test.YtfpojgljgbgkkaaGreatDoorCards
import Derived.ProofKit
import Derived.OpenShut
import Derived.Stop.Joined
import Derived.ShutString
/-
  From the row's condition on the package variables to what the walks ask: six sentinels, each a pointer of its own.
-/
namespace Go.Proofs.YtfpojgljgbgkkaaGreatDoor
open Go.RowKit

theorem Tryz.own : ownKnob Tryz.prog.godebug = none := by kernel_rfl
theorem star : "*" ++ "errors.errorString" = "*errors.errorString" := by decide
theorem rowErr (u : TypeId) (h : Tryz.prog.typeName? 3 u = some "*errors.errorString") : u = 268 :=
  typeName_ptr_named (nm := "errors.errorString") (by rw [star]; kernel_rfl) (by kernel_rfl) (by decide) u (by rw [star]; exact h)
theorem cellsErr : Tryz.prog.cellsOf 320 = 1 := by kernel_rfl

set_option maxRecDepth 100000
theorem one_sentinel {W : World} {g : Nat} {nm : String} {cs : Array Value} {f : Nat} {p : List MemPlace} {text : List UInt8} (hg : Tryz.prog.globalNamed nm = some g) (hv : W.var? Tryz.prog nm = some cs)
    (hd : DataW.trod (fun _ => ()) Tryz.prog W 0 (fun _ => true) false f 114 cs.toList = some (.iface "*errors.errorString" (.ptr (.agg [.lit (.string text)])), p))
    (hrows : ∀ off, MemPlace.cell g off ∈ MemPlace.row ⟨g, 0, none⟩ cs.size → ∀ u v, W.cell? ⟨g, off, none⟩ = some (.iface u v) → Value.okWide Tryz.prog W .any 0 u v) :
    ∃ a : Addr, W.cell? ⟨g, 0, none⟩ = some (.iface 268 (.pointer (some a))) ∧ cs.size = 1 ∧ p = MemPlace.row a 1 := by
  obtain ⟨l⟩ := cs
  have ok : ∀ u v, l = [.iface u v] → Value.okWide Tryz.prog W .any 0 u v := fun u v e => by
    subst e
    exact hrows 0 (by simp [MemPlace.row]) u v (by simpa using World.var?_cell hg hv 0)
  obtain ⟨a, s, rfl, _, _, _, rfl⟩ := errorString_of_trod Tryz.underlying114 rowErr Tryz.underlying268 Tryz.underlying320 rfl rfl Tryz.underlying9 cellsErr cellsStr hd ok
  exact ⟨a, by simpa using World.var?_cell hg hv 0, rfl, rfl⟩

theorem sent_of_laid {W : World} (h : laidMetH Tryz.prog Rows.plainRow.laid W) : ∃ a, Sent W a := by
  rw [MakeChecks.laidMetH_plain _ _ _ (by kernel_rfl)] at h
  obtain ⟨ps, ⟨g0, t0, cs0, f0, p0, q0, hg0, ht0, hv0, hd0, ⟨g1, t1, cs1, f1, p1, q1, hg1, ht1, hv1, hd1, ⟨g2, t2, cs2, f2, p2, q2, hg2, ht2, hv2, hd2, ⟨g3, t3, cs3, f3, p3, q3, hg3, ht3, hv3, hd3, ⟨g4, t4, cs4, f4, p4, q4, hg4, ht4, hv4, hd4, ⟨g5, t5, cs5, f5, p5, q5, hg5, ht5, hv5, hd5, _, e5⟩, e4⟩, e3⟩, e2⟩, e1⟩, e0⟩, hnd, hrows⟩ := h
  obtain rfl := Option.some.inj ((show Tryz.prog.globalNamed _ = some 2 by kernel_rfl).symm.trans hg0)
  obtain rfl := Option.some.inj ((show Tryz.prog.globalNamed _ = some 3 by kernel_rfl).symm.trans hg1)
  obtain rfl := Option.some.inj ((show Tryz.prog.globalNamed _ = some 4 by kernel_rfl).symm.trans hg2)
  obtain rfl := Option.some.inj ((show Tryz.prog.globalNamed _ = some 1 by kernel_rfl).symm.trans hg3)
  obtain rfl := Option.some.inj ((show Tryz.prog.globalNamed _ = some 5 by kernel_rfl).symm.trans hg4)
  obtain rfl := Option.some.inj ((show Tryz.prog.globalNamed _ = some 6 by kernel_rfl).symm.trans hg5)
  obtain rfl := Option.some.inj ((show (Tryz.prog.globals[2]?).map (·.type) = some 114 by kernel_rfl).symm.trans ht0)
  obtain rfl := Option.some.inj ((show (Tryz.prog.globals[3]?).map (·.type) = some 114 by kernel_rfl).symm.trans ht1)
  obtain rfl := Option.some.inj ((show (Tryz.prog.globals[4]?).map (·.type) = some 114 by kernel_rfl).symm.trans ht2)
  obtain rfl := Option.some.inj ((show (Tryz.prog.globals[1]?).map (·.type) = some 114 by kernel_rfl).symm.trans ht3)
  obtain rfl := Option.some.inj ((show (Tryz.prog.globals[5]?).map (·.type) = some 114 by kernel_rfl).symm.trans ht4)
  obtain rfl := Option.some.inj ((show (Tryz.prog.globals[6]?).map (·.type) = some 114 by kernel_rfl).symm.trans ht5)
  subst e5; subst e4; subst e3; subst e2; subst e1; subst e0
  obtain ⟨a0, w0, z0, rfl⟩ := one_sentinel hg0 hv0 hd0 (fun off hm u v hc => (hrows _ off (by simp [hm])).2 u v hc)
  obtain ⟨a1, w1, z1, rfl⟩ := one_sentinel hg1 hv1 hd1 (fun off hm u v hc => (hrows _ off (by simp [hm])).2 u v hc)
  obtain ⟨a2, w2, z2, rfl⟩ := one_sentinel hg2 hv2 hd2 (fun off hm u v hc => (hrows _ off (by simp [hm])).2 u v hc)
  obtain ⟨a3, w3, z3, rfl⟩ := one_sentinel hg3 hv3 hd3 (fun off hm u v hc => (hrows _ off (by simp [hm])).2 u v hc)
  obtain ⟨a4, w4, z4, rfl⟩ := one_sentinel hg4 hv4 hd4 (fun off hm u v hc => (hrows _ off (by simp [hm])).2 u v hc)
  obtain ⟨a5, w5, z5, rfl⟩ := one_sentinel hg5 hv5 hd5 (fun off hm u v hc => (hrows _ off (by simp [hm])).2 u v hc)
  have r0 := (hrows a0.block a0.off (by simp [MemPlace.row])).1
  have r1 := (hrows a1.block a1.off (by simp [MemPlace.row])).1
  have r2 := (hrows a2.block a2.off (by simp [MemPlace.row])).1
  have r3 := (hrows a3.block a3.off (by simp [MemPlace.row])).1
  have r4 := (hrows a4.block a4.off (by simp [MemPlace.row])).1
  have r5 := (hrows a5.block a5.off (by simp [MemPlace.row])).1
  rw [z0, z1, z2, z3, z4, z5] at hnd
  have n01 : a0 ≠ a1 := by rintro rfl; simp [MemPlace.row] at hnd
  have n02 : a0 ≠ a2 := by rintro rfl; simp [MemPlace.row] at hnd
  have n03 : a0 ≠ a3 := by rintro rfl; simp [MemPlace.row] at hnd
  have n04 : a0 ≠ a4 := by rintro rfl; simp [MemPlace.row] at hnd
  have n05 : a0 ≠ a5 := by rintro rfl; simp [MemPlace.row] at hnd
  have n12 : a1 ≠ a2 := by rintro rfl; simp [MemPlace.row] at hnd
  have n13 : a1 ≠ a3 := by rintro rfl; simp [MemPlace.row] at hnd
  have n14 : a1 ≠ a4 := by rintro rfl; simp [MemPlace.row] at hnd
  have n15 : a1 ≠ a5 := by rintro rfl; simp [MemPlace.row] at hnd
  have n23 : a2 ≠ a3 := by rintro rfl; simp [MemPlace.row] at hnd
  have n24 : a2 ≠ a4 := by rintro rfl; simp [MemPlace.row] at hnd
  have n25 : a2 ≠ a5 := by rintro rfl; simp [MemPlace.row] at hnd
  have n34 : a3 ≠ a4 := by rintro rfl; simp [MemPlace.row] at hnd
  have n35 : a3 ≠ a5 := by rintro rfl; simp [MemPlace.row] at hnd
  have n45 : a4 ≠ a5 := by rintro rfl; simp [MemPlace.row] at hnd
  refine ⟨fun i => match i with | 0 => a0 | 1 => a1 | 2 => a2 | 3 => a3 | 4 => a4 | _ => a5, ⟨w0, w1, w2, w3, w4, w5, ?_, ?_⟩⟩
  · intro i hi
    match i, hi with
    | 0, _ => exact r0
    | 1, _ => exact r1
    | 2, _ => exact r2
    | 3, _ => exact r3
    | 4, _ => exact r4
    | 5, _ => exact r5
  · intro i j hi hj hij
    match i, hi, j, hj with
    | 0, _, 0, _ => exact absurd rfl hij
    | 0, _, 1, _ => exact n01
    | 0, _, 2, _ => exact n02
    | 0, _, 3, _ => exact n03
    | 0, _, 4, _ => exact n04
    | 0, _, 5, _ => exact n05
    | 1, _, 0, _ => exact Ne.symm n01
    | 1, _, 1, _ => exact absurd rfl hij
    | 1, _, 2, _ => exact n12
    | 1, _, 3, _ => exact n13
    | 1, _, 4, _ => exact n14
    | 1, _, 5, _ => exact n15
    | 2, _, 0, _ => exact Ne.symm n02
    | 2, _, 1, _ => exact Ne.symm n12
    | 2, _, 2, _ => exact absurd rfl hij
    | 2, _, 3, _ => exact n23
    | 2, _, 4, _ => exact n24
    | 2, _, 5, _ => exact n25
    | 3, _, 0, _ => exact Ne.symm n03
    | 3, _, 1, _ => exact Ne.symm n13
    | 3, _, 2, _ => exact Ne.symm n23
    | 3, _, 3, _ => exact absurd rfl hij
    | 3, _, 4, _ => exact n34
    | 3, _, 5, _ => exact n35
    | 4, _, 0, _ => exact Ne.symm n04
    | 4, _, 1, _ => exact Ne.symm n14
    | 4, _, 2, _ => exact Ne.symm n24
    | 4, _, 3, _ => exact Ne.symm n34
    | 4, _, 4, _ => exact absurd rfl hij
    | 4, _, 5, _ => exact n45
    | 5, _, 0, _ => exact Ne.symm n05
    | 5, _, 1, _ => exact Ne.symm n15
    | 5, _, 2, _ => exact Ne.symm n25
    | 5, _, 3, _ => exact Ne.symm n35
    | 5, _, 4, _ => exact Ne.symm n45
    | 5, _, 5, _ => exact absurd rfl hij
end Go.Proofs.YtfpojgljgbgkkaaGreatDoor

/-
  The statement on Plain: its row, its tied card.
-/
namespace Go.Proofs.YtfpojgljgbgkkaaGreatDoor
open Go.ChangeShapes Go.WideShapes Go.ChangeAt Go.RowKit Go.ChangeMaps

theorem door_met_p (os : Os) (args : Array Value) : laidMetH Tryz.prog Rows.plainRow.laid ((World.doorLaid Tryz.prog 400 os).forCall (fun _ _ => 0) ⟨#[], args, []⟩).memory :=
  laidMetH_of_parts3 (fuel := 8) (laidMet_of_run' 8 (by kernel_rfl) (by kernel_rfl)) (by kernel_rfl) (by kernel_rfl)
theorem int_bd {n : Int} (h : (Lit.int .i64 n).wf = true) : -9223372036854775808 ≤ n ∧ n ≤ 9223372036854775807 := bounds_i64 h
theorem laidOut : laidOutB Tryz.prog = true := by kernel_rfl

set_option maxRecDepth 100000 in
theorem plain_lifted (os : Os) (started : os.Started) (H : Type) (enc : TypeId × Value → H) :
    ReturnsInHanded {} Tryz.checked os 4 .any (fun w args => (Rows.plainSpec.pre enc Tryz.prog Tryz.f4 [] false w args ∧ laidMetH Tryz.prog Rows.plainRow.laid w) ∧ sizedMet enc Tryz.prog Tryz.f4 (OpenSpec.ofChange Rows.plainSpec) false w args)
      (Rows.plainSpec.post enc Tryz.prog Tryz.f4 false true false false) := by
  refine returnsInHanded_of_change_and (C := Tryz.checked) (X := fun w _ => laidMetH Tryz.prog Rows.plainRow.laid w) (fun _ _ _ hh h => h.of_heap hh) Tryz.own started (by kernel_rfl) Tryz.func4
    (ChangeSpec.witness_shaped (enc := enc) (C := Tryz.checked) (os := os) (X := fun w _ => laidMetH Tryz.prog Rows.plainRow.laid w) false (World.doorLaid Tryz.prog 400 os) #[.slice none 0 0, .int .i64 0, .int .i64 0] 8 rfl (World.shaped_of_RefB (by kernel_rfl) (by kernel_rfl)) (by kernel_rfl) (by kernel_rfl) (by kernel_rfl) (door_met_p os _)) ?_
  intro W base args ds gs before hval0 hW _ _ hL _
  have hval : ∀ (j : Nat) t v, Tryz.f4.params[j]? = some t → args[j]? = some v → Value.okWide Tryz.prog W .any base t v := hval0
  have hW' := hW
  obtain ⟨p, q, hA0, hV, rfl, hfz, hnd⟩ := hW
  have hA : DataW.TrodAll enc Tryz.prog W 0 (fun _ => true) true Tryz.f4.params.toList args.toList ds p := hA0
  rw [Tryz.params4] at hA hval
  obtain ⟨v0, vs0, d0, ds0, p0, q0, hargs, rfl, rfl, h0, r0⟩ := trodAll_cons hA
  obtain ⟨v1, vs1, d1, ds1, p1, q1, rfl, rfl, rfl, h1, r1⟩ := trodAll_cons r0
  obtain ⟨v2, vs2, d2, ds2, p2, q2, rfl, rfl, rfl, h2, r2⟩ := trodAll_cons r1
  obtain ⟨rfl, rfl, rfl⟩ := trodAll_nil r2
  obtain rfl : args = #[v0, v1, v2] := by
    apply Array.ext'
    simpa using hargs
  obtain ⟨rfl, rfl⟩ := trodVars_none hV
  obtain ⟨no, rfl, rfl, rfl, w1⟩ := open_int Tryz.underlying3 (hval 1 3 v1 rfl rfl) h1
  obtain ⟨votes, rfl, rfl, rfl, w2⟩ := open_int Tryz.underlying3 (hval 2 3 v2 rfl rfl) h2
  obtain ⟨ao, len, cap, rfl⟩ := okWide_slice Tryz.underlying26 (hval 0 26 v0 rfl rfl)
  have h0' := h0
  obtain ⟨a, hS⟩ := sent_of_laid hL
  simp only [List.append_nil] at hW'
  have hlt : ∀ x ∈ p0, x.block < W.heap.size := fun x hx => hW'.lt x (by simpa using hx)
  have hts : len ≤ 9223372036854775807 ∧ ∀ k, k < len → ∃ tb toff z, ao = some ⟨tb, toff, none⟩ ∧ tb < W.heap.size ∧ W.cell? ⟨tb, toff + k, none⟩ = some (.int .i64 z) ∧ -9223372036854775808 ≤ z ∧ z ≤ 9223372036854775807 := by
    obtain ⟨fuel, hf⟩ := h0
    rcases open_ints Tryz.underlying26 Tryz.underlying3 cellsInt2 hf with ⟨hcs, _⟩ | ⟨ad, len', cap', zs, hcs, _, hl, hm, hz, _, hcell, hwz⟩
    · simp [Value.cells] at hcs
      obtain ⟨_, rfl, _⟩ := hcs
      exact ⟨by omega, fun k hk => by omega⟩
    · simp [Value.cells] at hcs
      obtain ⟨rfl, rfl, rfl⟩ := hcs
      unfold maxLen at hm
      refine ⟨by omega, fun k hk => ?_⟩
      simp at hz
      obtain ⟨tb, toff, rfl, hc⟩ := ints_at hcell (by omega)
      have hk' : k < zs.length := by omega
      have hck := hc k hk'
      have hw := int_bd (hwz (zs.getD k 0) (by simp [List.getElem?_eq_getElem hk']))
      exact ⟨tb, toff, _, rfl, cell_block hck, hck, hw.1, hw.2⟩
  refine (plain_walk ao len cap no votes W hS (int_bd w1).1 (int_bd w1).2 (int_bd w2).1 (int_bd w2).2 hts.1 hts.2).mono fun e W' ⟨he, hb⟩ => ?_
  subst he
  have e1 : Rows.plainSpec.fn H ([d0, .lit (.int .i64 no), .lit (.int .i64 votes)] ++ []) = { results := [.lit (.bool true)], args := [d0, .lit (.int .i64 no), .lit (.int .i64 votes)] } := by simp [Rows.plainSpec]
  refine ⟨_, rfl, _, _, _, [], p0, [], hW', ?_, ?_, ?_, hb.frame _, fun h => by cases h⟩
  · rw [e1]; exact trodAll_mk1 (shut_bool Tryz.underlying4 true)
  · rw [e1]
    have hk := Below.trod laidOut (by kernel_rfl) (of_decide_eq_true (by kernel_rfl)) h0' hb hlt
    have := trodAll_cons_mk hk (trodAll_cons_mk (shut_int Tryz.underlying3 w1) (trodAll_cons_mk (shut_int Tryz.underlying3 w2) trodAll_mk0))
    simp only [List.append_nil] at this
    exact this
  · rw [e1]; rfl

theorem plain_holds : Rows.PlainSaid :=
  OpenClaim.holds_of_wide 4 Tryz.f4 rfl rfl rfl rfl rfl rfl rfl ⟨rfl, rfl, rfl, rfl, rfl⟩ rfl rfl rfl rfl rfl (by kernel_rfl) Tryz.func4 (by kernel_rfl)
    (of_decide_eq_true (by kernel_rfl)) (by unfold Func.isWrapper; rw [if_neg (of_decide_eq_false (by kernel_rfl))]; exact ⟨rfl, rfl⟩)
    (fun os started H enc _ => plain_lifted os started H enc)

theorem plain_looks : ∀ f fn, Tryz.pinned.checked.prog.funcNamed Rows.plainRow.func = some f → Tryz.pinned.checked.prog.funcs[f]? = some fn → true = Tryz.pinned.checked.prog.looks [] ∧ ∀ (j : Nat) t, fn.params[j]? = some t → Tryz.pinned.checked.prog.wantsStandIn t = false :=
  fun f fn hf hfn => by
    obtain rfl : f = 4 := Option.some.inj ((show Tryz.prog.funcNamed _ = some 4 by kernel_rfl).symm.trans hf) |>.symm
    obtain rfl : fn = Tryz.f4 := (Option.some.inj (Tryz.func4.symm.trans hfn)).symm
    exact ⟨by kernel_rfl, fun j t ht => by
      rw [Tryz.params4] at ht
      have hi : Tryz.prog.wantsStandIn 3 = false := by kernel_rfl
      have hl : Tryz.prog.wantsStandIn 26 = false := by kernel_rfl
      rcases j with _ | _ | _ | j
      · obtain rfl : 26 = t := by simpa using ht
        exact hl
      · obtain rfl : 3 = t := by simpa using ht
        exact hi
      · obtain rfl : 3 = t := by simpa using ht
        exact hi
      · simp at ht⟩

theorem plain_card_holds : Rows.PlainCardSaid :=
  ⟨Claim7.tied_new_at .later [.sentinel, .sentinel, .sentinel, .sentinel, .sentinel, .sentinel] true (Claim7.new_of_sixth plain_holds (true, "363913392640d4455b2a41d44ac83dc4c8b4f74375319a1ea69f19f6ea7cb606") true rfl ⟨rfl, rfl⟩ (by kernel_rfl) rfl plain_looks) (by kernel_rfl), (fun _ h => by cases h), plain_row_tie, (fun h => by cases h), by kernel_rfl⟩
#print axioms plain_card_holds
end Go.Proofs.YtfpojgljgbgkkaaGreatDoor
