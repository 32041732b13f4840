/-
  From the row's condition on the package variables to what the walks ask: six sentinels, each a pointer of its own.
-/
import Derived.Test.YtfpojgljgbgkkaaDoorIs
import Derived.Stop.LaidTwo
import Derived.LaidMore
namespace Go.Proofs.YtfpojgljgbgkkaaDoor
open Go.RowKit

theorem Tryd.own : ownKnob Tryd.prog.godebug = none := by kernel_rfl
theorem star : "*" ++ "errors.errorString" = "*errors.errorString" := by decide
theorem rowErr (u : TypeId) (h : Tryd.prog.typeName? 3 u = some "*errors.errorString") : u = 118 :=
  typeName_ptr_named (nm := "errors.errorString") (by rw [star]; kernel_rfl) (by kernel_rfl) (by decide) u (by rw [star]; exact h)
theorem cellsErr : Tryd.prog.cellsOf 139 = 1 := by kernel_rfl
theorem cellsStr : Tryd.prog.cellsOf 9 = 1 := by kernel_rfl

set_option maxRecDepth 100000
theorem one_sentinel {W : World} {g : Nat} {nm : String} {cs : Array Value} {f : Nat} {p : List MemPlace} {text : List UInt8} (hg : Tryd.prog.globalNamed nm = some g) (hv : W.var? Tryd.prog nm = some cs)
    (hd : DataW.trod (fun _ => ()) Tryd.prog W 0 (fun _ => true) false f 48 cs.toList = some (.iface "*errors.errorString" (.ptr (.agg [.lit (.string text)])), p))
    (hrows : ∀ off, MemPlace.cell g off ∈ MemPlace.row ⟨g, 0, none⟩ cs.size → ∀ u v, W.cell? ⟨g, off, none⟩ = some (.iface u v) → Value.okWide Tryd.prog W .any 0 u v) :
    ∃ a : Addr, W.cell? ⟨g, 0, none⟩ = some (.iface 118 (.pointer (some a))) ∧ cs.size = 1 ∧ p = MemPlace.row a 1 := by
  obtain ⟨l⟩ := cs
  have ok : ∀ u v, l = [.iface u v] → Value.okWide Tryd.prog W .any 0 u v := fun u v e => by
    subst e
    exact hrows 0 (by simp [MemPlace.row]) u v (by simpa using World.var?_cell hg hv 0)
  obtain ⟨a, s, rfl, _, _, _, rfl⟩ := errorString_of_trod Tryd.underlying48 rowErr Tryd.underlying118 Tryd.underlying139 rfl rfl Tryd.underlying9 cellsErr cellsStr hd ok
  exact ⟨a, by simpa using World.var?_cell hg hv 0, rfl, rfl⟩

theorem sent_of_laid {W : World} (h : laidMetH Tryd.prog Rows.messagesRow.laid W) : ∃ a, Sent W a := by
  rw [MakeChecks.laidMetH_plain _ _ _ (by kernel_rfl)] at h
  obtain ⟨ps, ⟨g0, t0, cs0, f0, p0, q0, hg0, ht0, hv0, hd0, ⟨g1, t1, cs1, f1, p1, q1, hg1, ht1, hv1, hd1, ⟨g2, t2, cs2, f2, p2, q2, hg2, ht2, hv2, hd2, ⟨g3, t3, cs3, f3, p3, q3, hg3, ht3, hv3, hd3, ⟨g4, t4, cs4, f4, p4, q4, hg4, ht4, hv4, hd4, ⟨g5, t5, cs5, f5, p5, q5, hg5, ht5, hv5, hd5, _, e5⟩, e4⟩, e3⟩, e2⟩, e1⟩, e0⟩, hnd, hrows⟩ := h
  obtain rfl := Option.some.inj ((show Tryd.prog.globalNamed _ = some 0 by kernel_rfl).symm.trans hg0)
  obtain rfl := Option.some.inj ((show Tryd.prog.globalNamed _ = some 1 by kernel_rfl).symm.trans hg1)
  obtain rfl := Option.some.inj ((show Tryd.prog.globalNamed _ = some 2 by kernel_rfl).symm.trans hg2)
  obtain rfl := Option.some.inj ((show Tryd.prog.globalNamed _ = some 3 by kernel_rfl).symm.trans hg3)
  obtain rfl := Option.some.inj ((show Tryd.prog.globalNamed _ = some 4 by kernel_rfl).symm.trans hg4)
  obtain rfl := Option.some.inj ((show Tryd.prog.globalNamed _ = some 6 by kernel_rfl).symm.trans hg5)
  obtain rfl := Option.some.inj ((show (Tryd.prog.globals[0]?).map (·.type) = some 48 by kernel_rfl).symm.trans ht0)
  obtain rfl := Option.some.inj ((show (Tryd.prog.globals[1]?).map (·.type) = some 48 by kernel_rfl).symm.trans ht1)
  obtain rfl := Option.some.inj ((show (Tryd.prog.globals[2]?).map (·.type) = some 48 by kernel_rfl).symm.trans ht2)
  obtain rfl := Option.some.inj ((show (Tryd.prog.globals[3]?).map (·.type) = some 48 by kernel_rfl).symm.trans ht3)
  obtain rfl := Option.some.inj ((show (Tryd.prog.globals[4]?).map (·.type) = some 48 by kernel_rfl).symm.trans ht4)
  obtain rfl := Option.some.inj ((show (Tryd.prog.globals[6]?).map (·.type) = some 48 by kernel_rfl).symm.trans ht5)
  subst e5; subst e4; subst e3; subst e2; subst e1; subst e0
  obtain ⟨a0, w0, z0, rfl⟩ := one_sentinel hg0 hv0 hd0 (fun off hm u v hc => (hrows _ off (by simp [hm])).2 u v hc)
  obtain ⟨a1, w1, z1, rfl⟩ := one_sentinel hg1 hv1 hd1 (fun off hm u v hc => (hrows _ off (by simp [hm])).2 u v hc)
  obtain ⟨a2, w2, z2, rfl⟩ := one_sentinel hg2 hv2 hd2 (fun off hm u v hc => (hrows _ off (by simp [hm])).2 u v hc)
  obtain ⟨a3, w3, z3, rfl⟩ := one_sentinel hg3 hv3 hd3 (fun off hm u v hc => (hrows _ off (by simp [hm])).2 u v hc)
  obtain ⟨a4, w4, z4, rfl⟩ := one_sentinel hg4 hv4 hd4 (fun off hm u v hc => (hrows _ off (by simp [hm])).2 u v hc)
  obtain ⟨a5, w5, z5, rfl⟩ := one_sentinel hg5 hv5 hd5 (fun off hm u v hc => (hrows _ off (by simp [hm])).2 u v hc)
  have r0 := (hrows a0.block a0.off (by simp [MemPlace.row])).1
  have r1 := (hrows a1.block a1.off (by simp [MemPlace.row])).1
  have r2 := (hrows a2.block a2.off (by simp [MemPlace.row])).1
  have r3 := (hrows a3.block a3.off (by simp [MemPlace.row])).1
  have r4 := (hrows a4.block a4.off (by simp [MemPlace.row])).1
  have r5 := (hrows a5.block a5.off (by simp [MemPlace.row])).1
  rw [z0, z1, z2, z3, z4, z5] at hnd
  have n01 : a0 ≠ a1 := by rintro rfl; simp [MemPlace.row] at hnd
  have n02 : a0 ≠ a2 := by rintro rfl; simp [MemPlace.row] at hnd
  have n03 : a0 ≠ a3 := by rintro rfl; simp [MemPlace.row] at hnd
  have n04 : a0 ≠ a4 := by rintro rfl; simp [MemPlace.row] at hnd
  have n05 : a0 ≠ a5 := by rintro rfl; simp [MemPlace.row] at hnd
  have n12 : a1 ≠ a2 := by rintro rfl; simp [MemPlace.row] at hnd
  have n13 : a1 ≠ a3 := by rintro rfl; simp [MemPlace.row] at hnd
  have n14 : a1 ≠ a4 := by rintro rfl; simp [MemPlace.row] at hnd
  have n15 : a1 ≠ a5 := by rintro rfl; simp [MemPlace.row] at hnd
  have n23 : a2 ≠ a3 := by rintro rfl; simp [MemPlace.row] at hnd
  have n24 : a2 ≠ a4 := by rintro rfl; simp [MemPlace.row] at hnd
  have n25 : a2 ≠ a5 := by rintro rfl; simp [MemPlace.row] at hnd
  have n34 : a3 ≠ a4 := by rintro rfl; simp [MemPlace.row] at hnd
  have n35 : a3 ≠ a5 := by rintro rfl; simp [MemPlace.row] at hnd
  have n45 : a4 ≠ a5 := by rintro rfl; simp [MemPlace.row] at hnd
  refine ⟨fun i => match i with | 0 => a0 | 1 => a1 | 2 => a2 | 3 => a3 | 4 => a4 | _ => a5, ⟨w0, w1, w2, w3, w4, w5, ?_, ?_⟩⟩
  · intro i hi
    match i, hi with
    | 0, _ => exact r0
    | 1, _ => exact r1
    | 2, _ => exact r2
    | 3, _ => exact r3
    | 4, _ => exact r4
    | 5, _ => exact r5
  · intro i j hi hj hij
    match i, hi, j, hj with
    | 0, _, 0, _ => exact absurd rfl hij
    | 0, _, 1, _ => exact n01
    | 0, _, 2, _ => exact n02
    | 0, _, 3, _ => exact n03
    | 0, _, 4, _ => exact n04
    | 0, _, 5, _ => exact n05
    | 1, _, 0, _ => exact Ne.symm n01
    | 1, _, 1, _ => exact absurd rfl hij
    | 1, _, 2, _ => exact n12
    | 1, _, 3, _ => exact n13
    | 1, _, 4, _ => exact n14
    | 1, _, 5, _ => exact n15
    | 2, _, 0, _ => exact Ne.symm n02
    | 2, _, 1, _ => exact Ne.symm n12
    | 2, _, 2, _ => exact absurd rfl hij
    | 2, _, 3, _ => exact n23
    | 2, _, 4, _ => exact n24
    | 2, _, 5, _ => exact n25
    | 3, _, 0, _ => exact Ne.symm n03
    | 3, _, 1, _ => exact Ne.symm n13
    | 3, _, 2, _ => exact Ne.symm n23
    | 3, _, 3, _ => exact absurd rfl hij
    | 3, _, 4, _ => exact n34
    | 3, _, 5, _ => exact n35
    | 4, _, 0, _ => exact Ne.symm n04
    | 4, _, 1, _ => exact Ne.symm n14
    | 4, _, 2, _ => exact Ne.symm n24
    | 4, _, 3, _ => exact Ne.symm n34
    | 4, _, 4, _ => exact absurd rfl hij
    | 4, _, 5, _ => exact n45
    | 5, _, 0, _ => exact Ne.symm n05
    | 5, _, 1, _ => exact Ne.symm n15
    | 5, _, 2, _ => exact Ne.symm n25
    | 5, _, 3, _ => exact Ne.symm n35
    | 5, _, 4, _ => exact Ne.symm n45
    | 5, _, 5, _ => exact absurd rfl hij
end Go.Proofs.YtfpojgljgbgkkaaDoor
