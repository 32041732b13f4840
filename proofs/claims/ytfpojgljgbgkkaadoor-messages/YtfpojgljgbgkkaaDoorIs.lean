/-
  errors.Is at an error with a place (one Unwrap) and at nil, the target a sentinel; accord.errno out of it.
-/
import Derived.Test.YtfpojgljgbgkkaaDoorLeaf
import Derived.LaidEql
import Derived.Stop.Asserts
import Derived.RowKitTokens
namespace Go.Proofs.YtfpojgljgbgkkaaDoor
open Go.RowKit Go.Extern.Stop Go.Stop Go.Extern

theorem isTypeOf (v : Value) (w : World) : (callFunc 45 #[.iface 118 v]).run Tryd.prog w = .ok (.value (.iface 101 (.agg #[.pointer (some ⟨7, 118, none⟩)]))) w :=
  (@run_callFunc_extern Tryd.prog 45 _ Extern.ReflectliteType.typeOf Tryd.func45 (by kernel_rfl) (by kernel_rfl) (by kernel_rfl) (by kernel_rfl) _ w).trans (by kernel_rfl)
theorem isComparable (w : World) : (callFunc 78 #[.agg #[.pointer (some ⟨7, 118, none⟩)]]).run Tryd.prog w = .ok (.value (.bool true)) w :=
  (@run_callFunc_extern Tryd.prog 78 _ (Extern.ReflectliteType.method fun t => do Extern.Rtype.noPackHeld "Comparable" t; pure (.bool (← typeInfo t).comparable)) Tryd.func78 (by kernel_rfl) (by kernel_rfl) (by kernel_rfl) (by kernel_rfl) _ w).trans (by kernel_rfl)
theorem isMethodComparable (v : Value) (w : World) : (Go.method 251 101 v "Comparable").run Tryd.prog w = .ok (78, v) w := by kernel_rfl
theorem isComp : (Tryd.prog.info? 118).map (·.comparable) = some true := by kernel_rfl
theorem isSize : (Tryd.prog.info? 139).map (·.size) = some 1 := by kernel_rfl
theorem noIsE (v : Value) (xT : TypeId) (w : World) : (Instr.typeAssert (.iface 118 v) xT 115 true).run Tryd.prog w = .ok (.tuple #[.nilIface, .bool false]) w := run_typeAssert_lacksB Tryd.underlying115 (by kernel_rfl) (by kernel_rfl) v xT w
theorem noUnwrapE (v : Value) (xT : TypeId) (w : World) : (Instr.typeAssert (.iface 118 v) xT 108 true).run Tryd.prog w = .ok (.tuple #[.nilIface, .bool false]) w := run_typeAssert_lacksB Tryd.underlying108 (by kernel_rfl) (by kernel_rfl) v xT w
theorem noUnwrapsE (v : Value) (xT : TypeId) (w : World) : (Instr.typeAssert (.iface 118 v) xT 110 true).run Tryd.prog w = .ok (.tuple #[.nilIface, .bool false]) w := run_typeAssert_lacksB Tryd.underlying110 (by kernel_rfl) (by kernel_rfl) v xT w
theorem noIsW (v : Value) (xT : TypeId) (w : World) : (Instr.typeAssert (.iface 91 v) xT 115 true).run Tryd.prog w = .ok (.tuple #[.nilIface, .bool false]) w := run_typeAssert_lacksB Tryd.underlying115 (by kernel_rfl) (by kernel_rfl) v xT w
theorem hasUnwrapW (v : Value) (xT : TypeId) (w : World) : (Instr.typeAssert (.iface 91 v) xT 108 true).run Tryd.prog w = .ok (.tuple #[.iface 91 v, .bool true]) w := run_typeAssert_hasB Tryd.underlying108 (by kernel_rfl) v xT w
theorem methodUnwrap (v : Value) (w : World) : (Go.method 251 91 v "Unwrap").run Tryd.prog w = .ok (75, v) w := by kernel_rfl

/-- errors.Is(e, x), e an error with a place around x itself. -/
theorem is_wrap_same (pb : Nat) (b : Addr) (w : World) (h1 : w.cell? ⟨pb, 2, none⟩ = some (.iface 118 (.pointer (some b)))) :
    Calls Tryd.prog 34 #[.iface 91 (.pointer (some ⟨pb, 0, none⟩)), .iface 118 (.pointer (some b))] w fun e w' => e = .returned (.bool true) ∧ w = w' := by
  obtain ⟨i, hi, hcmp⟩ := Option.map_eq_some_iff.1 isComp
  obtain ⟨j, hj, hjs⟩ := Option.map_eq_some_iff.1 isSize
  have tT := isTypeOf
  have cT := isComparable
  have mR := isMethodComparable
  have nE := noIsE
  have uE := noUnwrapE
  have vE := noUnwrapsE
  have nW := noIsW
  have uW := hasUnwrapW
  have mU := methodUnwrap
  have heq := run_eql_iface_ptr_same (P := Tryd.prog) w b Tryd.underlying48 Tryd.underlying118 hi hcmp hj
  have hty := run_eql_iface_types (P := Tryd.prog) 91 118 (.pointer (some ⟨pb, 0, none⟩)) (.pointer (some b)) Tryd.underlying48 (by decide) w
  go_enter Tryd.func34, Tryd.ntmps34
  go_wp2
  refine wp_loop_rounds 2 ?_
  rw [rounds_succ]
  go_wp2
  rw [rounds_succ]
  go_wp2
  go_ret
  exact ⟨rfl, rfl⟩

/-- errors.Is(e, x), e an error with a place around another sentinel. -/
theorem is_wrap_other (pb : Nat) (b a : Addr) (ca cb : Array Value) (ta tb : TypeId) (w : World) (h1 : w.cell? ⟨pb, 2, none⟩ = some (.iface 118 (.pointer (some a)))) (hne : a ≠ b) (ha : w.heap[a.block]? = some (.cells ca ta (0, 0))) (hb : w.heap[b.block]? = some (.cells cb tb (0, 0))) :
    Calls Tryd.prog 34 #[.iface 91 (.pointer (some ⟨pb, 0, none⟩)), .iface 118 (.pointer (some b))] w fun e w' => e = .returned (.bool false) ∧ w = w' := by
  obtain ⟨i, hi, hcmp⟩ := Option.map_eq_some_iff.1 isComp
  obtain ⟨j, hj, hjs⟩ := Option.map_eq_some_iff.1 isSize
  have tT := isTypeOf
  have cT := isComparable
  have mR := isMethodComparable
  have nE := noIsE
  have uE := noUnwrapE
  have vE := noUnwrapsE
  have nW := noIsW
  have uW := hasUnwrapW
  have mU := methodUnwrap
  have heq := run_eql_iface_ptr_other (P := Tryd.prog) w Tryd.underlying48 Tryd.underlying118 hi hcmp hj (by rw [hjs]; decide) hne ha hb
  have hty := run_eql_iface_types (P := Tryd.prog) 91 118 (.pointer (some ⟨pb, 0, none⟩)) (.pointer (some b)) Tryd.underlying48 (by decide) w
  go_enter Tryd.func34, Tryd.ntmps34
  go_wp2
  refine wp_loop_rounds 2 ?_
  rw [rounds_succ]
  go_wp2
  rw [rounds_succ]
  go_wp2
  go_ret
  exact ⟨rfl, rfl⟩

/-- The six sentinels of package wire, as they lie: each variable holds a pointer of its own. -/
structure Sent (w : World) (a : Nat → Addr) : Prop where
  v0 : w.cell? ⟨0, 0, none⟩ = some (.iface 118 (.pointer (some (a 0))))
  v1 : w.cell? ⟨1, 0, none⟩ = some (.iface 118 (.pointer (some (a 1))))
  v2 : w.cell? ⟨2, 0, none⟩ = some (.iface 118 (.pointer (some (a 2))))
  v3 : w.cell? ⟨3, 0, none⟩ = some (.iface 118 (.pointer (some (a 3))))
  v4 : w.cell? ⟨4, 0, none⟩ = some (.iface 118 (.pointer (some (a 4))))
  v5 : w.cell? ⟨6, 0, none⟩ = some (.iface 118 (.pointer (some (a 5))))
  row : ∀ i, i < 6 → ∃ c t, w.heap[(a i).block]? = some (.cells c t (0, 0))
  ne : ∀ i j, i < 6 → j < 6 → i ≠ j → a i ≠ a j

theorem Sent.later {w w' : World} {a : Nat → Addr} (h : Sent w a) (hb : Below w.heap.size w w') : Sent w' a where
  v0 := by rw [hb.cell (p := ⟨0, 0, none⟩) (cell_block h.v0)]; exact h.v0
  v1 := by rw [hb.cell (p := ⟨1, 0, none⟩) (cell_block h.v1)]; exact h.v1
  v2 := by rw [hb.cell (p := ⟨2, 0, none⟩) (cell_block h.v2)]; exact h.v2
  v3 := by rw [hb.cell (p := ⟨3, 0, none⟩) (cell_block h.v3)]; exact h.v3
  v4 := by rw [hb.cell (p := ⟨4, 0, none⟩) (cell_block h.v4)]; exact h.v4
  v5 := by rw [hb.cell (p := ⟨6, 0, none⟩) (cell_block h.v5)]; exact h.v5
  row := fun i hi => by
    obtain ⟨c, t, hr⟩ := h.row i hi
    refine ⟨c, t, ?_⟩
    rw [hb.block _ ?_]
    · exact hr
    · rcases Nat.lt_or_ge (a i).block w.heap.size with h | h
      · exact h
      · rw [Array.getElem?_eq_none h] at hr; cases hr
  ne := h.ne

/-- errors.Is at the i-th sentinel, with a place, against the j-th. -/
theorem is_any {w : World} {a : Nat → Addr} (hS : Sent w a) (i j : Nat) (hi : i < 6) (hj : j < 6) (pb : Nat) (h1 : ErrAt w pb (a i)) :
    Calls Tryd.prog 34 #[.iface 91 (.pointer (some ⟨pb, 0, none⟩)), .iface 118 (.pointer (some (a j)))] w fun e w' => e = .returned (.bool (decide (i = j))) ∧ w = w' := by
  by_cases hij : i = j
  · subst hij
    simpa using is_wrap_same pb (a i) w h1
  · obtain ⟨ci, ti, hri⟩ := hS.row i hi
    obtain ⟨cj, tj, hrj⟩ := hS.row j hj
    simpa [hij] using is_wrap_other pb (a j) (a i) ci cj ti tj w h1 (hS.ne i j hi hj hij) hri hrj

/-- The number under which the i-th sentinel is told. -/
def errnoOf : Nat → Int
  | 0 => 3
  | 1 => 4
  | 2 => 5
  | 3 => 8
  | 4 => 6
  | _ => 7

theorem errno_nil (w : World) : Calls Tryd.prog 19 #[.nilIface] w fun e w' => e = .returned (.int .i64 0) ∧ w = w' := by
  go_enter Tryd.func19, Tryd.ntmps19
  go_wp2
  go_ret
  exact ⟨rfl, rfl⟩

set_option maxHeartbeats 1000000 in
theorem errno_any {w : World} {a : Nat → Addr} (hS : Sent w a) (i : Nat) (hi : i < 6) (pb : Nat) (h1 : ErrAt w pb (a i)) :
    Calls Tryd.prog 19 #[.iface 91 (.pointer (some ⟨pb, 0, none⟩))] w fun e w' => e = .returned (.int .i64 (errnoOf i)) ∧ w = w' := by
  have k0 := is_any hS i 0 hi (by decide) pb h1
  have k1 := is_any hS i 1 hi (by decide) pb h1
  have k2 := is_any hS i 2 hi (by decide) pb h1
  have k3 := is_any hS i 3 hi (by decide) pb h1
  have k4 := is_any hS i 4 hi (by decide) pb h1
  have H0 : Hid (Calls Tryd.prog 34 #[.iface 91 (.pointer (some ⟨pb, 0, none⟩)), .iface 118 (.pointer (some (a 0)))] w fun e w' => e = .returned (.bool (decide (i = 0))) ∧ w = w') := k0
  have H1 : Hid (Calls Tryd.prog 34 #[.iface 91 (.pointer (some ⟨pb, 0, none⟩)), .iface 118 (.pointer (some (a 1)))] w fun e w' => e = .returned (.bool (decide (i = 1))) ∧ w = w') := k1
  have H2 : Hid (Calls Tryd.prog 34 #[.iface 91 (.pointer (some ⟨pb, 0, none⟩)), .iface 118 (.pointer (some (a 2)))] w fun e w' => e = .returned (.bool (decide (i = 2))) ∧ w = w') := k2
  have H3 : Hid (Calls Tryd.prog 34 #[.iface 91 (.pointer (some ⟨pb, 0, none⟩)), .iface 118 (.pointer (some (a 3)))] w fun e w' => e = .returned (.bool (decide (i = 3))) ∧ w = w') := k3
  have H4 : Hid (Calls Tryd.prog 34 #[.iface 91 (.pointer (some ⟨pb, 0, none⟩)), .iface 118 (.pointer (some (a 4)))] w fun e w' => e = .returned (.bool (decide (i = 4))) ∧ w = w') := k4
  clear k0 k1 k2 k3 k4
  have v0 := hS.v0
  have v1 := hS.v1
  have v2 := hS.v2
  have v3 := hS.v3
  have v4 := hS.v4
  clear hS h1
  match i, hi with
  | 0, _ =>
    go_enter Tryd.func19, Tryd.ntmps19
    go_wp2_with fail
    refine H0.out.mono ?_; rintro e w' ⟨rfl, rfl⟩
    go_wp2_with fail
    go_ret
    exact ⟨rfl, rfl⟩
  | 1, _ =>
    go_enter Tryd.func19, Tryd.ntmps19
    go_wp2_with fail
    refine H0.out.mono ?_; rintro e w' ⟨rfl, rfl⟩
    go_wp2_with fail
    refine H1.out.mono ?_; rintro e w' ⟨rfl, rfl⟩
    go_wp2_with fail
    go_ret
    exact ⟨rfl, rfl⟩
  | 2, _ =>
    go_enter Tryd.func19, Tryd.ntmps19
    go_wp2_with fail
    refine H0.out.mono ?_; rintro e w' ⟨rfl, rfl⟩
    go_wp2_with fail
    refine H1.out.mono ?_; rintro e w' ⟨rfl, rfl⟩
    go_wp2_with fail
    refine H2.out.mono ?_; rintro e w' ⟨rfl, rfl⟩
    go_wp2_with fail
    go_ret
    exact ⟨rfl, rfl⟩
  | 3, _ =>
    go_enter Tryd.func19, Tryd.ntmps19
    go_wp2_with fail
    refine H0.out.mono ?_; rintro e w' ⟨rfl, rfl⟩
    go_wp2_with fail
    refine H1.out.mono ?_; rintro e w' ⟨rfl, rfl⟩
    go_wp2_with fail
    refine H2.out.mono ?_; rintro e w' ⟨rfl, rfl⟩
    go_wp2_with fail
    refine H3.out.mono ?_; rintro e w' ⟨rfl, rfl⟩
    go_wp2_with fail
    go_ret
    exact ⟨rfl, rfl⟩
  | 4, _ =>
    go_enter Tryd.func19, Tryd.ntmps19
    go_wp2_with fail
    refine H0.out.mono ?_; rintro e w' ⟨rfl, rfl⟩
    go_wp2_with fail
    refine H1.out.mono ?_; rintro e w' ⟨rfl, rfl⟩
    go_wp2_with fail
    refine H2.out.mono ?_; rintro e w' ⟨rfl, rfl⟩
    go_wp2_with fail
    refine H3.out.mono ?_; rintro e w' ⟨rfl, rfl⟩
    go_wp2_with fail
    refine H4.out.mono ?_; rintro e w' ⟨rfl, rfl⟩
    go_wp2_with fail
    go_ret
    exact ⟨rfl, rfl⟩
  | 5, _ =>
    go_enter Tryd.func19, Tryd.ntmps19
    go_wp2_with fail
    refine H0.out.mono ?_; rintro e w' ⟨rfl, rfl⟩
    go_wp2_with fail
    refine H1.out.mono ?_; rintro e w' ⟨rfl, rfl⟩
    go_wp2_with fail
    refine H2.out.mono ?_; rintro e w' ⟨rfl, rfl⟩
    go_wp2_with fail
    refine H3.out.mono ?_; rintro e w' ⟨rfl, rfl⟩
    go_wp2_with fail
    refine H4.out.mono ?_; rintro e w' ⟨rfl, rfl⟩
    go_wp2_with fail
    go_ret
    exact ⟨rfl, rfl⟩
end Go.Proofs.YtfpojgljgbgkkaaDoor
