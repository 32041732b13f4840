/-
  errors.As at *wire.LogError: nil; the error's own type is the target's. (After the worked toy of the guide.)
-/
import Derived.Test.YtfpojgljgbgkkaaDoorIs
namespace Go.Proofs.YtfpojgljgbgkkaaDoor
open Go.RowKit Go.Extern.Stop Go.Stop Go.Extern

theorem as_nil (t : Value) (w : World) : Calls Tryd.prog 28 #[.nilIface, t] w fun e w' => e = .returned (.bool false) ∧ w = w' := by
  go_enter Tryd.func28, Tryd.ntmps28
  go_wp2
  go_ret
  exact ⟨rfl, rfl⟩

theorem asValueOf (t : Addr) (w : World) : (callFunc 39 #[.iface 65 (.pointer (some t))]).run Tryd.prog w = .ok (.value (.agg #[.pointer (some ⟨7, 65, none⟩), .pointer (some ⟨w.heap.size, 0, none⟩), .int .u64 150])) (w.alloc (.cells #[.pointer (some t)] 65)) :=
  (@run_callFunc_extern Tryd.prog 39 _ (fun args => ReflectliteValue.unpack (args.getD 0 (.tuple #[]))) Tryd.func39 (by kernel_rfl) (by kernel_rfl) (by kernel_rfl) (by kernel_rfl) _ w).trans (by kernel_rfl)
theorem asValueOf1 (t : Addr) (w : World) : (callFunc 39 #[.iface 63 (.pointer (some t))]).run Tryd.prog w = .ok (.value (.agg #[.pointer (some ⟨7, 63, none⟩), .pointer (some ⟨w.heap.size, 0, none⟩), .int .u64 150])) (w.alloc (.cells #[.pointer (some t)] 63)) :=
  (@run_callFunc_extern Tryd.prog 39 _ (fun args => ReflectliteValue.unpack (args.getD 0 (.tuple #[]))) Tryd.func39 (by kernel_rfl) (by kernel_rfl) (by kernel_rfl) (by kernel_rfl) _ w).trans (by kernel_rfl)
theorem asType (a : Addr) (w : World) : (callFunc 40 #[.agg #[.pointer (some ⟨7, 65, none⟩), .pointer (some a), .int .u64 150]]).run Tryd.prog w = .ok (.value (.iface 101 (.agg #[.pointer (some ⟨7, 65, none⟩)]))) w :=
  (@run_callFunc_extern Tryd.prog 40 _ (ReflectliteValue.methodAny (ReflectliteValue.valueError "reflectlite.Value.Type" 0) (fun t _ _ _ => ReflectliteType.toType t)) Tryd.func40 (by kernel_rfl) (by kernel_rfl) (by kernel_rfl) (by kernel_rfl) _ w).trans (by kernel_rfl)
theorem asMKind (h : Value) (w : World) : (Go.method 251 101 (.agg #[h]) "Kind").run Tryd.prog w = .ok (66, h) w := by kernel_rfl
theorem asMElem (h : Value) (w : World) : (Go.method 251 101 (.agg #[h]) "Elem").run Tryd.prog w = .ok (79, .agg #[h]) w := by kernel_rfl
theorem asMImpl (h : Value) (w : World) : (Go.method 251 101 (.agg #[h]) "Implements").run Tryd.prog w = .ok (80, .agg #[h]) w := by kernel_rfl
theorem asMAssign (h : Value) (w : World) : (Go.method 251 101 (.agg #[h]) "AssignableTo").run Tryd.prog w = .ok (77, .agg #[h]) w := by kernel_rfl
theorem asKind2 (w : World) : (callFunc 66 #[.pointer (some ⟨7, 65, none⟩)]).run Tryd.prog w = .ok (.value (.int .u8 22)) w :=
  (@run_callFunc_extern Tryd.prog 66 _ (ReflectliteType.abiMethod fun t => do pure (.int .u8 (← Rtype.kind t))) Tryd.func66 (by kernel_rfl) (by kernel_rfl) (by kernel_rfl) (by kernel_rfl) _ w).trans (by kernel_rfl)
theorem asKind1 (w : World) : (callFunc 66 #[.pointer (some ⟨7, 63, none⟩)]).run Tryd.prog w = .ok (.value (.int .u8 22)) w :=
  (@run_callFunc_extern Tryd.prog 66 _ (ReflectliteType.abiMethod fun t => do pure (.int .u8 (← Rtype.kind t))) Tryd.func66 (by kernel_rfl) (by kernel_rfl) (by kernel_rfl) (by kernel_rfl) _ w).trans (by kernel_rfl)
theorem asElem (w : World) : (callFunc 79 #[.agg #[.pointer (some ⟨7, 65, none⟩)]]).run Tryd.prog w = .ok (.value (.iface 101 (.agg #[.pointer (some ⟨7, 63, none⟩)]))) w :=
  (@run_callFunc_extern Tryd.prog 79 _ (ReflectliteType.method ReflectliteType.elem) Tryd.func79 (by kernel_rfl) (by kernel_rfl) (by kernel_rfl) (by kernel_rfl) _ w).trans (by kernel_rfl)
theorem asImpl (w : World) : (callFunc 80 #[.agg #[.pointer (some ⟨7, 63, none⟩)], .iface 101 (.agg #[.pointer (some ⟨7, 48, none⟩)])]).run Tryd.prog w = .ok (.value (.bool true)) w :=
  (@run_callFunc_extern Tryd.prog 80 _ (ReflectliteType.relation "Implements" ReflectliteType.implements_) Tryd.func80 (by kernel_rfl) (by kernel_rfl) (by kernel_rfl) (by kernel_rfl) _ w).trans (by kernel_rfl)
theorem asTypeOf (v : Value) (w : World) : (callFunc 45 #[.iface 63 v]).run Tryd.prog w = .ok (.value (.iface 101 (.agg #[.pointer (some ⟨7, 63, none⟩)]))) w :=
  (@run_callFunc_extern Tryd.prog 45 _ ReflectliteType.typeOf Tryd.func45 (by kernel_rfl) (by kernel_rfl) (by kernel_rfl) (by kernel_rfl) _ w).trans (by kernel_rfl)
theorem asAssign (w : World) : (callFunc 77 #[.agg #[.pointer (some ⟨7, 63, none⟩)], .iface 101 (.agg #[.pointer (some ⟨7, 63, none⟩)])]).run Tryd.prog w = .ok (.value (.bool true)) w :=
  (@run_callFunc_extern Tryd.prog 77 _ (ReflectliteType.relation "AssignableTo" ReflectliteType.assignableTo) Tryd.func77 (by kernel_rfl) (by kernel_rfl) (by kernel_rfl) (by kernel_rfl) _ w).trans (by kernel_rfl)
end Go.Proofs.YtfpojgljgbgkkaaDoor
