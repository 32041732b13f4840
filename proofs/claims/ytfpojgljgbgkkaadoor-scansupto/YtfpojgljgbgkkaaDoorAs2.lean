/-
  errors.As at *wire.LogError: the entries that read or write memory; the contract where the error's own type is the target's.
-/
import Derived.Test.YtfpojgljgbgkkaaDoorAs
namespace Go.Proofs.YtfpojgljgbgkkaaDoor
open Go.RowKit Go.Extern.Stop Go.Stop Go.Extern

theorem asParts2 (a : Addr) (w : World) : (ReflectliteValue.parts (.agg #[.pointer (some ⟨7, 65, none⟩), .pointer (some a), .int .u64 150])).run Tryd.prog w = .ok (some (65, a, 150)) w := by kernel_rfl
theorem asParts1 (a : Addr) (w : World) : (ReflectliteValue.parts (.agg #[.pointer (some ⟨7, 63, none⟩), .pointer (some a), .int .u64 150])).run Tryd.prog w = .ok (some (63, a, 150)) w := by kernel_rfl
theorem asParts1a (a : Addr) (w : World) : (ReflectliteValue.parts (.agg #[.pointer (some ⟨7, 63, none⟩), .pointer (some a), .int .u64 406])).run Tryd.prog w = .ok (some (63, a, 406)) w := by kernel_rfl
theorem asElemOf (w : World) : (Rtype.elem? 65).run Tryd.prog w = .ok (some 63) w := by kernel_rfl
theorem asMk (p : Addr) (w : World) : (ReflectliteValue.mk 63 p ReflectliteValue.flagAddr).run Tryd.prog w = .ok (.agg #[.pointer (some ⟨7, 63, none⟩), .pointer (some p), .int .u64 406]) w := by kernel_rfl
theorem asDirect (w : World) : (Rtype.directlyAssignable 63 63).run Tryd.prog w = .ok true w := by kernel_rfl
theorem asIsNil (a p : Addr) (W : World) (ha : W.cell? a = some (.pointer (some p))) :
    (callFunc 41 #[.agg #[.pointer (some ⟨7, 65, none⟩), .pointer (some a), .int .u64 150]]).run Tryd.prog W = .ok (.value (.bool false)) W := by
  rw [@run_callFunc_extern Tryd.prog 41 _ (ReflectliteValue.method (ReflectliteValue.valueError "reflectlite.Value.IsNil" 0) ReflectliteValue.isNil) Tryd.func41 (by kernel_rfl) (by kernel_rfl) (by kernel_rfl) (by kernel_rfl)]
  show (Sem.run _ (bind (ReflectliteValue.parts (.agg #[.pointer (some ⟨7, 65, none⟩), .pointer (some a), .int .u64 150])) _) _).andThen _ = _
  simp only [Sem.run_bind, asParts2, Result.andThen]
  simp [ReflectliteValue.isNil, loadVar, isAgg, underlying, Tryd.underlying65, ha, Result.andThen]
theorem asElemV (a p : Addr) (W : World) (ha : W.cell? a = some (.pointer (some p))) :
    (callFunc 49 #[.agg #[.pointer (some ⟨7, 65, none⟩), .pointer (some a), .int .u64 150]]).run Tryd.prog W = .ok (.value (.agg #[.pointer (some ⟨7, 63, none⟩), .pointer (some p), .int .u64 406])) W := by
  rw [@run_callFunc_extern Tryd.prog 49 _ (ReflectliteValue.method (ReflectliteValue.valueError "reflectlite.Value.Elem" 0) ReflectliteValue.elem) Tryd.func49 (by kernel_rfl) (by kernel_rfl) (by kernel_rfl) (by kernel_rfl)]
  show (Sem.run _ (bind (ReflectliteValue.parts (.agg #[.pointer (some ⟨7, 65, none⟩), .pointer (some a), .int .u64 150])) _) _).andThen _ = _
  simp only [Sem.run_bind, asParts2, Result.andThen]
  simp [ReflectliteValue.elem, loadVar, isAgg, underlying, Tryd.underlying65, ha, Result.andThen, asElemOf, asMk]
theorem asSet (ta b e : Addr) (old : Value) (W : World) (hb : W.cell? b = some (.pointer (some e))) (ht : W.cell? ta = some old) (hf : W.frozen? ta = false) :
    (callFunc 50 #[.agg #[.pointer (some ⟨7, 63, none⟩), .pointer (some ta), .int .u64 406], .agg #[.pointer (some ⟨7, 63, none⟩), .pointer (some b), .int .u64 150]]).run Tryd.prog W = .ok (.value (.tuple #[])) (W.setCell ta (.pointer (some e))) := by
  rw [@run_callFunc_extern Tryd.prog 50 _ ReflectliteValue.set Tryd.func50 (by kernel_rfl) (by kernel_rfl) (by kernel_rfl) (by kernel_rfl)]
  show (Sem.run _ (bind (ReflectliteValue.parts (.agg #[.pointer (some ⟨7, 63, none⟩), .pointer (some ta), .int .u64 406])) fun _ => bind (ReflectliteValue.parts (.agg #[.pointer (some ⟨7, 63, none⟩), .pointer (some b), .int .u64 150])) fun _ => _) _).andThen _ = _
  simp only [Sem.run_bind, asParts1a, asParts1, Result.andThen]
  simp [ReflectliteValue.flagAddr, loadVar, isAgg, underlying, Tryd.underlying63, hb, Result.andThen, asDirect, storeVar, Value.cells, storeCells, Addr.add]
  rw [run_store Tryd.prog W ta _ _ (by rfl)]
  simp [ht, hf]
end Go.Proofs.YtfpojgljgbgkkaaDoor
