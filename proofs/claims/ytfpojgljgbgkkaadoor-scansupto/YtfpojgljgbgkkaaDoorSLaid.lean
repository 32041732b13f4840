/-
  From the row's condition on the package variables to what the walks of Scans ask: four sentinels and the handle of 'error'.
-/
import Derived.Test.YtfpojgljgbgkkaaDoorLaid
import Derived.Test.YtfpojgljgbgkkaaDoorScns
import Derived.LaidHandle
namespace Go.Proofs.YtfpojgljgbgkkaaDoor
open Go.RowKit

theorem etNamed : Tryd.prog.globalNamed "errors.errorType" = some 5 := by kernel_rfl
theorem rtNamed : (Tryd.prog.cutTypes.find? (·.1 == "internal/reflectlite.rtype")).map (·.2) = some 101 := by kernel_rfl
theorem errRow : ((List.range 151).filter fun t => Tryd.prog.rowNamed t [101, 114, 114, 111, 114]) = [48] := by kernel_rfl
theorem typesSize : Tryd.prog.types.size = 151 := by kernel_rfl

set_option maxRecDepth 100000
theorem handle_cell {W : World} (h : handlesMet Tryd.prog [("errors.errorType", Rows.laid_errors_errorType)] W) : W.cell? ⟨5, 0, none⟩ = some (.iface 101 (.agg #[.pointer (some ⟨7, 48, none⟩)])) := by
  obtain ⟨name, u, ty, e1, e2, e3, e4, e5⟩ := h _ (List.mem_singleton.2 rfl)
  have en : name = [101, 114, 114, 111, 114] := (Option.some.inj e1).symm
  subst en
  obtain rfl := Option.some.inj (rtNamed.symm.trans e2)
  have hm : ty ∈ (List.range 151).filter fun t => Tryd.prog.rowNamed t [101, 114, 114, 111, 114] := List.mem_filter.2 ⟨List.mem_range.2 (by rw [← typesSize]; exact e3), e4⟩
  rw [errRow] at hm
  obtain rfl := List.mem_singleton.1 hm
  have hh : typeHandle Tryd.prog 48 = .pointer (some ⟨7, 48, none⟩) := by kernel_rfl
  rw [hh] at e5
  simpa using World.var?_cell etNamed e5 0

theorem five_of_laid {W : World} (h : laidMetH Tryd.prog Rows.scansUptoRow.laid W) : Five W := by
  have h' : laidMet Tryd.prog [("accord/wire.ErrShort", Rows.laid_accord_wire_ErrShort), ("accord/wire.ErrMagic", Rows.laid_accord_wire_ErrMagic), ("accord/wire.ErrSum", Rows.laid_accord_wire_ErrSum), ("accord/wire.ErrForm", Rows.laid_accord_wire_ErrForm)] W ∧ handlesMet Tryd.prog [("errors.errorType", Rows.laid_errors_errorType)] W := h
  obtain ⟨hs, hh⟩ := h'
  obtain ⟨ps, ⟨g1, t1, cs1, f1, p1, q1, hg1, ht1, hv1, hd1, ⟨g2, t2, cs2, f2, p2, q2, hg2, ht2, hv2, hd2, ⟨g4, t4, cs4, f4, p4, q4, hg4, ht4, hv4, hd4, ⟨g5, t5, cs5, f5, p5, q5, hg5, ht5, hv5, hd5, _, e5⟩, e4⟩, e2⟩, e1⟩, hnd, hrows⟩ := hs
  obtain rfl := Option.some.inj ((show Tryd.prog.globalNamed _ = some 1 by kernel_rfl).symm.trans hg1)
  obtain rfl := Option.some.inj ((show Tryd.prog.globalNamed _ = some 2 by kernel_rfl).symm.trans hg2)
  obtain rfl := Option.some.inj ((show Tryd.prog.globalNamed _ = some 4 by kernel_rfl).symm.trans hg4)
  obtain rfl := Option.some.inj ((show Tryd.prog.globalNamed _ = some 6 by kernel_rfl).symm.trans hg5)
  obtain rfl := Option.some.inj ((show (Tryd.prog.globals[1]?).map (·.type) = some 48 by kernel_rfl).symm.trans ht1)
  obtain rfl := Option.some.inj ((show (Tryd.prog.globals[2]?).map (·.type) = some 48 by kernel_rfl).symm.trans ht2)
  obtain rfl := Option.some.inj ((show (Tryd.prog.globals[4]?).map (·.type) = some 48 by kernel_rfl).symm.trans ht4)
  obtain rfl := Option.some.inj ((show (Tryd.prog.globals[6]?).map (·.type) = some 48 by kernel_rfl).symm.trans ht5)
  subst e5; subst e4; subst e2; subst e1
  obtain ⟨a1, w1, -, -⟩ := one_sentinel hg1 hv1 hd1 (fun off hm u v hc => (hrows _ off (by simp [hm])).2 u v hc)
  obtain ⟨a2, w2, -, -⟩ := one_sentinel hg2 hv2 hd2 (fun off hm u v hc => (hrows _ off (by simp [hm])).2 u v hc)
  obtain ⟨a4, w4, -, -⟩ := one_sentinel hg4 hv4 hd4 (fun off hm u v hc => (hrows _ off (by simp [hm])).2 u v hc)
  obtain ⟨a5, w5, -, -⟩ := one_sentinel hg5 hv5 hd5 (fun off hm u v hc => (hrows _ off (by simp [hm])).2 u v hc)
  exact ⟨⟨⟨a1, w1⟩, ⟨a2, w2⟩, ⟨a4, w4⟩, ⟨a5, w5⟩⟩, handle_cell hh⟩
end Go.Proofs.YtfpojgljgbgkkaaDoor
