/-
  Lists in memory: a cell of an owned list is written; the beginning of a block; blocks of other kinds stay.
-/
import Derived.Test.YtfpojgljgbgkkaaDoorApp
import Derived.Below
namespace Go.Proofs.YtfpojgljgbgkkaaDoor
open Go.RowKit

/-- A cell of an owned list is written. -/
theorem ownsRow_set {w : World} {base : Nat} {e : TypeId} {size g n cap : Nat} {xs : List Value} (h : w.ownsRow base e size (.slice (some ⟨g, 0, none⟩) n cap) n xs) (j : Nat) (u : Value) :
    (w.setCell ⟨g, j, none⟩ u).ownsRow base e size (.slice (some ⟨g, 0, none⟩) n cap) n (xs.set j u) := by
  obtain ⟨hl, h2⟩ := h
  refine ⟨by rw [List.length_set]; exact hl, ?_⟩
  rcases h2 with ⟨h2, _⟩ | ⟨g', cap', cur, hv, hb, hh, hnc, hcm, hcs, ht⟩
  · cases h2
  · injection hv with e1 e2 e3
    injection e1 with e1
    injection e1 with e1
    subst e1
    subst e3
    exact .inr ⟨g, cap, cur.setIfInBounds j u, rfl, hb, heap_setCell_same w g j cur e u hh, hnc, hcm, by simpa using hcs, by rw [← ht]; simp [List.take_set]⟩

/-- All blocks whose elements are of another kind than e, and all that are no cells, are as they were. -/
structure Keeps (e : TypeId) (w w' : World) : Prop where
  os : w'.os = w.os
  tape : w'.tape = w.tape
  output : w'.output = w.output
  size : w.heap.size ≤ w'.heap.size
  block : ∀ (k : Nat) (c : Array Value) (t : TypeId) (fr : Nat × Nat), w.heap[k]? = some (Obj.cells c t fr) → t ≠ e → w'.heap[k]? = some (Obj.cells c t fr)
theorem block_lt {w : World} {k : Nat} {o : Obj} (h : w.heap[k]? = some o) : k < w.heap.size := (Array.getElem?_eq_some_iff.1 h).1
theorem Keeps.of_grown {w w' : World} {base : Nat} {e : TypeId} {size n : Nat} {v : Value} {xs : List Value} (h : w.ownsRow base e size v n xs) (hg : w.grownBy w' v.ownBlock) : Keeps e w w' := by
  refine ⟨hg.os, hg.tape, hg.output, hg.size, fun k c t fr hk hne => ?_⟩
  rw [hg.block k (block_lt hk) ?_]
  · exact hk
  · intro hv
    rcases h.2 with ⟨rfl, _⟩ | ⟨g, cap, cur, rfl, _, hh, _⟩
    · simp [Value.ownBlock] at hv
    · simp [Value.ownBlock] at hv
      subst hv
      rw [hk] at hh
      injection hh with hh
      injection hh with _ hh
      exact hne hh
theorem Head.kept {w w' : World} {g : Nat} {e e' : TypeId} {xs : List Value} (h : Head w g e xs) (hk : Keeps e' w w') (hne : e ≠ e') : Head w' g e xs := by
  obtain ⟨cur, h1, h2, h3⟩ := h
  exact ⟨cur, hk.block g cur e _ h1 hne, h2, h3⟩
theorem Head.below {w w' : World} {g B : Nat} {e : TypeId} {xs : List Value} (h : Head w g e xs) (hb : Below B w w') (hg : g < B) : Head w' g e xs := by
  obtain ⟨cur, h1, h2, h3⟩ := h
  exact ⟨cur, by rw [hb.block g hg]; exact h1, h2, h3⟩
theorem Head.lt {w : World} {g : Nat} {e : TypeId} {xs : List Value} (h : Head w g e xs) : g < w.heap.size := by
  obtain ⟨cur, h1, _⟩ := h
  exact block_lt h1
theorem Head.cell {w : World} {g : Nat} {e : TypeId} {xs : List Value} (h : Head w g e xs) (j : Nat) (hj : j < xs.length) : w.cell? ⟨g, j, none⟩ = xs[j]? := by
  obtain ⟨cur, h1, h2, h3⟩ := h
  rw [cell_of_row w g j cur e (0, 0) h1, ← h3, List.getElem?_take, if_pos hj]
  simp
theorem Head.less {w : World} {g : Nat} {e : TypeId} {xs ys : List Value} (h : Head w g e (xs ++ ys)) : Head w g e xs := by
  obtain ⟨cur, h1, h2, h3⟩ := h
  refine ⟨cur, h1, by simp at h2; omega, ?_⟩
  have := congrArg (List.take xs.length) h3
  rw [List.take_take, List.take_left] at this
  rw [← this]
  simp
theorem Keeps.refl (e : TypeId) (w : World) : Keeps e w w := ⟨rfl, rfl, rfl, Nat.le_refl _, fun _ _ _ _ h _ => h⟩
theorem Keeps.alloc (e : TypeId) (w : World) (o : Obj) : Keeps e w (w.alloc o) :=
  ⟨rfl, rfl, rfl, by simp, fun k c t fr h _ => by rw [heap_alloc_old w o k (block_lt h)]; exact h⟩
theorem Keeps.setCell {w : World} {e : TypeId} {g j : Nat} {cur : Array Value} {fr : Nat × Nat} (h : w.heap[g]? = some (.cells cur e fr)) (u : Value) : Keeps e w (w.setCell ⟨g, j, none⟩ u) := by
  refine ⟨rfl, rfl, rfl, by simp [World.setCell], fun k c t fr' hk hne => ?_⟩
  rw [Below.heap_setCell _ _ _ _ (fun e' => ?_)]
  · exact hk
  · simp at e'
    subst e'
    rw [hk] at h
    injection h with h
    injection h with _ h
    exact hne h
theorem ownsRow_kept {w w' : World} {base : Nat} {e e' : TypeId} {size n : Nat} {v : Value} {xs : List Value} (h : w.ownsRow base e size v n xs) (hk : Keeps e' w w') (hne : e ≠ e') : w'.ownsRow base e size v n xs := by
  refine ⟨h.1, ?_⟩
  rcases h.2 with h2 | ⟨g, cap, cur, rfl, hb, hh, r⟩
  · exact .inl h2
  · exact .inr ⟨g, cap, cur, rfl, hb, hk.block g cur e _ hh hne, r⟩
theorem ownsRow_below {w w' : World} {base B : Nat} {e : TypeId} {size n : Nat} {v : Value} {xs : List Value} (h : w.ownsRow base e size v n xs) (hb : Below B w w') (hB : w.heap.size ≤ B) : w'.ownsRow base e size v n xs := by
  refine ⟨h.1, ?_⟩
  rcases h.2 with h2 | ⟨g, cap, cur, rfl, hb', hh, r⟩
  · exact .inl h2
  · exact .inr ⟨g, cap, cur, rfl, hb', by rw [hb.block g (Nat.lt_of_lt_of_le (block_lt hh) hB)]; exact hh, r⟩
theorem ownsRow_base {w : World} {base base' : Nat} {e : TypeId} {size n : Nat} {v : Value} {xs : List Value} (h : w.ownsRow base e size v n xs) (hb : base' ≤ base) : w.ownsRow base' e size v n xs := by
  refine ⟨h.1, ?_⟩
  rcases h.2 with h2 | ⟨g, cap, cur, rfl, hb', r⟩
  · exact .inl h2
  · exact .inr ⟨g, cap, cur, rfl, by omega, r⟩
end Go.Proofs.YtfpojgljgbgkkaaDoor
