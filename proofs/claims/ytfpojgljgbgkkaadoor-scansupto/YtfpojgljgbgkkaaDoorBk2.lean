/-
  The books, step by step: what each step of Books.records does to memory.
-/
import Derived.Test.YtfpojgljgbgkkaaDoorBk
namespace Go.Proofs.YtfpojgljgbgkkaaDoor
open Go.RowKit

theorem tne1 : (40 : TypeId) ≠ 31 := by decide
theorem tne2 : (40 : TypeId) ≠ 3 := by decide
theorem tne3 : (40 : TypeId) ≠ 59 := by decide
theorem tne4 : (3 : TypeId) ≠ 31 := by decide
theorem tne5 : (3 : TypeId) ≠ 59 := by decide
theorem tne6 : (31 : TypeId) ≠ 59 := by decide

/-- All blocks of records are as they were. -/
def RecKept (w w' : World) : Prop := ∀ (k : Nat) (c : Array Value) (fr : Nat × Nat), w.heap[k]? = some (Obj.cells c 59 fr) → w'.heap[k]? = some (Obj.cells c 59 fr)
theorem RecKept.of_keeps {e : TypeId} {w w' : World} (h : Keeps e w w') (hne : (59 : TypeId) ≠ e) : RecKept w w' := fun k c fr hk => h.block k c _ fr hk hne
theorem RecKept.trans {a b c : World} (h : RecKept a b) (h' : RecKept b c) : RecKept a c := fun k x fr hk => h' k x fr (h k x fr hk)
theorem Head.rec {w w' : World} {g : Nat} {xs : List Value} (h : Head w g 59 xs) (hk : RecKept w w') : Head w' g 59 xs := by
  obtain ⟨cur, h1, h2, h3⟩ := h
  exact ⟨cur, hk g cur _ h1, h2, h3⟩
theorem Lst.rec {w w' : World} {u : Value} {c : Nat} (h : Lst w u c) (hk : RecKept w w') : Lst w' u c := by
  obtain ⟨p, n, cap, rfl, hn, hc⟩ := h
  refine ⟨p, n, cap, rfl, hn, ?_⟩
  rcases hc with hc | ⟨g, rfl, hg⟩
  · exact .inl hc
  · exact .inr ⟨g, rfl, hg.rec hk⟩
theorem own_rec {w w' : World} {base n size : Nat} {v : Value} {xs : List Value} (h : w.ownsRow base 59 size v n xs) (hk : RecKept w w') : w'.ownsRow base 59 size v n xs := by
  refine ⟨h.1, ?_⟩
  rcases h.2 with h2 | ⟨g, cap, cur, rfl, hb, hh, r⟩
  · exact .inl h2
  · exact .inr ⟨g, cap, cur, rfl, hb, hk g cur _ hh, r⟩

/-- The books' own block, and the two rows behind it. -/
structure Rows2 (B : Nat) (w : World) (kb n : Nat) (Rv Nv : Value) (Us : List Value) (Cs : List Nat) : Prop where
  hb : w.heap[kb]? = some (.cells #[.int .i64 n, Rv, Nv, .slice none 0 0, .slice none 0 0] 40 (0, 0))
  hR : w.ownsRow B 31 1 Rv Us.length Us
  hN : w.ownsRow B 3 1 Nv Cs.length (Cs.map fun c => .int .i64 (c : Nat))

theorem Rows2.kept {B : Nat} {w w' : World} {kb n : Nat} {Rv Nv : Value} {Us : List Value} {Cs : List Nat} (h : Rows2 B w kb n Rv Nv Us Cs) (hk : Keeps 59 w w') : Rows2 B w' kb n Rv Nv Us Cs :=
  ⟨hk.block _ _ _ _ h.hb tne3, ownsRow_kept h.hR hk tne6, ownsRow_kept h.hN hk tne5⟩

theorem rows_count {B : Nat} {w : World} {kb n : Nat} {Rv Nv : Value} {Us : List Value} {Cs : List Nat} (h : Rows2 B w kb n Rv Nv Us Cs) (hB : B ≤ kb) (n' : Nat) :
    Rows2 B (w.setCell ⟨kb, 0, none⟩ (.int .i64 n')) kb n' Rv Nv Us Cs ∧ RecKept w (w.setCell ⟨kb, 0, none⟩ (.int .i64 n')) ∧ Below B w (w.setCell ⟨kb, 0, none⟩ (.int .i64 n')) := by
  have hs := Keeps.setCell (j := 0) h.hb (.int .i64 n')
  exact ⟨⟨by rw [heap_setCell_same _ _ _ _ _ _ h.hb]; rfl, ownsRow_kept h.hR hs tne1.symm, ownsRow_kept h.hN hs tne2.symm⟩, RecKept.of_keeps hs tne3.symm, (Below.refl _ _).setCell (by simpa using hB) _⟩

theorem rows_R {B : Nat} {w w' : World} {kb n : Nat} {Rv Nv Rv' u : Value} {Us : List Value} {Cs : List Nat} (h : Rows2 B w kb n Rv Nv Us Cs) (hB : B ≤ kb)
    (hown : w'.ownsRow B 31 1 Rv' (Us.length + 1) (Us ++ [u])) (hg : (w.alloc (.cells #[u] 31)).grownBy w' Rv.ownBlock) :
    Rows2 B (w'.setCell ⟨kb, 1, none⟩ Rv') kb n Rv' Nv (Us ++ [u]) Cs ∧ RecKept w (w'.setCell ⟨kb, 1, none⟩ Rv') ∧ Below B w (w'.setCell ⟨kb, 1, none⟩ Rv') := by
  have hR1 := h.hR.alloc (.cells #[u] 31)
  have ka := Keeps.alloc 31 w (.cells #[u] 31)
  have kg := Keeps.of_grown hR1 hg
  have hb' := kg.block _ _ _ _ (ka.block _ _ _ _ h.hb tne1) tne1
  have ks := Keeps.setCell (j := 1) hb' Rv'
  have hkl := block_lt h.hb
  refine ⟨⟨by rw [heap_setCell_same _ _ _ _ _ _ hb']; rfl, ?_, ?_⟩, ?_, ?_⟩
  · rw [List.length_append]; exact ownsRow_kept hown ks tne1.symm
  · exact ownsRow_kept (ownsRow_kept (ownsRow_kept h.hN ka tne4) kg tne4) ks tne2.symm
  · exact ((RecKept.of_keeps ka tne6.symm).trans (RecKept.of_keeps kg tne6.symm)).trans (RecKept.of_keeps ks tne3.symm)
  · exact (Below.grown ((Below.refl _ _).alloc (by omega) _) hg (by simp; omega) (fun j hj => (h.hR.lt _ hj).1)).setCell (by simpa using hB) _

theorem rows_N {B : Nat} {w w' : World} {kb n c : Nat} {Rv Nv Nv' : Value} {Us : List Value} {Cs : List Nat} (h : Rows2 B w kb n Rv Nv Us Cs) (hB : B ≤ kb) {W1 : World} (hW1 : W1.heap = (w.alloc (.cells #[.int .i64 (c : Nat)] 3)).heap) (ho : W1.os = w.os) (ht : W1.tape = w.tape) (hp : W1.output = w.output)
    (hown : w'.ownsRow B 3 1 Nv' (Cs.length + 1) ((Cs.map fun c => .int .i64 (c : Nat)) ++ [.int .i64 (c : Nat)])) (hg : W1.grownBy w' Nv.ownBlock) :
    Rows2 B (w'.setCell ⟨kb, 2, none⟩ Nv') kb n Rv Nv' Us (Cs ++ [c]) ∧ RecKept w (w'.setCell ⟨kb, 2, none⟩ Nv') ∧ Below B w (w'.setCell ⟨kb, 2, none⟩ Nv') := by
  have hg : (w.alloc (.cells #[.int .i64 (c : Nat)] 3)).grownBy w' Nv.ownBlock := ⟨hg.os.trans ho, hg.tape.trans ht, hg.output.trans hp, by rw [← hW1]; exact hg.size, fun k hk hne => by rw [← hW1] at hk ⊢; exact hg.block k hk hne⟩
  have hN1 := h.hN.alloc (.cells #[.int .i64 (c : Nat)] 3)
  have ka := Keeps.alloc 3 w (.cells #[.int .i64 (c : Nat)] 3)
  have kg := Keeps.of_grown hN1 hg
  have hb' := kg.block _ _ _ _ (ka.block _ _ _ _ h.hb tne2) tne2
  have ks := Keeps.setCell (j := 2) hb' Nv'
  have hkl := block_lt h.hb
  refine ⟨⟨by rw [heap_setCell_same _ _ _ _ _ _ hb']; rfl, ?_, ?_⟩, ?_, ?_⟩
  · exact ownsRow_kept (ownsRow_kept (ownsRow_kept h.hR ka tne4.symm) kg tne4.symm) ks tne1.symm
  · rw [List.length_append, List.map_append]; exact ownsRow_kept hown ks tne2.symm
  · exact ((RecKept.of_keeps ka tne5.symm).trans (RecKept.of_keeps kg tne5.symm)).trans (RecKept.of_keeps ks tne3.symm)
  · exact (Below.grown ((Below.refl _ _).alloc (by omega) _) hg (by simp; omega) (fun j hj => (h.hN.lt _ hj).1)).setCell (by simpa using hB) _

/-- No list of the books that lies where v lies is longer than m. -/
def Caps (Us : List Value) (v : Value) (m : Nat) : Prop := ∀ i (h : i < Us.length) g m' cp, Us[i] = .slice (some ⟨g, 0, none⟩) m' cp → v.ownBlock = some g → m' ≤ m

/-- The lists, and whose each is. -/
def Lists (w : World) (Us : List Value) (Cs : List Nat) : Prop := ∀ i (h : i < Us.length) (h2 : i < Cs.length), Lst w Us[i] Cs[i]
theorem Lists.rec {w w' : World} {Us : List Value} {Cs : List Nat} (h : Lists w Us Cs) (hk : RecKept w w') : Lists w' Us Cs := fun i h1 h2 => (h i h1 h2).rec hk
theorem Lists.push {w : World} {Us : List Value} {Cs : List Nat} {u : Value} {c : Nat} (h : Lists w Us Cs) (hl : Cs.length = Us.length) (hu : Lst w u c) : Lists w (Us ++ [u]) (Cs ++ [c]) := by
  intro i h1 h2
  by_cases hi : i < Us.length
  · rw [List.getElem_append_left hi, List.getElem_append_left (by omega)]
    exact h i hi (by omega)
  · have e : i = Us.length := by simp at h1; omega
    subst e
    rw [List.getElem_append_right (Nat.le_refl _), List.getElem_append_right (by omega)]
    simpa using hu
theorem Caps.push {Us : List Value} {v : Value} {m : Nat} (h : Caps Us v m) {p : Option Addr} {cap : Nat} (hv : v = .slice p m cap) : Caps (Us ++ [v]) v m := by
  intro i h1 g m' cp he hg
  by_cases hi : i < Us.length
  · rw [List.getElem_append_left hi] at he
    exact h i hi g m' cp he hg
  · have e : i = Us.length := by simp at h1; omega
    subst e
    rw [List.getElem_append_right (Nat.le_refl _)] at he
    simp only [Nat.sub_self, List.getElem_cons_zero, hv] at he
    injection he with _ he
    omega
theorem lst_own {w : World} {B c m : Nat} {v : Value} (h : w.ownsRow B 59 2 v m (mk c m)) (hm : m ≤ 2000000) : Lst w v c := by
  rcases h.2 with ⟨rfl, rfl⟩ | ⟨g, cap, cur, rfl, r⟩
  · exact ⟨_, _, _, rfl, hm, .inl rfl⟩
  · exact ⟨_, _, _, rfl, hm, .inr ⟨g, rfl, ownsRow_head h rfl⟩⟩

/-- One mark more behind the list v: the books' lists stay. -/
theorem lists_grow {w W1 w' : World} {B c m g cap : Nat} {v : Value} {Us : List Value} {Cs : List Nat} (hlen : Cs.length = Us.length) (hL : Lists w Us Cs) (hC : Caps Us v m) (h : w.ownsRow B 59 2 v m (mk c m)) (hW1 : W1 = w.alloc (.cells #[.int .i64 (-(c : Int)), .int .i64 0] 59))
    (hown : w'.ownsRow B 59 2 (.slice (some ⟨g, 0, none⟩) (m + 1) cap) (m + 1) (mk c m ++ [.int .i64 (-(c : Int)), .int .i64 0])) (hg : W1.grownBy w' v.ownBlock) (hat : v.ownBlock = some g ∨ (g = W1.heap.size ∧ W1.grownBy w' none)) :
    Lists w' Us Cs ∧ Caps Us (.slice (some ⟨g, 0, none⟩) (m + 1) cap) (m + 1) := by
  subst hW1
  constructor
  · intro i h1 h2
    obtain ⟨p, n', cp, hu, hn', hc⟩ := hL i h1 h2
    refine ⟨p, n', cp, hu, hn', ?_⟩
    rcases hc with hc | ⟨g', rfl, hh⟩
    · exact .inl hc
    · refine .inr ⟨g', rfl, ?_⟩
      have hlt := hh.lt
      have hh1 : Head (w.alloc (.cells #[.int .i64 (-(c : Int)), .int .i64 0] 59)) g' 59 (mk Cs[i] n') := hh.below ((Below.refl _ w).alloc (Nat.le_refl _) _) hlt
      obtain ⟨cur, e1, e2, e3⟩ := hh1
      rcases hat with hat | ⟨_, hgn⟩
      · by_cases he : g' = g
        · subst he
          have hm' := hC i h1 g' n' cp hu hat
          have hw := ownsRow_head hown rfl
          have hw0 := ownsRow_head h hat
          obtain ⟨cur0, f1, f2, f3⟩ := hh
          obtain ⟨cur1, g1, g2, g3⟩ := hw0
          rw [f1] at g1
          have ecur : cur0 = cur1 := by injection g1 with g1; injection g1
          subst ecur
          have epre : mk Cs[i] n' = (mk c m).take (n' * 2) := by
            rw [← f3, ← g3, mk_len, mk_len, List.take_take, Nat.min_eq_left (by omega)]
          rw [epre]
          have hw2 : Head w' g' 59 ((mk c m).take (n' * 2) ++ ((mk c m).drop (n' * 2) ++ [.int .i64 (-(c : Int)), .int .i64 0])) := by
            rw [← List.append_assoc, List.take_append_drop]; exact hw
          exact hw2.less
        · exact ⟨cur, by rw [hg.block g' (by simp; omega) (by rw [hat]; simpa using he)]; exact e1, e2, e3⟩
      · exact ⟨cur, by rw [hgn.block g' (by simp; omega) (by simp)]; exact e1, e2, e3⟩
  · intro i h1 g' m' cp he hgb
    have hgg : g' = g := by simpa [Value.ownBlock] using hgb.symm
    subst hgg
    rcases hat with hat | ⟨hat, _⟩
    · have := hC i h1 g' m' cp he hat
      omega
    · obtain ⟨p, n', cp', hu, hn', hc⟩ := hL i h1 (by omega)
      rw [he] at hu
      injection hu with e1 e2 e3
      subst e2
      rcases hc with hc | ⟨g'', e1', hh⟩
      · omega
      · have hlt := hh.lt
        rw [← e1] at e1'
        injection e1' with e1'
        injection e1' with e1'
        simp at hat
        omega

theorem flatR_set (l : List (Int × Int)) (i : Nat) (a b : Int) : ((flatR l).set (i * 2) (.int .i64 a)).set (i * 2 + 1) (.int .i64 b) = flatR (l.set i (a, b)) := by
  induction l generalizing i with
  | nil => simp [flatR]
  | cons p l ih =>
    cases i with
    | zero => simp [flatR]
    | succ i =>
      have := ih i
      rw [show (i + 1) * 2 = i * 2 + 2 from by omega, show i * 2 + 2 + 1 = i * 2 + 1 + 2 from by omega]
      simp only [flatR, List.flatMap_cons, List.set_cons_succ] at this ⊢
      simp only [List.cons_append, List.nil_append, List.set_cons_succ]
      rw [this]
theorem set_marks (l : List (Int × Int)) (j : Nat) (x : Int × Int) (h : j < l.length) : (List.replicate j x ++ l.drop j).set j x = List.replicate (j + 1) x ++ l.drop (j + 1) := by
  rw [List.set_append, if_neg (by simp), List.length_replicate, Nat.sub_self, List.replicate_succ', List.drop_eq_getElem_cons h, List.set_cons_zero, List.append_assoc]
  rfl

/-- The lists stay where but v, which lies behind them, is written. -/
theorem lists_other {w w' : World} {B2 : Nat} {v : Value} {Us : List Value} {Cs : List Nat} (hL : Lists w Us Cs) (hsep : ∀ i (h : i < Us.length) g m' cp, Us[i] = .slice (some ⟨g, 0, none⟩) m' cp → m' ≠ 0 → g < B2) (hv : ∀ g, v.ownBlock = some g → B2 ≤ g) (hg : w.grownBy w' v.ownBlock) : Lists w' Us Cs := by
  intro i h1 h2
  obtain ⟨p, n', cp, hu, hn', hc⟩ := hL i h1 h2
  refine ⟨p, n', cp, hu, hn', ?_⟩
  rcases hc with hc | ⟨g', rfl, hh⟩
  · exact .inl hc
  · by_cases h0 : n' = 0
    · exact .inl h0
    · have hlt := hsep i h1 g' n' cp hu h0
      obtain ⟨cur, e1, e2, e3⟩ := hh
      exact .inr ⟨g', rfl, cur, by rw [hg.block g' (block_lt e1) (fun e => by have := hv _ e.symm; omega)]; exact e1, e2, e3⟩

/-- A round of the second loop of Books.records: what holds behind j lists. -/
structure Lp (B B2 : Nat) (w0 : World) (kb c hm m L j : Nat) (v : Value) (w : World) : Prop where
  ex : ∃ Rv Nv Us Cs, Rows2 B w kb c Rv Nv Us Cs ∧ Lists w Us Cs ∧ Cs.length = Us.length ∧ Us.length = L + j ∧ (∀ i (h : i < Cs.length), Cs[i] ≤ 1000) ∧ Caps Us v (m + j)
  own : w.ownsRow B2 59 2 v (m + j) (mk c (m + j))
  mark : w.heap[hm]? = some (.cells #[.int .i64 (-(c : Int)), .int .i64 0] 59 (0, 0))
  hne : v.ownBlock ≠ some hm
  bel : Below B w0 w
  frm : ∀ (k : Nat) (c' : Array Value) (fr : Nat × Nat), k < B2 → w0.heap[k]? = some (Obj.cells c' 59 fr) → w.heap[k]? = some (Obj.cells c' 59 fr)
  hb2 : B2 ≤ w.heap.size
end Go.Proofs.YtfpojgljgbgkkaaDoor
