import Derived.Test.YtfpojgljgbgkkaaGreatDoorPA
import Derived.Test.YtfpojgljgbgkkaaGreatDoorPO
import Derived.MapKept
import Derived.ChangeMaps4
import Derived.Test.YtfpojgljgbgkkaaGreatDoorPB
import Derived.BigQuiet
/-
  Maps whose keys are a node and a transaction; what a call leaves as it was.
-/
namespace Go.Proofs.YtfpojgljgbgkkaaGreatDoor
open Go.RowKit Go.MapKept
open Go.ChangeMaps (setBlock)

/-- All blocks but those of S are as they were. -/
structure Only (S : List Nat) (w w' : World) : Prop where
  os : w'.os = w.os
  tape : w'.tape = w.tape
  output : w'.output = w.output
  size : w.heap.size ≤ w'.heap.size
  block : ∀ k, k < w.heap.size → k ∉ S → w'.heap[k]? = w.heap[k]?
theorem Only.refl (S : List Nat) (w : World) : Only S w w := ⟨rfl, rfl, rfl, Nat.le_refl _, fun _ _ _ => rfl⟩
theorem Only.trans {S : List Nat} {a b c : World} (h : Only S a b) (k : Only S b c) : Only S a c :=
  ⟨k.os.trans h.os, k.tape.trans h.tape, k.output.trans h.output, Nat.le_trans h.size k.size, fun i hi hs => (k.block i (Nat.lt_of_lt_of_le hi h.size) hs).trans (h.block i hi hs)⟩
theorem Only.mono {S S' : List Nat} {a b : World} (h : Only S a b) (hs : ∀ x ∈ S, x ∈ S') : Only S' a b :=
  ⟨h.os, h.tape, h.output, h.size, fun i hi hn => h.block i hi (fun e => hn (hs i e))⟩
theorem Only.of_below {S : List Nat} {a b : World} (h : Below a.heap.size a b) : Only S a b := ⟨h.os, h.tape, h.output, h.size, fun i hi _ => h.block i hi⟩
theorem Only.below {a b : World} (h : Only [] a b) : Below a.heap.size a b := ⟨h.os, h.tape, h.output, h.size, fun i hi => h.block i hi (by simp)⟩
theorem Only.alloc {S : List Nat} {a b : World} (h : Only S a b) (o : Obj) : Only S a (b.alloc o) :=
  ⟨h.os, h.tape, h.output, Nat.le_trans h.size (by simp), fun i hi hs => by rw [Below.heap_alloc _ _ _ (Nat.lt_of_lt_of_le hi h.size)]; exact h.block i hi hs⟩
theorem Only.setCell {S : List Nat} {a b : World} (h : Only S a b) {p : Addr} (hp : p.block ∈ S ∨ a.heap.size ≤ p.block) (u : Value) : Only S a (b.setCell p u) :=
  ⟨h.os, h.tape, h.output, by simpa [World.setCell] using h.size, fun i hi hs => by rw [Below.heap_setCell _ _ _ _ (fun e => by subst e; rcases hp with hp | hp; exact hs hp; omega)]; exact h.block i hi hs⟩
theorem Only.drew {S : List Nat} {a b : World} (h : Only S a b) : Only S a b.drew := ⟨h.os, h.tape, h.output, h.size, h.block⟩
theorem Only.drewN {S : List Nat} {a b : World} (h : Only S a b) (n : Nat) : Only S a (b.drewN n) := ⟨h.os, h.tape, h.output, h.size, h.block⟩
theorem Only.setBlock {S : List Nat} {a b : World} (h : Only S a b) {r : Nat} (hr : r ∈ S ∨ a.heap.size ≤ r) (o : Obj) : Only S a (ChangeMaps.setBlock b r o) :=
  ⟨h.os, h.tape, h.output, by simpa [ChangeMaps.setBlock] using h.size, fun i hi hs => by
    have hne : r ≠ i := fun e => by subst e; rcases hr with hr | hr; exact hs hr; omega
    show (b.heap.setIfInBounds r o)[i]? = _
    rw [Array.getElem?_setIfInBounds_ne hne]
    exact h.block i hi hs⟩
theorem Only.grown {S : List Nat} {a b c : World} {row : Option Nat} (h : Only S a b) (hg : b.grownBy c row) (hr : ∀ k, row = some k → k ∈ S ∨ a.heap.size ≤ k) : Only S a c :=
  ⟨hg.os.trans h.os, hg.tape.trans h.tape, hg.output.trans h.output, Nat.le_trans h.size hg.size, fun i hi hs => by
    rw [hg.block i (Nat.lt_of_lt_of_le hi h.size) (fun e => by rcases hr i e.symm with hr | hr; exact hs hr; omega)]
    exact h.block i hi hs⟩
theorem Only.cell {S : List Nat} {a b : World} (h : Only S a b) {p : Addr} {u : Value} (hc : a.cell? p = some u) (hp : p.block ∉ S) : b.cell? p = some u := by
  rw [World.cell?_of_block (h.block p.block (cell_block hc) hp)]; exact hc
theorem Only.at {S : List Nat} {a b : World} (h : Only S a b) {k : Nat} {o : Obj} (hk : a.heap[k]? = some o) (hp : k ∉ S) : b.heap[k]? = some o := by
  rw [h.block k (block_lt hk) hp]; exact hk

/-- A key: a node and a transaction. -/
def keyV (a b : Int) : Value := .agg #[.int .i64 a, .int .i64 b]
theorem key_eq (a b c d : Int) (w : World) : (Op.equal 150 (keyV a b) (keyV c d)).run Tryz.prog w = .ok (decide (a = c ∧ b = d)) w := by
  unfold keyV
  show (Op.equalIn 10000 150 (.agg #[.int .i64 a, .int .i64 b]) (.agg #[.int .i64 c, .int .i64 d])).run Tryz.prog w = _
  go_simp
  by_cases h1 : a = c <;> by_cases h2 : b = d <;> simp [h1, h2]
theorem key_check (em : Bool) (a b : Int) (w : World) : (Instr.checkKey em 10000 150 (keyV a b)).run Tryz.prog w = .ok () w := by
  cases em <;> kernel_rfl

/-- What stands under a key, and its place. -/
def pos (x y : Int) : List ((Int × Int) × Value) → Nat → Option (Nat × Value)
  | [], _ => none
  | p :: L, i => if p.1.1 = x ∧ p.1.2 = y then some (i, p.2) else pos x y L (i + 1)
def encE (p : (Int × Int) × Value) : Value × Value := (keyV p.1.1 p.1.2, p.2)
def entE (e : MapEntry) : Value × Value := (e.key, e.val)
theorem run_findAsking (x y : Int) (w : World) : ∀ (es : List MapEntry) (L : List ((Int × Int) × Value)) (i : Nat), es.map entE = L.map encE → (Instr.findAsking 150 (keyV x y) es i).run Tryz.prog w = .ok (pos x y L i) w
  | [], [], i, _ => rfl
  | [], p :: L, i, h => by simp at h
  | e :: es, [], i, h => by simp at h
  | e :: es, p :: L, i, h => by
    simp only [List.map_cons, List.cons.injEq] at h
    obtain ⟨h1, h2⟩ := h
    have hk : e.key = keyV p.1.1 p.1.2 := congrArg Prod.fst h1
    have hv : e.val = p.2 := congrArg Prod.snd h1
    simp only [Instr.findAsking, Sem.run_bind, hk, key_eq, Result.andThen_ok, pos, hv]
    by_cases hc : p.1.1 = x ∧ p.1.2 = y
    · obtain ⟨c1, c2⟩ := hc
      simp [c1, c2]
    · have hc' : ¬ (x = p.1.1 ∧ y = p.1.2) := fun h => hc ⟨h.1.symm, h.2.symm⟩
      simp only [hc, hc', decide_false, Bool.false_eq_true, if_false]
      exact run_findAsking x y w es L (i + 1) h2
theorem run_findKey (x y : Int) (w : World) (es : List MapEntry) (L : List ((Int × Int) × Value)) (h : es.map entE = L.map encE) : (Instr.findKey 150 (keyV x y) es).run Tryz.prog w = .ok (pos x y L 0) w := by
  cases es with
  | nil =>
    cases L with
    | nil => simp [Instr.findKey, run_underlying Tryz.underlying150, Instr.findNow, pos]
    | cons p L => simp at h
  | cons e es =>
    have ha := run_findAsking x y w (e :: es) L 0 h
    simp only [Instr.findKey, Sem.run_bind, run_underlying Tryz.underlying150, Result.andThen_ok, Instr.findNow, Instr.sameNow]
    exact ha

/-- Each entry has a stamp of its own, older than the clock. -/
def Stamp (es : Array MapEntry) (clock : Nat) : Prop := (∀ e ∈ es.toList, e.born < clock) ∧ (es.toList.map (·.born)).Nodup
theorem Stamp.push {es : Array MapEntry} {clock : Nat} (h : Stamp es clock) (k v : Value) : Stamp (es.push { key := k, val := v, born := clock }) (clock + 1) := by
  refine ⟨fun e he => ?_, ?_⟩
  · simp only [Array.toList_push, List.mem_append, List.mem_singleton] at he
    rcases he with he | rfl
    · have := h.1 e he; omega
    · simp
  · simp only [Array.toList_push, List.map_append, List.map_cons, List.map_nil]
    rw [List.nodup_append]
    refine ⟨h.2, by simp, fun a ha b hb => ?_⟩
    simp only [List.mem_singleton] at hb
    subst hb
    obtain ⟨e, he, rfl⟩ := List.mem_map.1 ha
    have := h.1 e he
    omega
theorem Stamp.modify {es : Array MapEntry} {clock : Nat} (h : Stamp es clock) (i : Nat) (k v : Value) : Stamp (es.modify i fun e => { e with key := k, val := v }) clock := by
  have hb : (es.modify i fun e => { e with key := k, val := v }).toList.map (·.born) = es.toList.map (·.born) := by
    apply List.ext_getElem?
    intro j
    simp only [List.getElem?_map, Array.getElem?_toList, Array.getElem?_modify]
    by_cases hj : i = j
    · subst hj
      cases es[i]? <;> simp
    · simp [hj]
  refine ⟨fun e he => ?_, by rw [hb]; exact h.2⟩
  have : e.born ∈ es.toList.map (·.born) := by rw [← hb]; exact List.mem_map.2 ⟨e, he, rfl⟩
  obtain ⟨e', he', hq⟩ := List.mem_map.1 this
  rw [← hq]
  exact h.1 e' he'
theorem Stamp.sub {es es' : Array MapEntry} {clock : Nat} (h : Stamp es clock) (hs : es'.toList.Sublist es.toList) : Stamp es' clock :=
  ⟨fun e he => h.1 e (hs.subset he), h.2.sublist (hs.map _)⟩

/-- The map in block b: what stands under each key, in the order in which they came. -/
def MapI (w : World) (b : Nat) (L : List ((Int × Int) × Value)) : Prop :=
  ∃ es clock, w.heap[b]? = some (.map es clock) ∧ es.toList.map entE = L.map encE ∧ Stamp es clock
def lookV (L : List ((Int × Int) × Value)) (x y : Int) : Option Value := (pos x y L 0).map (·.2)
theorem run_look {w : World} {b : Nat} {L : List ((Int × Int) × Value)} (h : MapI w b L) {mt et : TypeId} {z : Value} (hm : Tryz.prog.underlying mt = some (.map 150 et)) (hz : ∀ w, (zeroValue et).run Tryz.prog w = .ok z w) (x y : Int) (c : Bool) :
    (Instr.lookup mt (.map (some b)) (keyV x y) c).run Tryz.prog w = .ok (if c then .tuple #[(lookV L x y).getD z, .bool (lookV L x y).isSome] else (lookV L x y).getD z) w := by
  obtain ⟨es, clock, hb, he, -⟩ := h
  have hf := run_findKey x y w es.toList L he
  simp only [Instr.lookup, Sem.run_bind, run_underlying hm, Result.andThen_ok, MapKept.run_getObj_map hb, key_check, lookV]
  cases hp : pos x y L 0 with
  | none => rw [hp] at hf; simp [hf, hz]
  | some q => obtain ⟨j, v⟩ := q; rw [hp] at hf; simp [hf]

theorem key_stays (x y : Int) (w : World) : (Instr.keyThatStays (keyV x y) (keyV x y)).run Tryz.prog w = .ok (keyV x y) w := by
  simp [Instr.keyThatStays, Instr.sameBits, keyV]

/-- One key more, or another value under a key. -/
def putL (x y : Int) (v : Value) : List ((Int × Int) × Value) → List ((Int × Int) × Value)
  | [] => [((x, y), v)]
  | p :: L => if p.1.1 = x ∧ p.1.2 = y then (p.1, v) :: L else p :: putL x y v L
/-- A key less. -/
def delL (x y : Int) : List ((Int × Int) × Value) → List ((Int × Int) × Value)
  | [] => []
  | p :: L => if p.1.1 = x ∧ p.1.2 = y then L else p :: delL x y L
theorem pos_none (x y : Int) (v : Value) : ∀ (L : List ((Int × Int) × Value)) (i : Nat), pos x y L i = none → putL x y v L = L ++ [((x, y), v)] ∧ delL x y L = L
  | [], _, _ => ⟨rfl, rfl⟩
  | p :: L, i, h => by
    simp only [pos] at h
    by_cases hc : p.1.1 = x ∧ p.1.2 = y
    · simp [hc] at h
    · simp only [hc, if_false] at h
      have := pos_none x y v L (i + 1) h
      simp only [putL, delL, hc, if_false, this.1, this.2, List.cons_append]
      exact ⟨trivial, trivial⟩
theorem pos_some (x y : Int) (v : Value) : ∀ (L : List ((Int × Int) × Value)) (i j : Nat) (u : Value), pos x y L i = some (j, u) → ∃ k, j = i + k ∧ L[k]? = some ((x, y), u) ∧ putL x y v L = L.set k ((x, y), v) ∧ delL x y L = L.eraseIdx k
  | [], _, _, _, h => by simp [pos] at h
  | p :: L, i, j, u, h => by
    simp only [pos] at h
    by_cases hc : p.1.1 = x ∧ p.1.2 = y
    · simp only [hc, and_self, if_true, Option.some.injEq, Prod.mk.injEq] at h
      obtain ⟨rfl, rfl⟩ := h
      obtain ⟨rfl, rfl⟩ := hc
      exact ⟨0, rfl, rfl, by simp [putL], by simp [delL]⟩
    · simp only [hc, if_false] at h
      obtain ⟨k, rfl, h2, h3, h4⟩ := pos_some x y v L (i + 1) j u h
      exact ⟨k + 1, by omega, by simpa using h2, by simp [putL, hc, h3], by simp [delL, hc, h4]⟩

theorem heap_setBlock {w : World} {b : Nat} {o : Obj} (h : w.heap[b]? = some o) (o' : Obj) : (ChangeMaps.setBlock w b o').heap[b]? = some o' := by
  show (w.heap.setIfInBounds b o')[b]? = _
  rw [Array.getElem?_setIfInBounds_self_of_lt (block_lt h)]
theorem run_put {w : World} {b : Nat} {L : List ((Int × Int) × Value)} (h : MapI w b L) {mt et : TypeId} (hm : Tryz.prog.underlying mt = some (.map 150 et)) (x y : Int) (v : Value) :
    ∃ o, (∀ n, (Instr.mapUpdate mt (.map (some b)) (keyV x y) v).run Tryz.prog (w.drewN n) = .ok () ((ChangeMaps.setBlock w b o).drewN n)) ∧ MapI (ChangeMaps.setBlock w b o) b (putL x y v L) := by
  obtain ⟨es, clock, hb, he, hst⟩ := h
  cases hp : pos x y L 0 with
  | none =>
    refine ⟨.map (es.push { key := keyV x y, val := v, born := clock }) (clock + 1), fun n => ?_, _, _, heap_setBlock hb _, ?_, hst.push _ _⟩
    · have hbn : (w.drewN n).heap[b]? = some (.map es clock) := hb
      have hf := run_findKey x y (w.drewN n) es.toList L he
      rw [hp] at hf
      simp [Instr.mapUpdate, run_underlying hm, MapKept.run_getObj_map hbn, key_check, hf, MapKept.run_setObj_map _ hbn, Result.andThen]
      rfl
    · rw [(pos_none x y v L 0 hp).1]
      simp [he, entE, encE]
  | some q =>
    obtain ⟨j, u⟩ := q
    obtain ⟨k, rfl, h2, h3, h4⟩ := pos_some x y v L 0 j u hp
    rw [Nat.zero_add] at hp
    have hk : k < es.size := by
      have := congrArg List.length he
      simp at this
      have := (List.getElem?_eq_some_iff.1 h2).1
      omega
    have hek : (es[k]?).map entE = some (keyV x y, u) := by
      have := congrArg (fun l => l[k]?) he
      simp only [List.getElem?_map, h2, Option.map_some, Array.getElem?_toList] at this
      exact this
    have hkey : ((es[k]?).map (·.key)).getD (keyV x y) = keyV x y := by
      cases h : es[k]? with
      | none => rfl
      | some e => rw [h] at hek; simp [entE] at hek; simp [hek.1]
    refine ⟨.map (es.modify k fun e => { e with key := keyV x y, val := v }) clock, fun n => ?_, _, _, heap_setBlock hb _, ?_, hst.modify _ _ _⟩
    · have hbn : (w.drewN n).heap[b]? = some (.map es clock) := hb
      have hf := run_findKey x y (w.drewN n) es.toList L he
      rw [hp] at hf
      simp [Instr.mapUpdate, run_underlying hm, MapKept.run_getObj_map hbn, key_check, hf, hkey, key_stays, MapKept.run_setObj_map _ hbn, Result.andThen]
      rfl
    · rw [h3, List.map_set, ← he]
      apply List.ext_getElem?
      intro i
      simp only [List.getElem?_map, List.getElem?_set, List.length_map, Array.getElem?_toList, Array.getElem?_modify, Array.length_toList]
      by_cases hi : k = i
      · subst hi
        simp only [if_true, hk]
        cases h : es[k]? with
        | none => simp at h; omega
        | some e => simp [entE, encE]
      · simp [hi]
end Go.Proofs.YtfpojgljgbgkkaaGreatDoor

/-
  What the nodes have in common: keys, messages, logs.
-/
namespace Go.Proofs.YtfpojgljgbgkkaaGreatDoor
open Go.RowKit
open Go.ChangeMaps (setBlock)

attribute [local go_sem] bs_append bs_size nums_len sumL_len List.length_append List.length_cons List.length_nil
attribute [local go_sem ↓] Go.wp_at_zero Go.wp_at_succ

set_option maxRecDepth 100000 in
set_option maxHeartbeats 1000000 in
theorem key_any (nb : Nat) (n t : Int) (w : World) (h0 : w.cell? ⟨nb, 0, none⟩ = some (.int .i64 n)) :
    Calls Tryz.prog 65 #[.pointer (some ⟨nb, 0, none⟩), .int .i64 t] w fun e w' => e = .returned (keyV n t) ∧ w' = w.alloc (.cells #[.int .i64 n, .int .i64 t] 150) := by
  have hl := cell_block h0
  simp at hl
  go_enter Tryz.func65, Tryz.ntmps65
  go_wp2
  exact bodyPost_ret (v := keyV n t) (by simp [results, Tryz.results65, go_sem, keyV]) rfl ⟨rfl, rfl⟩

set_option maxRecDepth 100000 in
set_option maxHeartbeats 1000000 in
theorem message_any (nb : Nat) (n k to t : Int) (w : World) (h0 : w.cell? ⟨nb, 0, none⟩ = some (.int .i64 n)) :
    Calls Tryz.prog 135 #[.pointer (some ⟨nb, 0, none⟩), .int .i64 k, .int .i64 to, .int .i64 t] w fun e w' => e = .returned (msgV k n to t) ∧ w' = w.alloc (.cells #[.int .i64 k, .int .i64 n, .int .i64 to, .int .i64 t] 64) := by
  have hl := cell_block h0
  simp at hl
  go_enter Tryz.func135, Tryz.ntmps135
  go_wp2
  exact bodyPost_ret (v := msgV k n to t) (by simp [results, Tryz.results135, go_sem, msgV]) rfl ⟨rfl, rfl⟩

set_option maxRecDepth 100000 in
set_option maxHeartbeats 1000000 in
theorem force_any (nb : Nat) (text : List UInt8) (s : Int) (w : World) (h1 : w.cell? ⟨nb, 1, none⟩ = some (.string (bs text))) (h2 : w.cell? ⟨nb, 2, none⟩ = some (.int .i64 s)) (hf : w.frozen? ⟨nb, 2, none⟩ = false) :
    Calls Tryz.prog 93 #[.pointer (some ⟨nb, 1, none⟩)] w fun e w' => e = .returned (.tuple #[]) ∧ w' = w.setCell ⟨nb, 2, none⟩ (.int .i64 (text.length : Int)) := by
  go_enter Tryz.func93, Tryz.ntmps93
  go_wp2
  exact bodyPost_end (v := .tuple #[]) (by simp [results, Tryz.results93, go_sem]) rfl ⟨rfl, rfl⟩

theorem recL_len (k x : Int) : (recL k x).length ≤ 9 := by
  have := (txL_len x).2
  simp [recL, frame, nums_len, sumL_len]
  omega

/-- An operation that yields is taken first; the place it writes named. -/
theorem takeD {P : Program} {ops : Array Oper} {Q : Exit → Act → World → Prop} {md : Region.Mode} {S : World → Prop} (i d : Nat) (v : Value) {oi : Oper} {fuel : Nat} {listed : Array Bool} {a : Act} {w : World} (hi : ops[i]? = some oi) (hd : oi.dst = some d)
    (hs : Region.noSelect ops = true) (hf : Region.free md ops listed i = true) (hr : (Region.ready md ops listed).contains i = true)
    (hQ : ∀ c a w, Q (.panic c) (a.put oi.dst v) w → Q (.panic c) a w) (hy : YieldsIf P ops S oi v a) (hS : S w)
    (h : wpAnyH P md ops Q S fuel (listed.setIfInBounds i true) { a with tmps := a.tmps.setIfInBounds d v } w) : wpAnyH P md ops Q S (fuel + 1) listed a w :=
  wpAnyH_take hi hs hf hr hQ hy hS (by rw [hd]; exact h)


set_option maxRecDepth 100000 in
set_option maxHeartbeats 2000000 in
theorem logWrite_any (nb : Nat) (text : List UInt8) (k x : Int) (w : World) (h1 : w.cell? ⟨nb, 1, none⟩ = some (.string (bs text))) (hf : w.frozen? ⟨nb, 1, none⟩ = false) (hl : text.length ≤ 1000000) (hk1 : 1 ≤ k) (hk2 : k ≤ 5) (hx1 : 1 ≤ x) (hx2 : x ≤ 16383) :
    Calls Tryz.prog 133 #[.pointer (some ⟨nb, 1, none⟩), .agg #[.int .i64 k, .int .i64 x]] w fun e w' => e = .returned (.tuple #[]) ∧ ∃ w2, Only [] w w2 ∧ w' = w2.setCell ⟨nb, 1, none⟩ (.string (bs (text ++ recL k x))) := by
  have hnl := cell_block h1
  simp at hnl
  have hrl := recL_len k x
  have hcat : ¬ 9223372036854775807 < text.length + (recL k x).length := by omega
  go_enter Tryz.func133, Tryz.ntmps133
  go_wp2
  refine wp_region_held_drew (S := fun w' => w'.cell? ⟨w.heap.size, 0, none⟩ = some (.int .i64 k) ∧ w'.cell? ⟨w.heap.size, 1, none⟩ = some (.int .i64 x)) (by kernel_rfl) ?_ (fun hHeld => ?_)
  · simp
  refine takeD 0 4 (.pointer (some ⟨nb, 1, none⟩)) rfl rfl (by kernel_rfl) (by kernel_rfl) (by kernel_rfl) (fun _ _ _ h => h) (Or.inl ⟨by kernel_rfl, ?_⟩) (by assumption) ?_
  · intro w hSw; go_simp
  simp only [List.setIfInBounds_toArray, List.set_cons_zero, List.set_cons_succ]
  refine takeD 1 5 (.pointer (some ⟨nb, 1, none⟩)) rfl rfl (by kernel_rfl) (by kernel_rfl) (by kernel_rfl) (fun _ _ _ h => h) (Or.inl ⟨by kernel_rfl, ?_⟩) (by assumption) ?_
  · intro w hSw; go_simp
  simp only [List.setIfInBounds_toArray, List.set_cons_zero, List.set_cons_succ]
  refine takeD 2 6 (.pointer (some ⟨nb, 1, none⟩)) rfl rfl (by kernel_rfl) (by kernel_rfl) (by kernel_rfl) (fun _ _ _ h => h) (Or.inl ⟨by kernel_rfl, ?_⟩) (by assumption) ?_
  · intro w hSw; go_simp
  simp only [List.setIfInBounds_toArray, List.set_cons_zero, List.set_cons_succ]
  refine takeD 4 8 (.agg #[.int .i64 k, .int .i64 x]) rfl rfl (by kernel_rfl) (by kernel_rfl) (by kernel_rfl) (fun _ _ _ h => h) (Or.inl ⟨by kernel_rfl, ?_⟩) (by assumption) ?_
  · intro w hSw; go_simp
  simp only [List.setIfInBounds_toArray, List.set_cons_zero, List.set_cons_succ]
  refine wpAnyH_ready (rs := [3, 5]) (by kernel_rfl) (by simp) ?_
  refine (AllReadyH.cons rfl (fun K hK => ?ordA) (AllReadyH.cons rfl (fun K hK => ?ordB) AllReadyH.nil))
  case' ordA =>
    go_simp
    refine hK.out _ _ ?_ (fun hHeld => ?_)
    · simp
    clear hK K
    refine wpAnyH_ready (rs := [5]) (by kernel_rfl) (by simp) ?_
    refine (AllReadyH.cons rfl (fun K hK => ?_) AllReadyH.nil)
    go_simp
    refine (writeRecord_any k x _ hk1 hk2 hx1 hx2).mono ?_
    rintro e w2 ⟨rfl, hb2⟩
    have hz2 : w.heap.size < w2.heap.size := by have := hb2.size; simp at this; omega
    have s0 : w2.cell? ⟨w.heap.size, 0, none⟩ = some (.int .i64 k) := by rw [hb2.cell (p := ⟨w.heap.size, 0, none⟩) (by simp)]; simp
    have s1 : w2.cell? ⟨w.heap.size, 1, none⟩ = some (.int .i64 x) := by rw [hb2.cell (p := ⟨w.heap.size, 1, none⟩) (by simp)]; simp
    have t2 : w2.cell? ⟨nb, 1, none⟩ = some (.string (bs text)) := by
      rw [hb2.cell (p := ⟨nb, 1, none⟩) (by simp; omega)]
      simp only [World.cell?_drew]
      rw [World.cell?_alloc_lt _ _ _ hnl]; exact h1
    have f2 : w2.frozen? ⟨nb, 1, none⟩ = false := by
      rw [hb2.frozen (p := ⟨nb, 1, none⟩) (by simp; omega)]
      simp only [World.frozen?_drew]
      rw [World.frozen?_alloc_old _ _ _ (Nat.ne_of_lt hnl)]; exact hf
    go_wp2_with fail
    refine hK.out _ _ ⟨s0, s1⟩ (fun hHeld => ?_)
    clear hK K
  case' ordB =>
    go_simp
    refine (writeRecord_any k x _ hk1 hk2 hx1 hx2).mono ?_
    rintro e w2 ⟨rfl, hb2⟩
    have hz2 : w.heap.size < w2.heap.size := by have := hb2.size; simp at this; omega
    have s0 : w2.cell? ⟨w.heap.size, 0, none⟩ = some (.int .i64 k) := by rw [hb2.cell (p := ⟨w.heap.size, 0, none⟩) (by simp)]; simp
    have s1 : w2.cell? ⟨w.heap.size, 1, none⟩ = some (.int .i64 x) := by rw [hb2.cell (p := ⟨w.heap.size, 1, none⟩) (by simp)]; simp
    have t2 : w2.cell? ⟨nb, 1, none⟩ = some (.string (bs text)) := by
      rw [hb2.cell (p := ⟨nb, 1, none⟩) (by simp; omega)]
      simp only [World.cell?_drew]
      rw [World.cell?_alloc_lt _ _ _ hnl]; exact h1
    have f2 : w2.frozen? ⟨nb, 1, none⟩ = false := by
      rw [hb2.frozen (p := ⟨nb, 1, none⟩) (by simp; omega)]
      simp only [World.frozen?_drew]
      rw [World.frozen?_alloc_old _ _ _ (Nat.ne_of_lt hnl)]; exact hf
    go_wp2_with fail
    refine hK.out _ _ ⟨s0, s1⟩ (fun hHeld => ?_)
    clear hK K
    refine wpAnyH_ready (rs := [3]) (by kernel_rfl) (by simp) ?_
    refine (AllReadyH.cons rfl (fun K hK => ?_) AllReadyH.nil)
    go_simp
    refine hK.out _ _ ⟨s0, s1⟩ (fun hHeld => ?_)
    clear hK K
  all_goals
    refine takeD 6 10 (.string (bs (text ++ recL k x))) rfl rfl (by kernel_rfl) (by kernel_rfl) (by kernel_rfl) (fun _ _ _ h => h) (Or.inl ⟨by kernel_rfl, ?_⟩) (by assumption) ?_
    · intro w hSw; go_simp
    simp only [List.setIfInBounds_toArray, List.set_cons_zero, List.set_cons_succ]
    refine takeD 7 11 (.pointer (some ⟨nb, 1, none⟩)) rfl rfl (by kernel_rfl) (by kernel_rfl) (by kernel_rfl) (fun _ _ _ h => h) (Or.inl ⟨by kernel_rfl, ?_⟩) (by assumption) ?_
    · intro w hSw; go_simp
    simp only [List.setIfInBounds_toArray, List.set_cons_zero, List.set_cons_succ]
    refine takeD 8 12 (.pointer (some ⟨nb, 1, none⟩)) rfl rfl (by kernel_rfl) (by kernel_rfl) (by kernel_rfl) (fun _ _ _ h => h) (Or.inl ⟨by kernel_rfl, ?_⟩) (by assumption) ?_
    · intro w hSw; go_simp
    simp only [List.setIfInBounds_toArray, List.set_cons_zero, List.set_cons_succ]
    refine wpAnyH_ready (rs := [9]) (by kernel_rfl) (by simp) ?_
    refine (AllReadyH.cons rfl (fun K hK => ?_) AllReadyH.nil)
    go_simp
    refine hK.out _ _ ?_ (fun hHeld => ?_)
    · exact ⟨by rw [World.cell?_setCell_other _ _ _ _ (by simp)]; exact s0, by rw [World.cell?_setCell_other _ _ _ _ (by simp)]; exact s1⟩
    clear hK K
    refine wpAnyH_done (by kernel_rfl) ?_ _
    go_wp2
    exact bodyPost_end (v := .tuple #[]) (by simp [results, Tryz.results133, go_sem]) rfl ⟨rfl, w2, Only.of_below (((Below.refl _ _).alloc (Nat.le_refl _) _).drew.trans (hb2.mono (by simp))), rfl⟩

/-- A node's own block: its number, its log, what it knows, and the rest. -/
def NodeAt (w : World) (nb : Nat) (T : TypeId) (n : Int) (text : List UInt8) (s : Int) (kn : Nat) (rest : List Value) : Prop :=
  w.heap[nb]? = some (.cells (.int .i64 n :: .string (bs text) :: .int .i64 s :: .map (some kn) :: rest).toArray T (0, 0))
theorem NodeAt.cells {w : World} {nb : Nat} {T : TypeId} {n s : Int} {text : List UInt8} {kn : Nat} {rest : List Value} (h : NodeAt w nb T n text s kn rest) :
    w.cell? ⟨nb, 0, none⟩ = some (.int .i64 n) ∧ w.cell? ⟨nb, 1, none⟩ = some (.string (bs text)) ∧ w.cell? ⟨nb, 2, none⟩ = some (.int .i64 s) ∧ w.cell? ⟨nb, 3, none⟩ = some (.map (some kn)) ∧ ∀ o, w.frozen? ⟨nb, o, none⟩ = false :=
  ⟨by rw [cell_of_row _ _ _ _ _ _ h]; rfl, by rw [cell_of_row _ _ _ _ _ _ h]; rfl, by rw [cell_of_row _ _ _ _ _ _ h]; rfl, by rw [cell_of_row _ _ _ _ _ _ h]; rfl, fun o => frozen_of_row _ _ _ _ _ h⟩
theorem NodeAt.only {S : List Nat} {w w' : World} {nb : Nat} {T : TypeId} {n s : Int} {text : List UInt8} {kn : Nat} {rest : List Value} (h : NodeAt w nb T n text s kn rest) (ho : Only S w w') (hs : nb ∉ S) : NodeAt w' nb T n text s kn rest := ho.at h hs
theorem NodeAt.setText {w : World} {nb : Nat} {T : TypeId} {n s : Int} {text : List UInt8} {kn : Nat} {rest : List Value} (h : NodeAt w nb T n text s kn rest) (text' : List UInt8) : NodeAt (w.setCell ⟨nb, 1, none⟩ (.string (bs text'))) nb T n text' s kn rest := by
  unfold NodeAt
  rw [heap_setCell_same _ _ _ _ _ _ h]
  rfl
theorem NodeAt.setSafe {w : World} {nb : Nat} {T : TypeId} {n s : Int} {text : List UInt8} {kn : Nat} {rest : List Value} (h : NodeAt w nb T n text s kn rest) (s' : Int) : NodeAt (w.setCell ⟨nb, 2, none⟩ (.int .i64 s')) nb T n text s' kn rest := by
  unfold NodeAt
  rw [heap_setCell_same _ _ _ _ _ _ h]
  rfl
theorem MapI.only {S : List Nat} {w w' : World} {b : Nat} {L : List ((Int × Int) × Value)} (h : MapI w b L) (ho : Only S w w') (hs : b ∉ S) : MapI w' b L := by
  obtain ⟨es, clock, h1, h2⟩ := h
  exact ⟨es, clock, ho.at h1 hs, h2⟩
theorem MapI.ne {w : World} {b nb : Nat} {T : TypeId} {n s : Int} {text : List UInt8} {kn : Nat} {rest : List Value} {L : List ((Int × Int) × Value)} (h : MapI w b L) (h' : NodeAt w nb T n text s kn rest) : b ≠ nb := by
  rintro rfl
  obtain ⟨es, clock, h1, _⟩ := h
  unfold NodeAt at h'
  rw [h1] at h'
  cases h'
theorem MapI.drewN {w : World} {b : Nat} {L : List ((Int × Int) × Value)} (h : MapI w b L) (n : Nat) : MapI (w.drewN n) b L := h

set_option maxRecDepth 100000 in
set_option maxHeartbeats 2000000 in
theorem learn_any (nb : Nat) (n : Int) (kn : Nat) (L : List ((Int × Int) × Value)) (k x : Int) (w : World) (c0 : w.cell? ⟨nb, 0, none⟩ = some (.int .i64 n)) (c3 : w.cell? ⟨nb, 3, none⟩ = some (.map (some kn))) (hne : kn ≠ nb) (hM : MapI w kn L) (hk2 : k ≠ 5) :
    Calls Tryz.prog 134 #[.pointer (some ⟨nb, 0, none⟩), .agg #[.int .i64 k, .int .i64 x]] w fun e w' => e = .returned (.tuple #[]) ∧ Only [kn] w w' ∧ MapI w' kn (putL n x (.int .i64 k) L) := by
  have HM : Hid (MapI w kn L) := hM
  have hnl := cell_block c0
  simp at hnl
  have hkl : kn < w.heap.size := by obtain ⟨_, _, h, _⟩ := hM; exact block_lt h
  clear hM
  have k5 : (k != 5) = true := by rw [bne_iff_ne]; exact hk2
  have hOa : Only [] w (w.alloc (.cells #[.int .i64 k, .int .i64 x] 146)) := (Only.refl _ _).alloc _
  have d0 := hOa.cell c0 (by simp)
  have d3 := hOa.cell c3 (by simp)
  have db0 : (w.alloc (.cells #[.int .i64 k, .int .i64 x] 146)).cell? ⟨w.heap.size, 0, none⟩ = some (.int .i64 k) := by simp
  have db1 : (w.alloc (.cells #[.int .i64 k, .int .i64 x] 146)).cell? ⟨w.heap.size, 1, none⟩ = some (.int .i64 x) := by simp
  go_enter Tryz.func134, Tryz.ntmps134
  go_wp2_with fail
  refine wp_region_held_drew (S := fun w' => w'.cell? ⟨nb, 3, none⟩ = some (.map (some kn)) ∧ w'.cell? ⟨w.heap.size, 0, none⟩ = some (.int .i64 k) ∧ w'.cell? ⟨w.heap.size, 1, none⟩ = some (.int .i64 x)) (by kernel_rfl) ⟨d3, db0, db1⟩ (fun hHeld => ?_)
  refine takeD 0 7 (.pointer (some ⟨nb, 0, none⟩)) rfl rfl (by kernel_rfl) (by kernel_rfl) (by kernel_rfl) (fun _ _ _ h => h) (Or.inl ⟨by kernel_rfl, ?_⟩) (by assumption) ?_
  · intro w hSw; go_simp
  simp only [List.setIfInBounds_toArray, List.set_cons_zero, List.set_cons_succ]
  refine takeD 1 8 (.pointer (some ⟨nb, 0, none⟩)) rfl rfl (by kernel_rfl) (by kernel_rfl) (by kernel_rfl) (fun _ _ _ h => h) (Or.inl ⟨by kernel_rfl, ?_⟩) (by assumption) ?_
  · intro w hSw; go_simp
  simp only [List.setIfInBounds_toArray, List.set_cons_zero, List.set_cons_succ]
  refine takeD 2 9 (.pointer (some ⟨nb, 3, none⟩)) rfl rfl (by kernel_rfl) (by kernel_rfl) (by kernel_rfl) (fun _ _ _ h => h) (Or.inl ⟨by kernel_rfl, ?_⟩) (by assumption) ?_
  · intro w hSw; go_simp
  simp only [List.setIfInBounds_toArray, List.set_cons_zero, List.set_cons_succ]
  refine takeD 3 10 (.map (some kn)) rfl rfl (by kernel_rfl) (by kernel_rfl) (by kernel_rfl) (fun _ _ _ h => h) (Or.inl ⟨by kernel_rfl, ?_⟩) (by assumption) ?_
  · intro w hSw; go_simp
  simp only [List.setIfInBounds_toArray, List.set_cons_zero, List.set_cons_succ]
  refine takeD 4 11 (.pointer (some ⟨nb, 0, none⟩)) rfl rfl (by kernel_rfl) (by kernel_rfl) (by kernel_rfl) (fun _ _ _ h => h) (Or.inl ⟨by kernel_rfl, ?_⟩) (by assumption) ?_
  · intro w hSw; go_simp
  simp only [List.setIfInBounds_toArray, List.set_cons_zero, List.set_cons_succ]
  refine takeD 5 12 (.pointer (some ⟨w.heap.size, 1, none⟩)) rfl rfl (by kernel_rfl) (by kernel_rfl) (by kernel_rfl) (fun _ _ _ h => h) (Or.inl ⟨by kernel_rfl, ?_⟩) (by assumption) ?_
  · intro w hSw; go_simp
  simp only [List.setIfInBounds_toArray, List.set_cons_zero, List.set_cons_succ]
  refine takeD 6 13 (.int .i64 x) rfl rfl (by kernel_rfl) (by kernel_rfl) (by kernel_rfl) (fun _ _ _ h => h) (Or.inl ⟨by kernel_rfl, ?_⟩) (by assumption) ?_
  · intro w hSw; go_simp
  simp only [List.setIfInBounds_toArray, List.set_cons_zero, List.set_cons_succ]
  refine takeD 8 15 (.pointer (some ⟨w.heap.size, 0, none⟩)) rfl rfl (by kernel_rfl) (by kernel_rfl) (by kernel_rfl) (fun _ _ _ h => h) (Or.inl ⟨by kernel_rfl, ?_⟩) (by assumption) ?_
  · intro w hSw; go_simp
  simp only [List.setIfInBounds_toArray, List.set_cons_zero, List.set_cons_succ]
  refine takeD 9 16 (.int .i64 k) rfl rfl (by kernel_rfl) (by kernel_rfl) (by kernel_rfl) (fun _ _ _ h => h) (Or.inl ⟨by kernel_rfl, ?_⟩) (by assumption) ?_
  · intro w hSw; go_simp
  simp only [List.setIfInBounds_toArray, List.set_cons_zero, List.set_cons_succ]
  refine wpAnyH_ready (rs := [7]) (by kernel_rfl) (by simp) ?_
  refine (AllReadyH.cons rfl (fun K hK => ?_) AllReadyH.nil)
  go_simp
  refine (key_any nb n x _ (by simpa using d0)).mono ?_
  rintro e w3 ⟨rfl, hw3⟩
  have hO3 : Only [] (w.alloc (.cells #[.int .i64 k, .int .i64 x] 146)) w3 := by rw [hw3]; exact (Only.refl _ _).drew.alloc _
  have s0 := hO3.cell db0 (by simp)
  have s1 := hO3.cell db1 (by simp)
  have s3 := hO3.cell d3 (by simp)
  have hO03 := hOa.trans hO3
  obtain ⟨o, hu, hMo⟩ := run_put (HM.out.only hO03 (by simp)) Tryz.underlying127 n x (.int .i64 k)
  have hu0 : (Instr.mapUpdate 127 (.map (some kn)) (keyV n x) (.int .i64 k)).run Tryz.prog w3 = .ok () (setBlock w3 kn o) := hu 0
  have HMo : Hid _ := hMo
  clear hu hMo hw3
  go_wp2_with fail
  refine hK.out _ _ ⟨s3, s0, s1⟩ (fun hHeld => ?_)
  clear hK K
  refine wpAnyH_ready (rs := [10]) (by kernel_rfl) (by simp) ?_
  refine (AllReadyH.cons rfl (fun K hK => ?_) AllReadyH.nil)
  go_simp
  have hOs : Only [kn] w3 (setBlock w3 kn o) := (Only.refl _ _).setBlock (.inl (by simp)) _
  refine hK.out _ _ ⟨hOs.cell s3 (by simpa using Ne.symm hne), hOs.cell s0 (by simp; omega), hOs.cell s1 (by simp; omega)⟩ (fun hHeld => ?_)
  clear hK K
  refine wpAnyH_done (by kernel_rfl) ?_ _
  go_wp2_with fail
  exact bodyPost_end (v := .tuple #[]) (by simp [results, Tryz.results134, go_sem]) rfl ⟨rfl, (hO03.mono (by simp)).trans hOs, HMo.out⟩

set_option maxRecDepth 100000 in
set_option maxHeartbeats 2000000 in
theorem learnEnd_any (a : Value) (x : Int) (w : World) :
    Calls Tryz.prog 134 #[a, .agg #[.int .i64 5, .int .i64 x]] w fun e w' => e = .returned (.tuple #[]) ∧ Only [] w w' := by
  go_enter Tryz.func134, Tryz.ntmps134
  go_wp2_with fail
  exact bodyPost_end (v := .tuple #[]) (by simp [results, Tryz.results134, go_sem]) rfl ⟨rfl, (Only.refl _ _).alloc _⟩

/-- A record is written; what follows is what learn does. -/
theorem baseWrite_steps (nb : Nat) (T : TypeId) (n s : Int) (text : List UInt8) (kn : Nat) (rest : List Value) (k x : Int) (w : World) (Q : World → Prop) (hN : NodeAt w nb T n text s kn rest) (hl : text.length ≤ 1000000) (hk1 : 1 ≤ k) (hk2 : k ≤ 5) (hx1 : 1 ≤ x) (hx2 : x ≤ 16383)
    (hQ : ∀ w1, Only [nb] w w1 → NodeAt w1 nb T n (text ++ recL k x) s kn rest → Calls Tryz.prog 134 #[.pointer (some ⟨nb, 0, none⟩), .agg #[.int .i64 k, .int .i64 x]] w1 fun e w' => e = .returned (.tuple #[]) ∧ Q w') :
    Calls Tryz.prog 92 #[.pointer (some ⟨nb, 0, none⟩), .int .i64 k, .int .i64 x] w fun e w' => e = .returned (.tuple #[]) ∧ Q w' := by
  have HN : Hid (NodeAt w nb T n text s kn rest) := hN
  have HQ : Hid _ := hQ
  have hnl := block_lt hN
  have hOa : Only [] w (w.alloc (.cells #[.int .i64 k, .int .i64 x] 146)) := (Only.refl _ _).alloc _
  have HOa : Hid _ := hOa
  obtain ⟨-, c1, -, -, cf⟩ := (hN.only hOa (by simp)).cells
  have db0 : (w.alloc (.cells #[.int .i64 k, .int .i64 x] 146)).cell? ⟨w.heap.size, 0, none⟩ = some (.int .i64 k) := by simp
  have db1 : (w.alloc (.cells #[.int .i64 k, .int .i64 x] 146)).cell? ⟨w.heap.size, 1, none⟩ = some (.int .i64 x) := by simp
  clear hN hQ
  go_enter Tryz.func92, Tryz.ntmps92
  go_wp2_with fail
  refine wp_region_held_drew (S := fun w' => w'.cell? ⟨w.heap.size, 0, none⟩ = some (.int .i64 k) ∧ w'.cell? ⟨w.heap.size, 1, none⟩ = some (.int .i64 x)) (by kernel_rfl) ⟨db0, db1⟩ (fun hHeld => ?_)
  refine takeD 0 10 (.pointer (some ⟨nb, 0, none⟩)) rfl rfl (by kernel_rfl) (by kernel_rfl) (by kernel_rfl) (fun _ _ _ h => h) (Or.inl ⟨by kernel_rfl, ?_⟩) (by assumption) ?_
  · intro w hSw; go_simp
  simp only [List.setIfInBounds_toArray, List.set_cons_zero, List.set_cons_succ]
  refine takeD 1 11 (.pointer (some ⟨nb, 0, none⟩)) rfl rfl (by kernel_rfl) (by kernel_rfl) (by kernel_rfl) (fun _ _ _ h => h) (Or.inl ⟨by kernel_rfl, ?_⟩) (by assumption) ?_
  · intro w hSw; go_simp
  simp only [List.setIfInBounds_toArray, List.set_cons_zero, List.set_cons_succ]
  refine takeD 2 12 (.pointer (some ⟨nb, 1, none⟩)) rfl rfl (by kernel_rfl) (by kernel_rfl) (by kernel_rfl) (fun _ _ _ h => h) (Or.inl ⟨by kernel_rfl, ?_⟩) (by assumption) ?_
  · intro w hSw; go_simp
  simp only [List.setIfInBounds_toArray, List.set_cons_zero, List.set_cons_succ]
  refine takeD 3 13 (.agg #[.int .i64 k, .int .i64 x]) rfl rfl (by kernel_rfl) (by kernel_rfl) (by kernel_rfl) (fun _ _ _ h => h) (Or.inl ⟨by kernel_rfl, ?_⟩) (by assumption) ?_
  · intro w hSw; go_simp
  simp only [List.setIfInBounds_toArray, List.set_cons_zero, List.set_cons_succ]
  refine wpAnyH_ready (rs := [4]) (by kernel_rfl) (by simp) ?_
  refine (AllReadyH.cons rfl (fun K hK => ?_) AllReadyH.nil)
  go_simp
  refine (logWrite_any nb text k x _ (by simpa using c1) (by simpa using cf 1) hl hk1 hk2 hx1 hx2).mono ?_
  rintro e w1 ⟨rfl, w2, ho2, hw1⟩
  have ho2' : Only [] w w2 := HOa.out.trans ((Only.refl _ _).drew.trans ho2)
  have hN1 : NodeAt w1 nb T n (text ++ recL k x) s kn rest := by rw [hw1]; exact (HN.out.only ho2' (by simp)).setText _
  have hO1 : Only [nb] w w1 := by rw [hw1]; exact (ho2'.mono (by simp)).setCell (.inl (by simp)) _
  have s0 : w1.cell? ⟨w.heap.size, 0, none⟩ = some (.int .i64 k) := by rw [hw1, World.cell?_setCell_other _ _ _ _ (by simp)]; exact ((Only.refl _ _).drew.trans ho2).cell db0 (by simp)
  have s1 : w1.cell? ⟨w.heap.size, 1, none⟩ = some (.int .i64 x) := by rw [hw1, World.cell?_setCell_other _ _ _ _ (by simp)]; exact ((Only.refl _ _).drew.trans ho2).cell db1 (by simp)
  have HN1 : Hid _ := hN1
  have HO1 : Hid _ := hO1
  clear hw1 ho2 ho2' hN1 hO1 c1 cf
  go_wp2_with fail
  refine hK.out _ _ ⟨s0, s1⟩ (fun hHeld => ?_)
  clear hK K
  refine wpAnyH_done (by kernel_rfl) ?_ _
  go_wp2_with fail
  refine (HQ.out w1 HO1.out HN1.out).mono ?_
  rintro e w4 ⟨rfl, hq⟩
  have HQ4 : Hid (Q w4) := hq
  clear hq
  go_wp2_with fail
  exact bodyPost_end (v := .tuple #[]) (by simp [results, Tryz.results92, go_sem]) rfl ⟨rfl, HQ4.out⟩

theorem baseWrite_any (nb : Nat) (T : TypeId) (n s : Int) (text : List UInt8) (kn : Nat) (rest : List Value) (L : List ((Int × Int) × Value)) (k x : Int) (w : World) (hN : NodeAt w nb T n text s kn rest) (hM : MapI w kn L) (hl : text.length ≤ 1000000) (hk1 : 1 ≤ k) (hk2 : k ≤ 4) (hx1 : 1 ≤ x) (hx2 : x ≤ 16383) :
    Calls Tryz.prog 92 #[.pointer (some ⟨nb, 0, none⟩), .int .i64 k, .int .i64 x] w fun e w' => e = .returned (.tuple #[]) ∧ Only [nb, kn] w w' ∧ NodeAt w' nb T n (text ++ recL k x) s kn rest ∧ MapI w' kn (putL n x (.int .i64 k) L) := by
  have hne := hM.ne hN
  refine baseWrite_steps nb T n s text kn rest k x w (fun w' => Only [nb, kn] w w' ∧ NodeAt w' nb T n (text ++ recL k x) s kn rest ∧ MapI w' kn (putL n x (.int .i64 k) L)) hN hl hk1 (by omega) hx1 hx2 ?_
  intro w1 hO1 hN1
  obtain ⟨d0, -, -, d3, -⟩ := hN1.cells
  refine (learn_any nb n kn L k x w1 d0 d3 hne (hM.only hO1 (by simpa using hne)) (by omega)).mono ?_
  rintro e w2 ⟨rfl, hO2, hM2⟩
  exact ⟨rfl, (hO1.mono (by simp)).trans (hO2.mono (by simp)), hN1.only hO2 (by simpa using Ne.symm hne), hM2⟩

theorem baseEnd_any (nb : Nat) (T : TypeId) (n s : Int) (text : List UInt8) (kn : Nat) (rest : List Value) (x : Int) (w : World) (hN : NodeAt w nb T n text s kn rest) (hl : text.length ≤ 1000000) (hx1 : 1 ≤ x) (hx2 : x ≤ 16383) :
    Calls Tryz.prog 92 #[.pointer (some ⟨nb, 0, none⟩), .int .i64 5, .int .i64 x] w fun e w' => e = .returned (.tuple #[]) ∧ Only [nb] w w' ∧ NodeAt w' nb T n (text ++ recL 5 x) s kn rest := by
  refine baseWrite_steps nb T n s text kn rest 5 x w (fun w' => Only [nb] w w' ∧ NodeAt w' nb T n (text ++ recL 5 x) s kn rest) hN hl (by omega) (by omega) hx1 hx2 ?_
  intro w1 hO1 hN1
  refine (learnEnd_any _ x w1).mono ?_
  rintro e w2 ⟨rfl, hO2⟩
  exact ⟨rfl, hO1.trans (hO2.mono (by simp)), hN1.only hO2 (by simp)⟩
end Go.Proofs.YtfpojgljgbgkkaaGreatDoor

/-
  Maps from keys to numbers; what a node looks up of a transaction; small functions of outcomes.
-/
namespace Go.Proofs.YtfpojgljgbgkkaaGreatDoor
open Go.RowKit
open Go.ChangeMaps (setBlock)

/-- Numbers under keys. -/
def toV (L : List ((Int × Int) × Int)) : List ((Int × Int) × Value) := L.map fun p => (p.1, .int .i64 p.2)
def lookI (x y : Int) : List ((Int × Int) × Int) → Int
  | [] => 0
  | p :: L => if p.1.1 = x ∧ p.1.2 = y then p.2 else lookI x y L
def putI (x y v : Int) : List ((Int × Int) × Int) → List ((Int × Int) × Int)
  | [] => [((x, y), v)]
  | p :: L => if p.1.1 = x ∧ p.1.2 = y then (p.1, v) :: L else p :: putI x y v L
theorem pos_getD (x y : Int) : ∀ (L : List ((Int × Int) × Int)) (i : Nat), ((pos x y (toV L) i).map (·.2)).getD (.int .i64 0) = .int .i64 (lookI x y L)
  | [], _ => rfl
  | p :: L, i => by
    simp only [toV, List.map_cons, pos, lookI]
    by_cases hc : p.1.1 = x ∧ p.1.2 = y
    · simp [hc]
    · simp only [hc, if_false]
      exact pos_getD x y L (i + 1)
theorem lookV_int (x y : Int) (L : List ((Int × Int) × Int)) : (lookV (toV L) x y).getD (.int .i64 0) = .int .i64 (lookI x y L) := pos_getD x y L 0
theorem putL_int (x y v : Int) : ∀ (L : List ((Int × Int) × Int)), putL x y (.int .i64 v) (toV L) = toV (putI x y v L)
  | [] => rfl
  | p :: L => by
    simp only [toV, List.map_cons, putL, putI]
    by_cases hc : p.1.1 = x ∧ p.1.2 = y
    · simp [hc]
    · simp only [hc, if_false, List.map_cons, List.cons.injEq, true_and]
      exact putL_int x y v L
theorem lookI_put (x y v : Int) : ∀ (L : List ((Int × Int) × Int)), lookI x y (putI x y v L) = v
  | [] => by simp [putI, lookI]
  | p :: L => by
    simp only [putI]
    by_cases hc : p.1.1 = x ∧ p.1.2 = y
    · simp [hc, lookI]
    · simp only [hc, if_false, lookI]
      exact lookI_put x y v L
theorem lookI_other (x y x' y' v : Int) (hne : ¬ (x = x' ∧ y = y')) : ∀ (L : List ((Int × Int) × Int)), lookI x' y' (putI x y v L) = lookI x' y' L
  | [] => by simp [putI, lookI]; intro h1 h2; exact absurd ⟨h1, h2⟩ hne
  | p :: L => by
    simp only [putI]
    by_cases hc : p.1.1 = x ∧ p.1.2 = y
    · obtain ⟨c1, c2⟩ := hc
      simp only [c1, c2, and_self, if_true, lookI, hne, if_false]
    · simp only [hc, if_false, lookI]
      rw [lookI_other x y x' y' v hne L]
theorem zeroInt (w : World) : (zeroValue 3).run Tryz.prog w = .ok (.int .i64 0) w := by kernel_rfl
theorem run_lookI {w : World} {b : Nat} {L : List ((Int × Int) × Int)} (h : MapI w b (toV L)) (x y : Int) :
    (Instr.lookup 127 (.map (some b)) (keyV x y) false).run Tryz.prog w = .ok (.int .i64 (lookI x y L)) w := by
  rw [run_look h Tryz.underlying127 zeroInt x y false, ← lookV_int]
  rfl

def toldI (k : Int) : Int := if k = 2 then 1 else if k = 3 then 2 else if k = 4 then 3 else 0
theorem told_any (k : Int) (w : World) : Calls Tryz.prog 196 #[.int .i64 k] w fun e w' => e = .returned (.int .i64 (toldI k)) ∧ w = w' := by
  by_cases h2 : k = 2
  · subst h2
    go_enter Tryz.func196, Tryz.ntmps196
    go_wp2
    go_ret
    exact ⟨rfl, rfl⟩
  by_cases h3 : k = 3
  · subst h3
    go_enter Tryz.func196, Tryz.ntmps196
    go_wp2
    go_ret
    exact ⟨rfl, rfl⟩
  by_cases h4 : k = 4
  · subst h4
    go_enter Tryz.func196, Tryz.ntmps196
    go_wp2
    go_ret
    exact ⟨rfl, rfl⟩
  have b2 : (k == 2) = false := by rw [beq_eq_false_iff_ne]; exact h2
  have b3 : (k == 3) = false := by rw [beq_eq_false_iff_ne]; exact h3
  have b4 : (k == 4) = false := by rw [beq_eq_false_iff_ne]; exact h4
  go_enter Tryz.func196, Tryz.ntmps196
  go_wp2
  go_ret
  exact ⟨by simp [toldI, h2, h3, h4], rfl⟩
def recOfI (o : Int) : Int := if o = 4 then 3 else 4
theorem recordOf_any (o : Int) (w : World) : Calls Tryz.prog 204 #[.int .i64 o] w fun e w' => e = .returned (.int .i64 (recOfI o)) ∧ w = w' := by
  by_cases h : o = 4
  · subst h
    go_enter Tryz.func204, Tryz.ntmps204
    go_wp2
    go_ret
    exact ⟨rfl, rfl⟩
  · have b : (o == 4) = false := by rw [beq_eq_false_iff_ne]; exact h
    go_enter Tryz.func204, Tryz.ntmps204
    go_wp2
    go_ret
    exact ⟨by simp [recOfI, h], rfl⟩
def presB (s o : Int) : Bool := (s == 2 && o == 4) || (s == 1 && o == 5)
theorem presumes_any (s o : Int) (w : World) : Calls Tryz.prog 205 #[.int .i64 s, .int .i64 o] w fun e w' => e = .returned (.bool (presB s o)) ∧ w = w' := by
  cases h1 : (s == 2) <;> cases h2 : (o == 4) <;> cases h3 : (s == 1) <;> cases h4 : (o == 5) <;>
  · go_enter Tryz.func205, Tryz.ntmps205
    go_wp2
    go_ret
    exact ⟨by simp [presB, h1, h2, h3, h4], rfl⟩
def presdI (s : Int) : Int := if s = 2 then 4 else 5
theorem presumed_any (s : Int) (w : World) : Calls Tryz.prog 247 #[.int .i64 s] w fun e w' => e = .returned (.int .i64 (presdI s)) ∧ w = w' := by
  by_cases h : s = 2
  · subst h
    go_enter Tryz.func247, Tryz.ntmps247
    go_wp2
    go_ret
    exact ⟨rfl, rfl⟩
  · have b : (s == 2) = false := by rw [beq_eq_false_iff_ne]; exact h
    go_enter Tryz.func247, Tryz.ntmps247
    go_wp2
    go_ret
    exact ⟨by simp [presdI, h], rfl⟩
end Go.Proofs.YtfpojgljgbgkkaaGreatDoor

/-
  A participant.
-/
namespace Go.Proofs.YtfpojgljgbgkkaaGreatDoor
open Go.RowKit
open Go.ChangeMaps (setBlock)

attribute [local go_sem ↓] Go.wp_at_zero Go.wp_at_succ

/-- A participant in memory: its number, log, what it knows, its sort, how it votes. -/
structure PartAt (w : World) (nb : Nat) (n : Int) (text : List UInt8) (s : Int) (kn : Nat) (L : List ((Int × Int) × Int)) (sort : Int) (vt : Nat) (V : List ((Int × Int) × Int)) : Prop where
  node : NodeAt w nb 148 n text s kn [.bool false, .int .i64 sort, .map (some vt)]
  known : MapI w kn (toV L)
  votes : MapI w vt (toV V)
  ne : kn ≠ vt
theorem PartAt.cells {w : World} {nb : Nat} {n : Int} {text : List UInt8} {s : Int} {kn : Nat} {L : List ((Int × Int) × Int)} {sort : Int} {vt : Nat} {V : List ((Int × Int) × Int)} (h : PartAt w nb n text s kn L sort vt V) :
    w.cell? ⟨nb, 5, none⟩ = some (.int .i64 sort) ∧ w.cell? ⟨nb, 6, none⟩ = some (.map (some vt)) :=
  ⟨by rw [cell_of_row _ _ _ _ _ _ h.node]; rfl, by rw [cell_of_row _ _ _ _ _ _ h.node]; rfl⟩
theorem PartAt.only {S : List Nat} {w w' : World} {nb : Nat} {n : Int} {text : List UInt8} {s : Int} {kn : Nat} {L : List ((Int × Int) × Int)} {sort : Int} {vt : Nat} {V : List ((Int × Int) × Int)} (h : PartAt w nb n text s kn L sort vt V) (ho : Only S w w') (h1 : nb ∉ S) (h2 : kn ∉ S) (h3 : vt ∉ S) : PartAt w' nb n text s kn L sort vt V :=
  ⟨h.node.only ho h1, h.known.only ho h2, h.votes.only ho h3, h.ne⟩

/-- What a look-up answers in the worlds that a walk comes by. -/
theorem look_worlds {w : World} {b : Nat} {L : List ((Int × Int) × Int)} (h : MapI w b (toV L)) (x y : Int) : ∀ (i : Nat) (o : Obj), (Instr.lookup 127 (.map (some b)) (keyV x y) false).run Tryz.prog ((w.drewN i).alloc o) = .ok (.int .i64 (lookI x y L)) ((w.drewN i).alloc o) :=
  fun i o => run_lookI (h.only (S := []) ((Only.refl _ _).drewN i |>.alloc o) (by simp)) x y
theorem look_worlds2 {w : World} {b : Nat} {L : List ((Int × Int) × Int)} (h : MapI w b (toV L)) (x y : Int) : ∀ (i : Nat) (o : Obj), (Instr.lookup 127 (.map (some b)) (keyV x y) false).run Tryz.prog ((w.alloc o).drewN i) = .ok (.int .i64 (lookI x y L)) ((w.alloc o).drewN i) :=
  fun i o => run_lookI (h.only (S := []) (((Only.refl _ _).alloc o).drewN i) (by simp)) x y

def awaitsB (kv o : Int) : Bool := kv == 2 || (kv == 0 && o == 5)
set_option maxRecDepth 100000 in
set_option maxHeartbeats 4000000 in
theorem awaits_any (nb : Nat) (n : Int) (text : List UInt8) (s : Int) (kn : Nat) (L : List ((Int × Int) × Int)) (sort : Int) (vt : Nat) (V : List ((Int × Int) × Int)) (o t : Int) (w : World) (hP : PartAt w nb n text s kn L sort vt V) :
    Calls Tryz.prog 206 #[.pointer (some ⟨nb, 0, none⟩), .int .i64 o, .int .i64 t] w fun e w' => e = .returned (.bool (awaitsB (lookI n t L) o)) ∧ Only [] w w' := by
  obtain ⟨c0, c1, c2, c3, cf⟩ := hP.node.cells
  have HK : Hid (MapI w kn (toV L)) := hP.known
  have lkk : ∀ w', Only [] w w' → (Instr.lookup 127 (.map (some kn)) (keyV n t) false).run Tryz.prog w' = .ok (.int .i64 (lookI n t L)) w' := fun w' ho => run_lookI (HK.out.only ho (by simp)) n t
  have LKK : Hid (∀ w', Only [] w w' → (Instr.lookup 127 (.map (some kn)) (keyV n t) false).run Tryz.prog w' = .ok (.int .i64 (lookI n t L)) w') := lkk
  have hnl := block_lt hP.node
  clear hP lkk
  generalize lookI n t L = kv at *
  cases h1 : (kv == 2) <;> cases h2 : (kv == 0) <;> cases h3 : (o == 5) <;>
  · go_enter Tryz.func206, Tryz.ntmps206
    go_wp2
    refine wp_region_held_drew (S := fun w' => w'.cell? ⟨nb, 0, none⟩ = some (.int .i64 n) ∧ w'.cell? ⟨nb, 3, none⟩ = some (.map (some kn))) (by kernel_rfl) ⟨c0, c3⟩ (fun hHeld => ?_)
    refine takeD 0 8 (.pointer (some ⟨nb, 0, none⟩)) rfl rfl (by kernel_rfl) (by kernel_rfl) (by kernel_rfl) (fun _ _ _ h => h) (Or.inl ⟨by kernel_rfl, ?_⟩) (by assumption) ?_
    · intro w hSw; go_simp
    simp only [List.setIfInBounds_toArray, List.set_cons_zero, List.set_cons_succ]
    refine takeD 1 9 (.pointer (some ⟨nb, 0, none⟩)) rfl rfl (by kernel_rfl) (by kernel_rfl) (by kernel_rfl) (fun _ _ _ h => h) (Or.inl ⟨by kernel_rfl, ?_⟩) (by assumption) ?_
    · intro w hSw; go_simp
    simp only [List.setIfInBounds_toArray, List.set_cons_zero, List.set_cons_succ]
    refine takeD 2 10 (.pointer (some ⟨nb, 0, none⟩)) rfl rfl (by kernel_rfl) (by kernel_rfl) (by kernel_rfl) (fun _ _ _ h => h) (Or.inl ⟨by kernel_rfl, ?_⟩) (by assumption) ?_
    · intro w hSw; go_simp
    simp only [List.setIfInBounds_toArray, List.set_cons_zero, List.set_cons_succ]
    refine takeD 3 11 (.pointer (some ⟨nb, 3, none⟩)) rfl rfl (by kernel_rfl) (by kernel_rfl) (by kernel_rfl) (fun _ _ _ h => h) (Or.inl ⟨by kernel_rfl, ?_⟩) (by assumption) ?_
    · intro w hSw; go_simp
    simp only [List.setIfInBounds_toArray, List.set_cons_zero, List.set_cons_succ]
    refine takeD 4 12 (.map (some kn)) rfl rfl (by kernel_rfl) (by kernel_rfl) (by kernel_rfl) (fun _ _ _ h => h) (Or.inl ⟨by kernel_rfl, ?_⟩) (by assumption) ?_
    · intro w hSw; go_simp
    simp only [List.setIfInBounds_toArray, List.set_cons_zero, List.set_cons_succ]
    refine takeD 5 13 (.pointer (some ⟨nb, 0, none⟩)) rfl rfl (by kernel_rfl) (by kernel_rfl) (by kernel_rfl) (fun _ _ _ h => h) (Or.inl ⟨by kernel_rfl, ?_⟩) (by assumption) ?_
    · intro w hSw; go_simp
    simp only [List.setIfInBounds_toArray, List.set_cons_zero, List.set_cons_succ]
    refine takeD 6 14 (.pointer (some ⟨nb, 0, none⟩)) rfl rfl (by kernel_rfl) (by kernel_rfl) (by kernel_rfl) (fun _ _ _ h => h) (Or.inl ⟨by kernel_rfl, ?_⟩) (by assumption) ?_
    · intro w hSw; go_simp
    simp only [List.setIfInBounds_toArray, List.set_cons_zero, List.set_cons_succ]
    refine takeD 7 15 (.pointer (some ⟨nb, 0, none⟩)) rfl rfl (by kernel_rfl) (by kernel_rfl) (by kernel_rfl) (fun _ _ _ h => h) (Or.inl ⟨by kernel_rfl, ?_⟩) (by assumption) ?_
    · intro w hSw; go_simp
    simp only [List.setIfInBounds_toArray, List.set_cons_zero, List.set_cons_succ]
    refine takeD 8 16 (.int .i64 t) rfl rfl (by kernel_rfl) (by kernel_rfl) (by kernel_rfl) (fun _ _ _ h => h) (Or.inl ⟨by kernel_rfl, ?_⟩) (by assumption) ?_
    · intro w hSw; go_simp
    simp only [List.setIfInBounds_toArray, List.set_cons_zero, List.set_cons_succ]
    refine wpAnyH_ready (rs := [9]) (by kernel_rfl) (by simp) ?_
    refine (AllReadyH.cons rfl (fun K hK => ?_) AllReadyH.nil)
    go_simp
    refine (key_any nb n t _ (by simpa using c0)).mono ?_
    rintro e w3 ⟨rfl, hw3⟩
    have hO3 : Only [] w w3 := by rw [hw3]; exact (Only.refl _ _).drew.alloc _
    have hSn := (show _ ∧ _ from ⟨hO3.cell c0 (by simp), hO3.cell c3 (by simp)⟩)
    have lk := LKK.out w3 hO3
    clear hw3
    go_wp2_with fail
    refine hK.out _ _ hSn (fun hHeld => ?_)
    clear hK K
    refine wpAnyH_ready (rs := [10]) (by kernel_rfl) (by simp) ?_
    refine (AllReadyH.cons rfl (fun K hK => ?_) AllReadyH.nil)
    go_simp
    refine hK.out _ _ hSn (fun hHeld => ?_)
    clear hK K
    refine takeD 11 7 (.int .i64 kv) rfl rfl (by kernel_rfl) (by kernel_rfl) (by kernel_rfl) (fun _ _ _ h => h) (Or.inl ⟨by kernel_rfl, ?_⟩) (by assumption) ?_
    · intro w hSw; go_simp
    simp only [List.setIfInBounds_toArray, List.set_cons_zero, List.set_cons_succ]
    refine wpAnyH_done (by kernel_rfl) ?_ _
    go_wp2_with fail
    go_ret
    exact ⟨by simp [awaitsB, h1, h2, h3], hO3⟩

theorem PartAt.setSafe {w : World} {nb : Nat} {n : Int} {text : List UInt8} {s : Int} {kn : Nat} {L : List ((Int × Int) × Int)} {sort : Int} {vt : Nat} {V : List ((Int × Int) × Int)} (h : PartAt w nb n text s kn L sort vt V) (s' : Int) : PartAt (w.setCell ⟨nb, 2, none⟩ (.int .i64 s')) nb n text s' kn L sort vt V :=
  ⟨h.node.setSafe s', h.known.only ((Only.refl [nb] _).setCell (.inl (by simp)) _) (by simpa using h.known.ne h.node), h.votes.only ((Only.refl [nb] _).setCell (.inl (by simp)) _) (by simpa using h.votes.ne h.node), h.ne⟩
end Go.Proofs.YtfpojgljgbgkkaaGreatDoor

/-
  A participant: say, vote.
-/
namespace Go.Proofs.YtfpojgljgbgkkaaGreatDoor
open Go.RowKit
open Go.ChangeMaps (setBlock)

attribute [local go_sem ↓] Go.wp_at_zero Go.wp_at_succ

set_option maxRecDepth 100000 in
set_option maxHeartbeats 1000000 in
theorem say_any (nb : Nat) (n k t : Int) (w : World) (h0 : w.cell? ⟨nb, 0, none⟩ = some (.int .i64 n)) :
    Calls Tryz.prog 201 #[.pointer (some ⟨nb, 0, none⟩), .int .i64 k, .int .i64 t] w fun e w' => e = .returned (msgV k n 0 t) ∧ Only [] w w' := by
  have hl := cell_block h0
  simp at hl
  have h0' : (w.alloc (.cells #[.int .i64 0, .int .i64 0, .int .i64 0, .int .i64 0] 64)).cell? ⟨nb, 0, none⟩ = some (.int .i64 n) := by rw [World.cell?_alloc_lt _ _ _ hl]; exact h0
  go_enter Tryz.func201, Tryz.ntmps201
  go_wp2_with fail
  refine (message_any nb n k 0 t _ h0').mono ?_
  rintro e w2 ⟨rfl, hw2⟩
  have hb2 : Only [] (w.alloc (.cells #[.int .i64 0, .int .i64 0, .int .i64 0, .int .i64 0] 64)) w2 := by rw [hw2]; exact (Only.refl _ _).alloc _
  have q0 := hb2.cell (p := ⟨w.heap.size, 0, none⟩) (u := .int .i64 0) (by simp) (by simp)
  have q1 := hb2.cell (p := ⟨w.heap.size, 1, none⟩) (u := .int .i64 0) (by simp) (by simp)
  have q2 := hb2.cell (p := ⟨w.heap.size, 2, none⟩) (u := .int .i64 0) (by simp) (by simp)
  have q3 := hb2.cell (p := ⟨w.heap.size, 3, none⟩) (u := .int .i64 0) (by simp) (by simp)
  have qf : ∀ o, w2.frozen? ⟨w.heap.size, o, none⟩ = false := fun o => by rw [hw2, World.frozen?_alloc_old _ _ _ (by simp)]; simp
  have hO : Only [] w w2 := ((Only.refl _ _).alloc _).trans hb2
  clear hw2 hb2
  unfold msgV
  go_wp2_with fail
  exact bodyPost_ret (v := msgV k n 0 t) (by simp [results, Tryz.results201, go_sem, msgV, q0, q1, q2, q3]) rfl ⟨rfl, (((hO.setCell (.inr (by simp)) _).setCell (.inr (by simp)) _).setCell (.inr (by simp)) _).setCell (.inr (by simp)) _⟩

/-- How it votes. -/
def voteK (v : Int) : Int := if v = 3 then 4 else 2
theorem voteK_bd (v : Int) : 1 ≤ voteK v ∧ voteK v ≤ 4 := by unfold voteK; split <;> omega
theorem voteK_no : voteK 3 = 4 := rfl
theorem voteK_yes {v : Int} (h : (v == 3) = false) : voteK v = 2 := by
  have := beq_eq_false_iff_ne.1 h
  simp [voteK, this]

set_option maxRecDepth 100000 in
set_option maxHeartbeats 4000000 in
theorem vote_any (nb : Nat) (n : Int) (text : List UInt8) (s : Int) (kn : Nat) (L : List ((Int × Int) × Int)) (sort : Int) (vt : Nat) (V : List ((Int × Int) × Int)) (t : Int) (w : World) (hP : PartAt w nb n text s kn L sort vt V) (hl : text.length ≤ 1000000) (ht1 : 1 ≤ t) (ht2 : t ≤ 16383) :
    Calls Tryz.prog 203 #[.pointer (some ⟨nb, 0, none⟩), .int .i64 t] w fun e w' => e = .returned (.tuple #[]) ∧ Only [nb, kn] w w' ∧ PartAt w' nb n (text ++ recL (voteK (lookI n t V)) t) ((text ++ recL (voteK (lookI n t V)) t).length : Int) kn (putI n t (voteK (lookI n t V)) L) sort vt V := by
  obtain ⟨c0, c1, c2, c3, cf⟩ := hP.node.cells
  obtain ⟨c4, c5⟩ := hP.cells
  have HP : Hid (PartAt w nb n text s kn L sort vt V) := hP
  have hnl := block_lt hP.node
  have hvn : vt ≠ nb := hP.votes.ne hP.node
  clear hP
  have LKV : Hid (∀ w', Only [] w w' → (Instr.lookup 127 (.map (some vt)) (keyV n t) false).run Tryz.prog w' = .ok (.int .i64 (lookI n t V)) w') := fun w' ho => run_lookI (HP.out.votes.only ho (by simp)) n t
  have hkb := voteK_bd (lookI n t V)
  have go : ∀ (w3 : World) (k : Int), Only [] w w3 → voteK (lookI n t V) = k → Calls Tryz.prog 92 #[.pointer (some ⟨nb, 0, none⟩), .int .i64 k, .int .i64 t] w3 fun e w' => e = .returned (.tuple #[]) ∧ Only [nb, kn] w w' ∧ PartAt w' nb n (text ++ recL (voteK (lookI n t V)) t) s kn (putI n t (voteK (lookI n t V)) L) sort vt V := by
    intro w3 k ho hk
    have hP3 := HP.out.only ho (by simp) (by simp) (by simp)
    have hne3 := hP3.ne
    rw [← hk]
    refine (baseWrite_any nb _ n s text kn _ (toV L) (voteK (lookI n t V)) t w3 hP3.node hP3.known hl hkb.1 hkb.2 ht1 ht2).mono ?_
    rintro e w4 ⟨rfl, ho4, hn4, hm4⟩
    rw [putL_int] at hm4
    exact ⟨rfl, (ho.mono (by simp)).trans ho4, hn4, hm4, hP3.votes.only ho4 (by simp [hvn, Ne.symm hne3]), hne3⟩
  have GO : Hid _ := go
  clear go
  cases hv : (lookI n t V == 3)
  · go_enter Tryz.func203, Tryz.ntmps203
    go_wp2
    refine wp_region_held_drew (S := fun w' => w'.cell? ⟨nb, 0, none⟩ = some (.int .i64 n) ∧ w'.cell? ⟨nb, 6, none⟩ = some (.map (some vt))) (by kernel_rfl) ⟨c0, c5⟩ (fun hHeld => ?_)
    refine takeD 0 5 (.pointer (some ⟨nb, 0, none⟩)) rfl rfl (by kernel_rfl) (by kernel_rfl) (by kernel_rfl) (fun _ _ _ h => h) (Or.inl ⟨by kernel_rfl, ?_⟩) (by assumption) ?_
    · intro w hSw; go_simp
    simp only [List.setIfInBounds_toArray, List.set_cons_zero, List.set_cons_succ]
    refine takeD 1 6 (.pointer (some ⟨nb, 0, none⟩)) rfl rfl (by kernel_rfl) (by kernel_rfl) (by kernel_rfl) (fun _ _ _ h => h) (Or.inl ⟨by kernel_rfl, ?_⟩) (by assumption) ?_
    · intro w hSw; go_simp
    simp only [List.setIfInBounds_toArray, List.set_cons_zero, List.set_cons_succ]
    refine takeD 2 7 (.pointer (some ⟨nb, 6, none⟩)) rfl rfl (by kernel_rfl) (by kernel_rfl) (by kernel_rfl) (fun _ _ _ h => h) (Or.inl ⟨by kernel_rfl, ?_⟩) (by assumption) ?_
    · intro w hSw; go_simp
    simp only [List.setIfInBounds_toArray, List.set_cons_zero, List.set_cons_succ]
    refine takeD 3 8 (.map (some vt)) rfl rfl (by kernel_rfl) (by kernel_rfl) (by kernel_rfl) (fun _ _ _ h => h) (Or.inl ⟨by kernel_rfl, ?_⟩) (by assumption) ?_
    · intro w hSw; go_simp
    simp only [List.setIfInBounds_toArray, List.set_cons_zero, List.set_cons_succ]
    refine takeD 4 9 (.pointer (some ⟨nb, 0, none⟩)) rfl rfl (by kernel_rfl) (by kernel_rfl) (by kernel_rfl) (fun _ _ _ h => h) (Or.inl ⟨by kernel_rfl, ?_⟩) (by assumption) ?_
    · intro w hSw; go_simp
    simp only [List.setIfInBounds_toArray, List.set_cons_zero, List.set_cons_succ]
    refine takeD 5 10 (.pointer (some ⟨nb, 0, none⟩)) rfl rfl (by kernel_rfl) (by kernel_rfl) (by kernel_rfl) (fun _ _ _ h => h) (Or.inl ⟨by kernel_rfl, ?_⟩) (by assumption) ?_
    · intro w hSw; go_simp
    simp only [List.setIfInBounds_toArray, List.set_cons_zero, List.set_cons_succ]
    refine takeD 6 11 (.pointer (some ⟨nb, 0, none⟩)) rfl rfl (by kernel_rfl) (by kernel_rfl) (by kernel_rfl) (fun _ _ _ h => h) (Or.inl ⟨by kernel_rfl, ?_⟩) (by assumption) ?_
    · intro w hSw; go_simp
    simp only [List.setIfInBounds_toArray, List.set_cons_zero, List.set_cons_succ]
    refine takeD 7 12 (.int .i64 t) rfl rfl (by kernel_rfl) (by kernel_rfl) (by kernel_rfl) (fun _ _ _ h => h) (Or.inl ⟨by kernel_rfl, ?_⟩) (by assumption) ?_
    · intro w hSw; go_simp
    simp only [List.setIfInBounds_toArray, List.set_cons_zero, List.set_cons_succ]
    refine wpAnyH_ready (rs := [8]) (by kernel_rfl) (by simp) ?_
    refine (AllReadyH.cons rfl (fun K hK => ?_) AllReadyH.nil)
    go_simp
    refine (key_any nb n t _ (by simpa using c0)).mono ?_
    rintro e w3 ⟨rfl, hw3⟩
    have hO3 : Only [] w w3 := by rw [hw3]; exact (Only.refl _ _).drew.alloc _
    have hSn := (show _ ∧ _ from ⟨hO3.cell c0 (by simp), hO3.cell c5 (by simp)⟩)
    have lk := LKV.out w3 hO3
    clear hw3
    go_wp2_with fail
    refine hK.out _ _ hSn (fun hHeld => ?_)
    clear hK K
    refine wpAnyH_ready (rs := [9]) (by kernel_rfl) (by simp) ?_
    refine (AllReadyH.cons rfl (fun K hK => ?_) AllReadyH.nil)
    go_simp
    refine hK.out _ _ hSn (fun hHeld => ?_)
    clear hK K
    refine takeD 10 15 (.bool false) rfl rfl (by kernel_rfl) (by kernel_rfl) (by kernel_rfl) (fun _ _ _ h => h) (Or.inl ⟨by kernel_rfl, ?_⟩) (by assumption) ?_
    · intro w hSw; go_simp
    simp only [List.setIfInBounds_toArray, List.set_cons_zero, List.set_cons_succ]
    refine wpAnyH_done (by kernel_rfl) ?_ _
    go_wp2_with fail
    refine (GO.out w3 2 hO3 (voteK_yes hv)).mono ?_
    rintro e w4 ⟨rfl, ho4, hp4⟩
    obtain ⟨-, d1, d2, -, df⟩ := hp4.node.cells
    have HP4 : Hid _ := hp4
    clear hp4 c0 c1 c2 c3 c4 c5 cf
    generalize hT : text ++ recL (voteK (lookI n t V)) t = text' at *
    have HT : Hid (text ++ recL (voteK (lookI n t V)) t = text') := hT
    clear hT
    go_wp2_with fail
    refine (force_any nb _ s w4 d1 d2 (df 2)).mono ?_
    rintro e w5 ⟨rfl, hw5⟩
    have hO5 : Only [nb, kn] w4 w5 := by rw [hw5]; exact (Only.refl _ _).setCell (.inl (by simp)) _
    have hp5 := PartAt.setSafe HP4.out (text'.length : Int)
    rw [← hw5] at hp5
    have HP5 : Hid _ := hp5
    clear hw5 hp5
    go_wp2_with fail
    exact bodyPost_end (v := .tuple #[]) (by simp [results, Tryz.results203, go_sem]) rfl ⟨rfl, ho4.trans hO5, by rw [HT.out]; exact HP5.out⟩
  · go_enter Tryz.func203, Tryz.ntmps203
    go_wp2
    refine wp_region_held_drew (S := fun w' => w'.cell? ⟨nb, 0, none⟩ = some (.int .i64 n) ∧ w'.cell? ⟨nb, 6, none⟩ = some (.map (some vt))) (by kernel_rfl) ⟨c0, c5⟩ (fun hHeld => ?_)
    refine takeD 0 5 (.pointer (some ⟨nb, 0, none⟩)) rfl rfl (by kernel_rfl) (by kernel_rfl) (by kernel_rfl) (fun _ _ _ h => h) (Or.inl ⟨by kernel_rfl, ?_⟩) (by assumption) ?_
    · intro w hSw; go_simp
    simp only [List.setIfInBounds_toArray, List.set_cons_zero, List.set_cons_succ]
    refine takeD 1 6 (.pointer (some ⟨nb, 0, none⟩)) rfl rfl (by kernel_rfl) (by kernel_rfl) (by kernel_rfl) (fun _ _ _ h => h) (Or.inl ⟨by kernel_rfl, ?_⟩) (by assumption) ?_
    · intro w hSw; go_simp
    simp only [List.setIfInBounds_toArray, List.set_cons_zero, List.set_cons_succ]
    refine takeD 2 7 (.pointer (some ⟨nb, 6, none⟩)) rfl rfl (by kernel_rfl) (by kernel_rfl) (by kernel_rfl) (fun _ _ _ h => h) (Or.inl ⟨by kernel_rfl, ?_⟩) (by assumption) ?_
    · intro w hSw; go_simp
    simp only [List.setIfInBounds_toArray, List.set_cons_zero, List.set_cons_succ]
    refine takeD 3 8 (.map (some vt)) rfl rfl (by kernel_rfl) (by kernel_rfl) (by kernel_rfl) (fun _ _ _ h => h) (Or.inl ⟨by kernel_rfl, ?_⟩) (by assumption) ?_
    · intro w hSw; go_simp
    simp only [List.setIfInBounds_toArray, List.set_cons_zero, List.set_cons_succ]
    refine takeD 4 9 (.pointer (some ⟨nb, 0, none⟩)) rfl rfl (by kernel_rfl) (by kernel_rfl) (by kernel_rfl) (fun _ _ _ h => h) (Or.inl ⟨by kernel_rfl, ?_⟩) (by assumption) ?_
    · intro w hSw; go_simp
    simp only [List.setIfInBounds_toArray, List.set_cons_zero, List.set_cons_succ]
    refine takeD 5 10 (.pointer (some ⟨nb, 0, none⟩)) rfl rfl (by kernel_rfl) (by kernel_rfl) (by kernel_rfl) (fun _ _ _ h => h) (Or.inl ⟨by kernel_rfl, ?_⟩) (by assumption) ?_
    · intro w hSw; go_simp
    simp only [List.setIfInBounds_toArray, List.set_cons_zero, List.set_cons_succ]
    refine takeD 6 11 (.pointer (some ⟨nb, 0, none⟩)) rfl rfl (by kernel_rfl) (by kernel_rfl) (by kernel_rfl) (fun _ _ _ h => h) (Or.inl ⟨by kernel_rfl, ?_⟩) (by assumption) ?_
    · intro w hSw; go_simp
    simp only [List.setIfInBounds_toArray, List.set_cons_zero, List.set_cons_succ]
    refine takeD 7 12 (.int .i64 t) rfl rfl (by kernel_rfl) (by kernel_rfl) (by kernel_rfl) (fun _ _ _ h => h) (Or.inl ⟨by kernel_rfl, ?_⟩) (by assumption) ?_
    · intro w hSw; go_simp
    simp only [List.setIfInBounds_toArray, List.set_cons_zero, List.set_cons_succ]
    refine wpAnyH_ready (rs := [8]) (by kernel_rfl) (by simp) ?_
    refine (AllReadyH.cons rfl (fun K hK => ?_) AllReadyH.nil)
    go_simp
    refine (key_any nb n t _ (by simpa using c0)).mono ?_
    rintro e w3 ⟨rfl, hw3⟩
    have hO3 : Only [] w w3 := by rw [hw3]; exact (Only.refl _ _).drew.alloc _
    have hSn := (show _ ∧ _ from ⟨hO3.cell c0 (by simp), hO3.cell c5 (by simp)⟩)
    have lk := LKV.out w3 hO3
    clear hw3
    go_wp2_with fail
    refine hK.out _ _ hSn (fun hHeld => ?_)
    clear hK K
    refine wpAnyH_ready (rs := [9]) (by kernel_rfl) (by simp) ?_
    refine (AllReadyH.cons rfl (fun K hK => ?_) AllReadyH.nil)
    go_simp
    refine hK.out _ _ hSn (fun hHeld => ?_)
    clear hK K
    refine takeD 10 15 (.bool true) rfl rfl (by kernel_rfl) (by kernel_rfl) (by kernel_rfl) (fun _ _ _ h => h) (Or.inl ⟨by kernel_rfl, ?_⟩) (by assumption) ?_
    · intro w hSw; go_simp
    simp only [List.setIfInBounds_toArray, List.set_cons_zero, List.set_cons_succ]
    refine wpAnyH_done (by kernel_rfl) ?_ _
    go_wp2_with fail
    refine (GO.out w3 4 hO3 (by rw [beq_iff_eq.1 hv]; rfl)).mono ?_
    rintro e w4 ⟨rfl, ho4, hp4⟩
    obtain ⟨-, d1, d2, -, df⟩ := hp4.node.cells
    have HP4 : Hid _ := hp4
    clear hp4 c0 c1 c2 c3 c4 c5 cf
    generalize hT : text ++ recL (voteK (lookI n t V)) t = text' at *
    have HT : Hid (text ++ recL (voteK (lookI n t V)) t = text') := hT
    clear hT
    go_wp2_with fail
    refine (force_any nb _ s w4 d1 d2 (df 2)).mono ?_
    rintro e w5 ⟨rfl, hw5⟩
    have hO5 : Only [nb, kn] w4 w5 := by rw [hw5]; exact (Only.refl _ _).setCell (.inl (by simp)) _
    have hp5 := PartAt.setSafe HP4.out (text'.length : Int)
    rw [← hw5] at hp5
    have HP5 : Hid _ := hp5
    clear hw5 hp5
    go_wp2_with fail
    exact bodyPost_end (v := .tuple #[]) (by simp [results, Tryz.results203, go_sem]) rfl ⟨rfl, ho4.trans hO5, by rw [HT.out]; exact HP5.out⟩
end Go.Proofs.YtfpojgljgbgkkaaGreatDoor
