import Derived.Test.YtfpojgljgbgkkaaGreatDoorPE
/-
  The coordinator: sets, those that are chosen.
-/
namespace Go.Proofs.YtfpojgljgbgkkaaGreatDoor
open Go.RowKit
open Go.ChangeMaps (setBlock)

/-- A set as a map. -/
def toS (S : List (Int × Int)) : List ((Int × Int) × Value) := S.map fun p => (p, .agg #[])
theorem pos_set (x y : Int) : ∀ (S : List (Int × Int)) (i : Nat), (pos x y (toS S) i).map (·.2) = if (x, y) ∈ S then some (.agg #[]) else none
  | [], _ => rfl
  | p :: S, i => by
    simp only [toS, List.map_cons, pos]
    by_cases hc : p.1 = x ∧ p.2 = y
    · obtain ⟨rfl, rfl⟩ := hc
      simp
    · have hne : (x, y) ≠ p := by rintro rfl; exact hc ⟨rfl, rfl⟩
      simp only [hc, if_false, List.mem_cons, hne, false_or]
      exact pos_set x y S (i + 1)
theorem lookV_set (S : List (Int × Int)) (x y : Int) : lookV (toS S) x y = if (x, y) ∈ S then some (.agg #[]) else none := pos_set x y S 0
theorem zeroUnit (w : World) : (zeroValue 100).run Tryz.prog w = .ok (.agg #[]) w := by kernel_rfl
theorem run_lookS {w : World} {b : Nat} {S : List (Int × Int)} (h : MapI w b (toS S)) (x y : Int) :
    (Instr.lookup 132 (.map (some b)) (keyV x y) true).run Tryz.prog w = .ok (.tuple #[.agg #[], .bool (decide ((x, y) ∈ S))]) w := by
  rw [run_look h Tryz.underlying132 zeroUnit x y true, lookV_set]
  by_cases hm : (x, y) ∈ S <;> simp [hm]

set_option maxRecDepth 100000 in
set_option maxHeartbeats 1000000 in
theorem has_any (b : Nat) (S : List (Int × Int)) (x y : Int) (w : World) (h : MapI w b (toS S)) :
    Calls Tryz.prog 239 #[.map (some b), .agg #[.int .i64 x, .int .i64 y]] w fun e w' => e = .returned (.bool (decide ((x, y) ∈ S))) ∧ Only [] w w' := by
  have lk : (Instr.lookup 132 (.map (some b)) (.agg #[.int .i64 x, .int .i64 y]) true).run Tryz.prog (w.alloc (.cells #[.int .i64 x, .int .i64 y] 150)) = .ok (.tuple #[.agg #[], .bool (decide ((x, y) ∈ S))]) (w.alloc (.cells #[.int .i64 x, .int .i64 y] 150)) := run_lookS (h.only ((Only.refl [] _).alloc _) (by simp)) x y
  generalize decide ((x, y) ∈ S) = bb at *
  go_enter Tryz.func239, Tryz.ntmps239
  go_wp2
  go_ret
  exact ⟨rfl, ((Only.refl _ _).alloc _).alloc _⟩

def addS (x y : Int) (S : List (Int × Int)) : List (Int × Int) := if (x, y) ∈ S then S else S ++ [(x, y)]
theorem putL_set (x y : Int) : ∀ (S : List (Int × Int)), putL x y (.agg #[]) (toS S) = toS (addS x y S)
  | [] => by simp [putL, toS, addS]
  | p :: S => by
    have ih := putL_set x y S
    simp only [toS, List.map_cons, putL, addS, List.mem_cons] at ih ⊢
    by_cases hc : p.1 = x ∧ p.2 = y
    · obtain ⟨rfl, rfl⟩ := hc
      simp
    · have hne : (x, y) ≠ p := by rintro rfl; exact hc ⟨rfl, rfl⟩
      simp only [hc, if_false, hne, false_or]
      by_cases hm : (x, y) ∈ S
      · simp only [hm, if_true] at ih ⊢
        rw [ih]; rfl
      · simp only [hm, if_false] at ih ⊢
        rw [ih]; rfl

set_option maxRecDepth 100000 in
set_option maxHeartbeats 1000000 in
theorem add_any (b : Nat) (S : List (Int × Int)) (x y : Int) (w : World) (h : MapI w b (toS S)) :
    Calls Tryz.prog 238 #[.map (some b), .agg #[.int .i64 x, .int .i64 y]] w fun e w' => e = .returned (.tuple #[]) ∧ Only [b] w w' ∧ MapI w' b (toS (addS x y S)) := by
  obtain ⟨o, hu, hM⟩ := run_put (h.only ((Only.refl [] _).alloc (.cells #[.int .i64 x, .int .i64 y] 150)) (by simp)) Tryz.underlying132 x y (.agg #[])
  have hu0 : (Instr.mapUpdate 132 (.map (some b)) (.agg #[.int .i64 x, .int .i64 y]) (.agg #[])).run Tryz.prog (w.alloc (.cells #[.int .i64 x, .int .i64 y] 150)) = .ok () (setBlock (w.alloc (.cells #[.int .i64 x, .int .i64 y] 150)) b o) := hu 0
  rw [putL_set] at hM
  have HM : Hid _ := hM
  clear hM hu
  go_enter Tryz.func238, Tryz.ntmps238
  go_wp2
  exact bodyPost_end (v := .tuple #[]) (by simp [results, Tryz.results238, go_sem]) rfl ⟨rfl, ((Only.refl _ _).alloc _).setBlock (.inl (by simp)) _, HM.out⟩

theorem allBut1_any (lp : Addr) (left x : Int) (w : World) (h : w.cell? lp = some (.int .i64 left)) :
    Calls Tryz.prog 137 #[.int .i64 x, .pointer (some lp)] w fun e w' => e = .returned (.bool (x != left)) ∧ w' = w := by
  go_enter Tryz.func137, Tryz.ntmps137
  go_wp2
  go_ret
  exact ⟨rfl, rfl⟩

/-- Those of the numbers from 1 to N that are chosen. -/
def chosen (b : Int → Bool) (N : Nat) : List Int := ((List.range N).map fun (i : Nat) => (i : Int) + 1).filter b
theorem chosen_succ (b : Int → Bool) (N : Nat) : chosen b (N + 1) = if b ((N : Int) + 1) = true then chosen b N ++ [(N : Int) + 1] else chosen b N := by
  simp only [chosen, List.range_succ, List.map_append, List.map_cons, List.map_nil, List.filter_append]
  by_cases h : b ((N : Int) + 1) = true <;> simp [h]
theorem chosen_len (b : Int → Bool) (N : Nat) : (chosen b N).length ≤ N := by
  have := List.length_filter_le b ((List.range N).map fun (i : Nat) => (i : Int) + 1)
  simpa [chosen] using this
def intsV (l : List Int) : List Value := l.map fun i => .int .i64 i
theorem infoInt2 : (Tryz.prog.info? 3).map (fun i => (i.zero, i.size, i.bytes)) = some (some (.int .i64 0), 1, 8) := by kernel_rfl
theorem cell_one_at2 (W : World) (a : Value) (t : TypeId) (n : Nat) (hn : n = W.heap.size) : ∀ j u, [a][j]? = some u → (W.alloc (.cells #[a] t)).cell? ((⟨n, 0, none⟩ : Addr).add j) = some u := by
  subst hn
  exact World.news_of_block (heap_alloc_new W (.cells #[a] t))

set_option maxRecDepth 100000 in
set_option maxHeartbeats 4000000 in
theorem thoseA (nb N : Nat) (sp : Option Addr) (scap : Nat) (lp : Addr) (b : Int → Bool) (w : World) (h4 : w.cell? ⟨nb, 5, none⟩ = some (.slice sp N scap)) (hN : N ≤ 100)
    (hcl : ∀ (x : Int) (w1 : World), Only [] w w1 → Calls Tryz.prog 137 #[.int .i64 x, .pointer (some lp)] w1 fun e w2 => e = .returned (.bool (b x)) ∧ Only [] w1 w2) :
    Calls Tryz.prog 136 #[.pointer (some ⟨nb, 0, none⟩), .func (.func 137) #[] #[.pointer (some lp)]] w fun e w' => ∃ v, e = .returned v ∧ Only [] w w' ∧ w'.ownsRow w.heap.size 3 1 v (chosen b N).length (intsV (chosen b N)) := by
  have HC : Hid (∀ (x : Int) (w1 : World), Only [] w w1 → Calls Tryz.prog 137 #[.int .i64 x, .pointer (some lp)] w1 fun e w2 => e = .returned (.bool (b x)) ∧ Only [] w1 w2) := hcl
  clear hcl
  obtain ⟨i0, hi, hz0, hz1, hz2⟩ := info_parts infoInt2
  go_enter Tryz.func136, Tryz.ntmps136
  go_wp2
  go_loopw [5, 12] (fun v i wr => ∃ j : Nat, j ≤ N ∧ i = .int .i64 j ∧ Only [] w wr ∧ wr.ownsRow w.heap.size 3 1 v (chosen b j).length (intsV (chosen b j))) (fun _ i _ => N - (intOf i).toNat)
  case atStart => exact ⟨0, by omega, rfl, Only.refl _ _, World.ownsRow_nil _ _ _ _⟩
  case round =>
    obtain ⟨j, hj, rfl, hO, hown⟩ := hrel
    by_cases hlt : j < N
    · go_wp2_with fail
      refine (HC.out ((j : Int) + 1) wr hO).mono ?_
      rintro e w2 ⟨rfl, hO2⟩
      have hown2 := ownsRow_below hown hO2.below (Nat.le_refl _)
      have hO3 := hO.trans hO2
      have hz := hO3.size
      have hcl := chosen_len b j
      have hcs := chosen_succ b j
      have HCS : Hid (chosen b (j + 1) = if b ((j : Int) + 1) = true then chosen b j ++ [(j : Int) + 1] else chosen b j) := hcs
      clear hcs hO hO2 hown
      cases hb : b ((j : Int) + 1)
      · go_wp2_with fail
        go_roundw
        case rel => exact ⟨j + 1, by omega, by go_num, hO3, by rw [HCS.out, hb]; simpa using hown2⟩
        case measure => simp [intOf]; omega
      · go_wp2_with (
          at_builtin
          refine wpList_append_own _ rfl _ _ 26 rfl w.heap.size 3 i0 (.int .i64 0) 1 8 Tryz.underlying26 hi hz0 hz1 hz2 rfl (by decide) _ (chosen b j).length (intsV (chosen b j)) rfl (hown2.alloc _) ⟨w2.heap.size, 0, none⟩ 1 1 [.int .i64 ((j : Int) + 1)] rfl rfl (cell_one_at2 _ _ _ _ rfl) (fun x hx => by simp at hx; rw [hx]; rfl) (by unfold maxLen; omega) (by omega) (by simp; omega) ?_
          intro v' w3 hown3 hgrow3 hnil3
          clear hnil3)
        go_roundw
        case rel => exact ⟨j + 1, by omega, by go_num, (hO3.alloc _).grown hgrow3 (fun k hk => .inr (hown2.lt _ hk).1), by rw [HCS.out, hb]; simpa [intsV] using hown3⟩
        case measure => simp [intOf]; omega
    · obtain rfl : j = N := by omega
      go_wp2_with fail
      go_ret
      exact ⟨_, rfl, hO, hown⟩

set_option maxRecDepth 100000 in
set_option maxHeartbeats 4000000 in
theorem thoseS (nb N : Nat) (sp : Option Addr) (scap : Nat) (cp tp : Addr) (b : Int → Bool) (w : World) (h4 : w.cell? ⟨nb, 5, none⟩ = some (.slice sp N scap)) (hN : N ≤ 100)
    (hcl : ∀ (x : Int) (w1 : World), Only [] w w1 → Calls Tryz.prog 250 #[.int .i64 x, .pointer (some cp), .pointer (some tp)] w1 fun e w2 => e = .returned (.bool (b x)) ∧ Only [] w1 w2) :
    Calls Tryz.prog 136 #[.pointer (some ⟨nb, 0, none⟩), .func (.func 250) #[] #[.pointer (some cp), .pointer (some tp)]] w fun e w' => ∃ v, e = .returned v ∧ Only [] w w' ∧ w'.ownsRow w.heap.size 3 1 v (chosen b N).length (intsV (chosen b N)) := by
  have HC : Hid (∀ (x : Int) (w1 : World), Only [] w w1 → Calls Tryz.prog 250 #[.int .i64 x, .pointer (some cp), .pointer (some tp)] w1 fun e w2 => e = .returned (.bool (b x)) ∧ Only [] w1 w2) := hcl
  clear hcl
  obtain ⟨i0, hi, hz0, hz1, hz2⟩ := info_parts infoInt2
  go_enter Tryz.func136, Tryz.ntmps136
  go_wp2
  go_loopw [5, 12] (fun v i wr => ∃ j : Nat, j ≤ N ∧ i = .int .i64 j ∧ Only [] w wr ∧ wr.ownsRow w.heap.size 3 1 v (chosen b j).length (intsV (chosen b j))) (fun _ i _ => N - (intOf i).toNat)
  case atStart => exact ⟨0, by omega, rfl, Only.refl _ _, World.ownsRow_nil _ _ _ _⟩
  case round =>
    obtain ⟨j, hj, rfl, hO, hown⟩ := hrel
    by_cases hlt : j < N
    · go_wp2_with fail
      refine (HC.out ((j : Int) + 1) wr hO).mono ?_
      rintro e w2 ⟨rfl, hO2⟩
      have hown2 := ownsRow_below hown hO2.below (Nat.le_refl _)
      have hO3 := hO.trans hO2
      have hz := hO3.size
      have hcl := chosen_len b j
      have hcs := chosen_succ b j
      have HCS : Hid (chosen b (j + 1) = if b ((j : Int) + 1) = true then chosen b j ++ [(j : Int) + 1] else chosen b j) := hcs
      clear hcs hO hO2 hown
      cases hb : b ((j : Int) + 1)
      · go_wp2_with fail
        go_roundw
        case rel => exact ⟨j + 1, by omega, by go_num, hO3, by rw [HCS.out, hb]; simpa using hown2⟩
        case measure => simp [intOf]; omega
      · go_wp2_with (
          at_builtin
          refine wpList_append_own _ rfl _ _ 26 rfl w.heap.size 3 i0 (.int .i64 0) 1 8 Tryz.underlying26 hi hz0 hz1 hz2 rfl (by decide) _ (chosen b j).length (intsV (chosen b j)) rfl (hown2.alloc _) ⟨w2.heap.size, 0, none⟩ 1 1 [.int .i64 ((j : Int) + 1)] rfl rfl (cell_one_at2 _ _ _ _ rfl) (fun x hx => by simp at hx; rw [hx]; rfl) (by unfold maxLen; omega) (by omega) (by simp; omega) ?_
          intro v' w3 hown3 hgrow3 hnil3
          clear hnil3)
        go_roundw
        case rel => exact ⟨j + 1, by omega, by go_num, (hO3.alloc _).grown hgrow3 (fun k hk => .inr (hown2.lt _ hk).1), by rw [HCS.out, hb]; simpa [intsV] using hown3⟩
        case measure => simp [intOf]; omega
    · obtain rfl : j = N := by omega
      go_wp2_with fail
      go_ret
      exact ⟨_, rfl, hO, hown⟩

set_option maxRecDepth 100000 in
set_option maxHeartbeats 4000000 in
theorem thoseO (nb N : Nat) (sp : Option Addr) (scap : Nat) (cp tp : Addr) (b : Int → Bool) (w : World) (h4 : w.cell? ⟨nb, 5, none⟩ = some (.slice sp N scap)) (hN : N ≤ 100)
    (hcl : ∀ (x : Int) (w1 : World), Only [] w w1 → Calls Tryz.prog 253 #[.int .i64 x, .pointer (some cp), .pointer (some tp)] w1 fun e w2 => e = .returned (.bool (b x)) ∧ Only [] w1 w2) :
    Calls Tryz.prog 136 #[.pointer (some ⟨nb, 0, none⟩), .func (.func 253) #[] #[.pointer (some cp), .pointer (some tp)]] w fun e w' => ∃ v, e = .returned v ∧ Only [] w w' ∧ w'.ownsRow w.heap.size 3 1 v (chosen b N).length (intsV (chosen b N)) := by
  have HC : Hid (∀ (x : Int) (w1 : World), Only [] w w1 → Calls Tryz.prog 253 #[.int .i64 x, .pointer (some cp), .pointer (some tp)] w1 fun e w2 => e = .returned (.bool (b x)) ∧ Only [] w1 w2) := hcl
  clear hcl
  obtain ⟨i0, hi, hz0, hz1, hz2⟩ := info_parts infoInt2
  go_enter Tryz.func136, Tryz.ntmps136
  go_wp2
  go_loopw [5, 12] (fun v i wr => ∃ j : Nat, j ≤ N ∧ i = .int .i64 j ∧ Only [] w wr ∧ wr.ownsRow w.heap.size 3 1 v (chosen b j).length (intsV (chosen b j))) (fun _ i _ => N - (intOf i).toNat)
  case atStart => exact ⟨0, by omega, rfl, Only.refl _ _, World.ownsRow_nil _ _ _ _⟩
  case round =>
    obtain ⟨j, hj, rfl, hO, hown⟩ := hrel
    by_cases hlt : j < N
    · go_wp2_with fail
      refine (HC.out ((j : Int) + 1) wr hO).mono ?_
      rintro e w2 ⟨rfl, hO2⟩
      have hown2 := ownsRow_below hown hO2.below (Nat.le_refl _)
      have hO3 := hO.trans hO2
      have hz := hO3.size
      have hcl := chosen_len b j
      have hcs := chosen_succ b j
      have HCS : Hid (chosen b (j + 1) = if b ((j : Int) + 1) = true then chosen b j ++ [(j : Int) + 1] else chosen b j) := hcs
      clear hcs hO hO2 hown
      cases hb : b ((j : Int) + 1)
      · go_wp2_with fail
        go_roundw
        case rel => exact ⟨j + 1, by omega, by go_num, hO3, by rw [HCS.out, hb]; simpa using hown2⟩
        case measure => simp [intOf]; omega
      · go_wp2_with (
          at_builtin
          refine wpList_append_own _ rfl _ _ 26 rfl w.heap.size 3 i0 (.int .i64 0) 1 8 Tryz.underlying26 hi hz0 hz1 hz2 rfl (by decide) _ (chosen b j).length (intsV (chosen b j)) rfl (hown2.alloc _) ⟨w2.heap.size, 0, none⟩ 1 1 [.int .i64 ((j : Int) + 1)] rfl rfl (cell_one_at2 _ _ _ _ rfl) (fun x hx => by simp at hx; rw [hx]; rfl) (by unfold maxLen; omega) (by omega) (by simp; omega) ?_
          intro v' w3 hown3 hgrow3 hnil3
          clear hnil3)
        go_roundw
        case rel => exact ⟨j + 1, by omega, by go_num, (hO3.alloc _).grown hgrow3 (fun k hk => .inr (hown2.lt _ hk).1), by rw [HCS.out, hb]; simpa [intsV] using hown3⟩
        case measure => simp [intOf]; omega
    · obtain rfl : j = N := by omega
      go_wp2_with fail
      go_ret
      exact ⟨_, rfl, hO, hown⟩

end Go.Proofs.YtfpojgljgbgkkaaGreatDoor

/-
  The coordinator in memory; allBut, silent, owing, tell.
-/
namespace Go.Proofs.YtfpojgljgbgkkaaGreatDoor
open Go.RowKit
open Go.ChangeMaps (setBlock)

/-- What is open, as a map: outcomes and how long was waited. -/
def toM (O : List ((Int × Int) × (Int × Int))) : List ((Int × Int) × Value) := O.map fun p => (p.1, .agg #[.int .i64 p.2.1, .int .i64 p.2.2])

/-- Where the coordinator's parts lie. -/
structure CoP where
  nb : Nat
  kn : Nat
  sb : Nat
  scap : Nat
  om : Nat
  vm : Nat
  am : Nat
/-- What the coordinator has. -/
structure CS where
  text : List UInt8
  safe : Int
  L : List ((Int × Int) × Int)
  O : List ((Int × Int) × (Int × Int))
  V : List (Int × Int)
  A : List (Int × Int)
/-- The coordinator in memory. -/
structure CoAt (w : World) (p : CoP) (ss : List Int) (wait : Int) (c : CS) : Prop where
  node : NodeAt w p.nb 134 0 c.text c.safe p.kn [.bool false, .slice (some ⟨p.sb, 0, none⟩) ss.length p.scap, .int .i64 wait, .map (some p.om), .map (some p.vm), .map (some p.am)]
  sorts : Head w p.sb 3 (intsV ss)
  known : MapI w p.kn (toV c.L)
  opens : MapI w p.om (toM c.O)
  votes : MapI w p.vm (toS c.V)
  awaited : MapI w p.am (toS c.A)
  apart : [p.kn, p.om, p.vm, p.am].Nodup
theorem CoAt.cells {w : World} {p : CoP} {ss : List Int} {wait : Int} {c : CS} (h : CoAt w p ss wait c) :
    w.cell? ⟨p.nb, 5, none⟩ = some (.slice (some ⟨p.sb, 0, none⟩) ss.length p.scap) ∧ w.cell? ⟨p.nb, 6, none⟩ = some (.int .i64 wait) ∧ w.cell? ⟨p.nb, 7, none⟩ = some (.map (some p.om)) ∧ w.cell? ⟨p.nb, 8, none⟩ = some (.map (some p.vm)) ∧ w.cell? ⟨p.nb, 9, none⟩ = some (.map (some p.am)) :=
  ⟨by rw [cell_of_row _ _ _ _ _ _ h.node]; rfl, by rw [cell_of_row _ _ _ _ _ _ h.node]; rfl, by rw [cell_of_row _ _ _ _ _ _ h.node]; rfl, by rw [cell_of_row _ _ _ _ _ _ h.node]; rfl, by rw [cell_of_row _ _ _ _ _ _ h.node]; rfl⟩
theorem Head.only {S : List Nat} {w w' : World} {g : Nat} {e : TypeId} {xs : List Value} (h : Head w g e xs) (ho : Only S w w') (hs : g ∉ S) : Head w' g e xs := by
  obtain ⟨cur, h1, h2, h3⟩ := h
  exact ⟨cur, ho.at h1 hs, h2, h3⟩
theorem CoAt.only0 {w w' : World} {p : CoP} {ss : List Int} {wait : Int} {c : CS} (h : CoAt w p ss wait c) (ho : Only [] w w') : CoAt w' p ss wait c :=
  ⟨h.node.only ho (by simp), h.sorts.only ho (by simp), h.known.only ho (by simp), h.opens.only ho (by simp), h.votes.only ho (by simp), h.awaited.only ho (by simp), h.apart⟩
/-- The blocks that may turn: the node's own, and its maps. -/
def CoP.blocks (p : CoP) : List Nat := [p.nb, p.kn, p.om, p.vm, p.am]
theorem map_ne_cells {w : World} {b g : Nat} {L : List ((Int × Int) × Value)} {c : Array Value} {t : TypeId} {fr : Nat × Nat} (h : MapI w b L) (hg : w.heap[g]? = some (.cells c t fr)) : g ≠ b := by
  rintro rfl
  obtain ⟨es, clock, h1, _⟩ := h
  rw [h1] at hg
  cases hg
theorem CoAt.sb_out {w : World} {p : CoP} {ss : List Int} {wait : Int} {c : CS} (h : CoAt w p ss wait c) : p.sb ∉ p.blocks := by
  obtain ⟨cur, h1, -, -⟩ := h.sorts
  have hn := h.node
  unfold NodeAt at hn
  have e1 : p.sb ≠ p.nb := fun e => by
    rw [e, hn] at h1
    injection h1 with h1
    injection h1 with _ h1
    exact absurd h1 (by decide)
  simp only [CoP.blocks, List.mem_cons, List.not_mem_nil, or_false, not_or]
  exact ⟨e1, map_ne_cells h.known h1, map_ne_cells h.opens h1, map_ne_cells h.votes h1, map_ne_cells h.awaited h1⟩

set_option maxRecDepth 100000 in
set_option maxHeartbeats 1000000 in
theorem silent1_any (cp tp : Addr) (nb vm : Nat) (V : List (Int × Int)) (x t : Int) (w : World) (hc : w.cell? cp = some (.pointer (some ⟨nb, 0, none⟩))) (ht : w.cell? tp = some (.int .i64 t)) (h7 : w.cell? ⟨nb, 8, none⟩ = some (.map (some vm))) (hV : MapI w vm (toS V)) :
    Calls Tryz.prog 250 #[.int .i64 x, .pointer (some cp), .pointer (some tp)] w fun e w' => e = .returned (.bool (!decide ((x, t) ∈ V))) ∧ Only [] w w' := by
  have HV : Hid (MapI w vm (toS V)) := hV
  clear hV
  go_enter Tryz.func250, Tryz.ntmps250
  go_wp2
  go_region_with (go_at_call 239; refine (has_any vm V x t _ (HV.out.only (S := []) (by first | exact (Only.refl _ _).drew | exact (Only.refl _ _).drewN _) (by simp))).mono ?_; rintro e w2 ⟨rfl, hO2⟩)
  all_goals (go_wp2_with fail)
  all_goals go_ret
  all_goals exact ⟨rfl, (Only.refl [] w).drew.trans hO2⟩
end Go.Proofs.YtfpojgljgbgkkaaGreatDoor

/-
  The coordinator: allBut, silent, owing, tell.
-/
namespace Go.Proofs.YtfpojgljgbgkkaaGreatDoor
open Go.RowKit
open Go.ChangeMaps (setBlock)

set_option maxRecDepth 100000 in
set_option maxHeartbeats 1000000 in
theorem owing1_any (cp tp : Addr) (nb am : Nat) (A : List (Int × Int)) (x t : Int) (w : World) (hc : w.cell? cp = some (.pointer (some ⟨nb, 0, none⟩))) (ht : w.cell? tp = some (.int .i64 t)) (h8 : w.cell? ⟨nb, 9, none⟩ = some (.map (some am))) (hA : MapI w am (toS A)) :
    Calls Tryz.prog 253 #[.int .i64 x, .pointer (some cp), .pointer (some tp)] w fun e w' => e = .returned (.bool (decide ((x, t) ∈ A))) ∧ Only [] w w' := by
  have HA : Hid (MapI w am (toS A)) := hA
  clear hA
  go_enter Tryz.func253, Tryz.ntmps253
  go_wp2
  go_region_with (go_at_call 239; refine (has_any am A x t _ (HA.out.only (S := []) (by first | exact (Only.refl _ _).drew | exact (Only.refl _ _).drewN _) (by simp))).mono ?_; rintro e w2 ⟨rfl, hO2⟩)
  all_goals (go_wp2_with fail)
  all_goals go_ret
  all_goals exact ⟨rfl, (Only.refl [] w).drew.trans hO2⟩

/-- A list of numbers that the call itself has made. -/
def Nums2 (B : Nat) (w : World) (v : Value) (l : List Int) : Prop := w.ownsRow B 3 1 v l.length (intsV l)

set_option maxRecDepth 100000 in
set_option maxHeartbeats 1000000 in
theorem allBut_any (p : CoP) (ss : List Int) (wait : Int) (c : CS) (left : Int) (w : World) (hC : CoAt w p ss wait c) (hN : ss.length ≤ 100) :
    Calls Tryz.prog 95 #[.pointer (some ⟨p.nb, 0, none⟩), .int .i64 left] w fun e w' => ∃ v, e = .returned v ∧ Only [] w w' ∧ Nums2 w.heap.size w' v (chosen (fun x => x != left) ss.length) := by
  have hO0 : Only [] w (w.alloc (.cells #[.int .i64 left] 3)) := (Only.refl _ _).alloc _
  obtain ⟨c4, -⟩ := (hC.only0 hO0).cells
  have hlp : (w.alloc (.cells #[.int .i64 left] 3)).cell? ⟨w.heap.size, 0, none⟩ = some (.int .i64 left) := by simp
  have T := thoseA p.nb ss.length _ p.scap ⟨w.heap.size, 0, none⟩ (fun x => x != left) _ c4 hN (fun x w1 ho => (allBut1_any _ left x w1 (ho.cell hlp (by simp))).mono fun e w2 ⟨h1, h2⟩ => ⟨h1, by rw [h2]; exact Only.refl _ _⟩)
  have HT : Hid _ := T
  have HO0 : Hid _ := hO0
  clear T hO0 c4 hlp hC
  go_enter Tryz.func95, Tryz.ntmps95
  go_wp2_with fail
  refine Calls.mono HT.out ?_
  rintro e w2 ⟨v, rfl, hO2, hv⟩
  have HV : Hid _ := hv
  clear hv
  go_wp2_with fail
  go_ret
  exact ⟨v, rfl, HO0.out.trans hO2, ownsRow_base HV.out (by simp)⟩

set_option maxRecDepth 100000 in
set_option maxHeartbeats 1000000 in
theorem silent_any (p : CoP) (ss : List Int) (wait : Int) (c : CS) (t : Int) (w : World) (hC : CoAt w p ss wait c) (hN : ss.length ≤ 100) :
    Calls Tryz.prog 244 #[.pointer (some ⟨p.nb, 0, none⟩), .int .i64 t] w fun e w' => ∃ v, e = .returned v ∧ Only [] w w' ∧ Nums2 w.heap.size w' v (chosen (fun x => !decide ((x, t) ∈ c.V)) ss.length) := by
  have hO0 : Only [] w ((w.alloc (.cells #[.pointer (some ⟨p.nb, 0, none⟩)] 83)).alloc (.cells #[.int .i64 t] 3)) := ((Only.refl _ _).alloc _).alloc _
  have hC0 := hC.only0 hO0
  obtain ⟨c4, -, -, c7, -⟩ := hC0.cells
  have hcp : ((w.alloc (.cells #[.pointer (some ⟨p.nb, 0, none⟩)] 83)).alloc (.cells #[.int .i64 t] 3)).cell? ⟨w.heap.size, 0, none⟩ = some (.pointer (some ⟨p.nb, 0, none⟩)) := by simp
  have htp : ((w.alloc (.cells #[.pointer (some ⟨p.nb, 0, none⟩)] 83)).alloc (.cells #[.int .i64 t] 3)).cell? ⟨w.heap.size + 1, 0, none⟩ = some (.int .i64 t) := by simp
  have T := thoseS p.nb ss.length _ p.scap ⟨w.heap.size, 0, none⟩ ⟨w.heap.size + 1, 0, none⟩ (fun x => !decide ((x, t) ∈ c.V)) _ c4 hN (fun x w1 ho => silent1_any _ _ p.nb p.vm c.V x t w1 (ho.cell hcp (by simp)) (ho.cell htp (by simp)) (ho.cell c7 (by simp)) (hC0.votes.only ho (by simp)))
  have HT : Hid _ := T
  have HO0 : Hid _ := hO0
  clear T hO0 c4 c7 hcp htp hC hC0
  go_enter Tryz.func244, Tryz.ntmps244
  go_wp2_with fail
  refine Calls.mono HT.out ?_
  rintro e w2 ⟨v, rfl, hO2, hv⟩
  have HV : Hid _ := hv
  clear hv
  go_wp2_with fail
  go_ret
  exact ⟨v, rfl, HO0.out.trans hO2, ownsRow_base HV.out (by simp; omega)⟩

set_option maxRecDepth 100000 in
set_option maxHeartbeats 1000000 in
theorem owing_any (p : CoP) (ss : List Int) (wait : Int) (c : CS) (t : Int) (w : World) (hC : CoAt w p ss wait c) (hN : ss.length ≤ 100) :
    Calls Tryz.prog 249 #[.pointer (some ⟨p.nb, 0, none⟩), .int .i64 t] w fun e w' => ∃ v, e = .returned v ∧ Only [] w w' ∧ Nums2 w.heap.size w' v (chosen (fun x => decide ((x, t) ∈ c.A)) ss.length) := by
  have hO0 : Only [] w ((w.alloc (.cells #[.pointer (some ⟨p.nb, 0, none⟩)] 83)).alloc (.cells #[.int .i64 t] 3)) := ((Only.refl _ _).alloc _).alloc _
  have hC0 := hC.only0 hO0
  obtain ⟨c4, -, -, -, c8⟩ := hC0.cells
  have hcp : ((w.alloc (.cells #[.pointer (some ⟨p.nb, 0, none⟩)] 83)).alloc (.cells #[.int .i64 t] 3)).cell? ⟨w.heap.size, 0, none⟩ = some (.pointer (some ⟨p.nb, 0, none⟩)) := by simp
  have htp : ((w.alloc (.cells #[.pointer (some ⟨p.nb, 0, none⟩)] 83)).alloc (.cells #[.int .i64 t] 3)).cell? ⟨w.heap.size + 1, 0, none⟩ = some (.int .i64 t) := by simp
  have T := thoseO p.nb ss.length _ p.scap ⟨w.heap.size, 0, none⟩ ⟨w.heap.size + 1, 0, none⟩ (fun x => decide ((x, t) ∈ c.A)) _ c4 hN (fun x w1 ho => owing1_any _ _ p.nb p.am c.A x t w1 (ho.cell hcp (by simp)) (ho.cell htp (by simp)) (ho.cell c8 (by simp)) (hC0.awaited.only ho (by simp)))
  have HT : Hid _ := T
  have HO0 : Hid _ := hO0
  clear T hO0 c4 c8 hcp htp hC hC0
  go_enter Tryz.func249, Tryz.ntmps249
  go_wp2_with fail
  refine Calls.mono HT.out ?_
  rintro e w2 ⟨v, rfl, hO2, hv⟩
  have HV : Hid _ := hv
  clear hv
  go_wp2_with fail
  go_ret
  exact ⟨v, rfl, HO0.out.trans hO2, ownsRow_base HV.out (by simp; omega)⟩

theorem infoMsg : (Tryz.prog.info? 64).map (fun i => (i.zero, i.size, i.bytes)) = some (some (.agg #[.int .i64 0, .int .i64 0, .int .i64 0, .int .i64 0]), 4, 32) := by kernel_rfl
/-- The same to each of these. -/
def toAll (k t : Int) (l : List Int) : List (Int × Int × Int × Int) := l.map fun x => (k, 0, x, t)
theorem toAll_succ (k t : Int) (l : List Int) (j : Nat) (h : j < l.length) : toAll k t (l.take (j + 1)) = toAll k t (l.take j) ++ [(k, 0, l[j], t)] := by
  rw [List.take_succ_eq_append_getElem h]; simp only [toAll, List.map_append, List.map_cons, List.map_nil]
theorem flatM_snoc (ms : List (Int × Int × Int × Int)) (a b c d : Int) : flatM (ms ++ [(a, b, c, d)]) = flatM ms ++ [.int .i64 a, .int .i64 b, .int .i64 c, .int .i64 d] := by simp [flatM]
theorem cell_four_at (W : World) (a b c d : Value) (t : TypeId) (n : Nat) (hn : n = W.heap.size) : ∀ j u, [a, b, c, d][j]? = some u → (W.alloc (.cells #[a, b, c, d] t)).cell? ((⟨n, 0, none⟩ : Addr).add j) = some u := by
  subst hn
  exact World.news_of_block (heap_alloc_new W (.cells #[a, b, c, d] t))
theorem cellsInt2 : Tryz.prog.cellsOf 3 = 1 := by kernel_rfl

set_option maxRecDepth 100000 in
set_option maxHeartbeats 4000000 in
theorem tell_any (p : CoP) (ss : List Int) (wait : Int) (c : CS) (k t : Int) (B : Nat) (tv : Value) (l : List Int) (w : World) (hC : CoAt w p ss wait c) (hl : Nums2 B w tv l) (hN : l.length ≤ 100) :
    Calls Tryz.prog 94 #[.pointer (some ⟨p.nb, 0, none⟩), .int .i64 k, .int .i64 t, tv] w fun e w' => ∃ v, e = .returned v ∧ Only [] w w' ∧ Sent2 w.heap.size w' v (toAll k t l) := by
  obtain ⟨c0, -⟩ := hC.node.cells
  obtain ⟨i0, hi, hz0, hz1, hz2⟩ := info_parts infoMsg
  have c1 := cellsInt2
  have HL : Hid (Nums2 B w tv l) := hl
  obtain ⟨tp, tcap, rfl⟩ : ∃ q cap, tv = .slice q l.length cap := by
    rcases hl.2 with ⟨rfl, h0⟩ | ⟨g, cap, cur, rfl, _⟩
    · rw [h0]; exact ⟨_, _, rfl⟩
    · exact ⟨_, _, rfl⟩
  clear hC hl
  go_enter Tryz.func94, Tryz.ntmps94
  go_wp2
  go_loopw [9, 14] (fun v i wr => ∃ j : Nat, j ≤ l.length ∧ i = .int .i64 j ∧ Only [] w wr ∧ Sent2 w.heap.size wr v (toAll k t (l.take j))) (fun _ i _ => l.length - (intOf i).toNat)
  case atStart => exact ⟨0, by omega, rfl, Only.refl _ _, sent_none _ _⟩
  case round =>
    obtain ⟨j, hj, rfl, hO, hown⟩ := hrel
    by_cases hlt : j < l.length
    · rcases HL.out.2 with ⟨e, h0⟩ | ⟨g, cap', cur, e, _⟩
      · omega
      · injection e with e1 e2 e3
        subst e1
        subst e3
        clear e2
        have hcell : w.cell? ⟨g, j, none⟩ = some (.int .i64 l[j]) := by
          have := HL.out.cellAt j (by omega)
          rw [this]; simp [intsV, hlt]
        have hcr := hO.cell hcell (by simp)
        have c0r := hO.cell c0 (by simp)
        have hix0 : (0 : Int) ≤ (j : Int) := by omega
        have hix1 : (j : Int) < (l.length : Int) := by omega
        have hlen : (toAll k t (l.take j)).length = j := by simp [toAll]; omega
        have HS : Hid _ := toAll_succ k t l j hlt
        clear hcell
        generalize l[j] = x at *
        go_wp2_with fail
        refine (message_any p.nb 0 k x t wr c0r).mono ?_
        rintro e w2 ⟨rfl, hw2⟩
        have hO2 : Only [] wr w2 := by rw [hw2]; exact (Only.refl _ _).alloc _
        have hown2 : Sent2 w.heap.size w2 _ (toAll k t (l.take j)) := ownsRow_below hown hO2.below (Nat.le_refl _)
        have hO3 := hO.trans hO2
        have hz := hO3.size
        clear hw2 hO2 hown hO hcr c0r
        unfold msgV
        unfold Sent2 at hown2
        go_wp2_with (
          at_builtin
          refine wpList_append_own _ rfl _ _ 85 rfl w.heap.size 64 i0 (.agg #[.int .i64 0, .int .i64 0, .int .i64 0, .int .i64 0]) 4 32 Tryz.underlying85 hi hz0 hz1 hz2 rfl (by decide) _ (toAll k t (l.take j)).length (flatM (toAll k t (l.take j))) rfl (hown2.alloc _) ⟨w2.heap.size, 0, none⟩ 1 1 [.int .i64 k, .int .i64 0, .int .i64 x, .int .i64 t] rfl rfl (cell_four_at _ _ _ _ _ _ _ rfl) (fun x hx => by simp at hx; rcases hx with rfl | rfl | rfl | rfl <;> rfl) (by unfold maxLen; omega) (by omega) (by simp; omega) ?_
          intro v' w3 hown3 hgrow3 hnil3
          clear hnil3)
        go_roundw
        case rel => exact ⟨j + 1, by omega, by go_num, (hO3.alloc _).grown hgrow3 (fun k hk => .inr (hown2.lt _ hk).1), by unfold Sent2; rw [HS.out, flatM_snoc, List.length_append]; exact hown3⟩
        case measure => simp [intOf]; omega
    · obtain rfl : j = l.length := by omega
      rw [List.take_length] at hown
      go_wp2_with fail
      go_ret
      exact ⟨_, rfl, hO, hown⟩
end Go.Proofs.YtfpojgljgbgkkaaGreatDoor

/-
  The coordinator: a key less; an end that is written; endIfOver.
-/
namespace Go.Proofs.YtfpojgljgbgkkaaGreatDoor
open Go.RowKit
open Go.ChangeMaps (setBlock)

attribute [local go_sem ↓] Go.wp_at_zero Go.wp_at_succ

theorem run_del {w : World} {b : Nat} {L : List ((Int × Int) × Value)} (h : MapI w b L) {mt et kt : TypeId} (hm : Tryz.prog.underlying mt = some (.map 150 et)) (x y : Int) :
    ∃ o, (∀ ty, (Builtin.delete_ #[mt, kt] ty #[.map (some b), keyV x y]).run Tryz.prog w = .ok (.tuple #[]) (setBlock w b o)) ∧ MapI (setBlock w b o) b (delL x y L) := by
  obtain ⟨es, clock, hb, he, hst⟩ := h
  cases hp : pos x y L 0 with
  | none =>
    have hf := run_findKey x y w es.toList L he
    rw [hp] at hf
    refine ⟨.map es clock, fun ty => ?_, _, _, heap_setBlock hb _, ?_, hst⟩
    · simp [Builtin.delete_, run_underlying hm, MapKept.run_getObj_map hb, key_check, hf, MapKept.run_setObj_map _ hb, Result.andThen]
      rfl
    · rw [(pos_none x y .nilIface L 0 hp).2]; exact he
  | some q =>
    obtain ⟨j, u⟩ := q
    have hf := run_findKey x y w es.toList L he
    rw [hp] at hf
    obtain ⟨k, rfl, h2, h3, h4⟩ := pos_some x y .nilIface L 0 j u hp
    rw [Nat.zero_add] at hf
    refine ⟨.map (es.eraseIdxIfInBounds k) clock, fun ty => ?_, _, _, heap_setBlock hb _, ?_, hst.sub (by simpa using List.eraseIdx_sublist _ _)⟩
    · simp [Builtin.delete_, run_underlying hm, MapKept.run_getObj_map hb, key_check, hf, MapKept.run_setObj_map _ hb, Result.andThen]
      rfl
    · rw [h4, ChangeMaps.map_eraseIdx, ← he, ← ChangeMaps.map_eraseIdx]
      simp

def delM (x y : Int) : List ((Int × Int) × (Int × Int)) → List ((Int × Int) × (Int × Int))
  | [] => []
  | p :: L => if p.1.1 = x ∧ p.1.2 = y then L else p :: delM x y L
theorem delL_M (x y : Int) : ∀ L : List ((Int × Int) × (Int × Int)), delL x y (toM L) = toM (delM x y L)
  | [] => rfl
  | p :: L => by
    simp only [toM, List.map_cons, delL, delM]
    by_cases hc : p.1.1 = x ∧ p.1.2 = y
    · simp [hc]
    · simp only [hc, if_false, List.map_cons, List.cons.injEq, true_and]
      exact delL_M x y L

/-- If nobody is waited for, it is over. -/
def CS.over (N : Nat) (t : Int) (c : CS) : CS := if (chosen (fun x => decide ((x, t) ∈ c.A)) N).length = 0 then { c with text := c.text ++ recL 5 t, O := delM 0 t c.O } else c
theorem nodup_parts {a b c d : Nat} (h : [a, b, c, d].Nodup) : a ≠ b ∧ a ≠ c ∧ a ≠ d ∧ b ≠ c ∧ b ≠ d ∧ c ≠ d := by
  simp at h
  omega

set_option maxRecDepth 100000 in
set_option maxHeartbeats 4000000 in
theorem endIfOver_any (p : CoP) (ss : List Int) (wait : Int) (c : CS) (t : Int) (w : World) (hC : CoAt w p ss wait c) (hN : ss.length ≤ 100) (hl : c.text.length ≤ 1000000) (ht1 : 1 ≤ t) (ht2 : t ≤ 16383) :
    Calls Tryz.prog 246 #[.pointer (some ⟨p.nb, 0, none⟩), .int .i64 t] w fun e w' => e = .returned (.tuple #[]) ∧ Only [p.nb, p.om] w w' ∧ CoAt w' p ss wait (c.over ss.length t) := by
  have HC : Hid (CoAt w p ss wait c) := hC
  clear hC
  have HO : Hid (c.over ss.length t = if (chosen (fun x => decide ((x, t) ∈ c.A)) ss.length).length = 0 then { c with text := c.text ++ recL 5 t, O := delM 0 t c.O } else c) := rfl
  go_enter Tryz.func246, Tryz.ntmps246
  go_wp2_with fail
  refine (owing_any p ss wait c t w HC.out hN).mono ?_
  rintro e w2 ⟨v, rfl, hO2, hv⟩
  obtain ⟨q, cap, rfl⟩ : ∃ q cap, v = .slice q (chosen (fun x => decide ((x, t) ∈ c.A)) ss.length).length cap := by
    rcases hv.2 with ⟨rfl, h0⟩ | ⟨g, cap, cur, rfl, _⟩
    · rw [h0]; exact ⟨_, _, rfl⟩
    · exact ⟨_, _, rfl⟩
  have hC2 := HC.out.only0 hO2
  have HC2 : Hid (CoAt w2 p ss wait c) := hC2
  have HO2 : Hid _ := hO2
  clear hv hC2 hO2
  generalize (chosen (fun x => decide ((x, t) ∈ c.A)) ss.length).length = m at *
  by_cases hm : m = 0
  · subst hm
    have hO' : c.over ss.length t = { c with text := c.text ++ recL 5 t, O := delM 0 t c.O } := by rw [HO.out, if_pos rfl]
    have HO' : Hid (c.over ss.length t = { c with text := c.text ++ recL 5 t, O := delM 0 t c.O }) := hO'
    clear hO' HO
    go_wp2_with fail
    refine (baseEnd_any p.nb _ 0 c.safe c.text p.kn _ t w2 HC2.out.node hl ht1 ht2).mono ?_
    rintro e w3 ⟨rfl, hO3, hN3⟩
    obtain ⟨c0, -⟩ := hN3.cells
    have c6 : w3.cell? ⟨p.nb, 7, none⟩ = some (.map (some p.om)) := by rw [cell_of_row _ _ _ _ _ _ hN3]; rfl
    have HN3 : Hid _ := hN3
    have HO3 : Hid _ := hO3
    have hnb : p.om ≠ p.nb := HC2.out.opens.ne HC2.out.node
    have hM3 : MapI w3 p.om (toM c.O) := HC2.out.opens.only hO3 (by simpa using hnb)
    have HM3 : Hid (MapI w3 p.om (toM c.O)) := hM3
    clear hN3 hO3 hM3
    go_wp2_with fail
    refine wp_region_held_drew (S := fun w' => w'.cell? ⟨p.nb, 0, none⟩ = some (.int .i64 0) ∧ w'.cell? ⟨p.nb, 7, none⟩ = some (.map (some p.om))) (by kernel_rfl) ⟨c0, c6⟩ (fun hHeld => ?_)
    refine takeD 0 14 (.pointer (some ⟨p.nb, 0, none⟩)) rfl rfl (by kernel_rfl) (by kernel_rfl) (by kernel_rfl) (fun _ _ _ h => h) (Or.inl ⟨by kernel_rfl, ?_⟩) (by assumption) ?_
    · intro w hSw; go_simp
    simp only [List.setIfInBounds_toArray, List.set_cons_zero, List.set_cons_succ]
    refine takeD 1 15 (.pointer (some ⟨p.nb, 0, none⟩)) rfl rfl (by kernel_rfl) (by kernel_rfl) (by kernel_rfl) (fun _ _ _ h => h) (Or.inl ⟨by kernel_rfl, ?_⟩) (by assumption) ?_
    · intro w hSw; go_simp
    simp only [List.setIfInBounds_toArray, List.set_cons_zero, List.set_cons_succ]
    refine takeD 2 16 (.pointer (some ⟨p.nb, 7, none⟩)) rfl rfl (by kernel_rfl) (by kernel_rfl) (by kernel_rfl) (fun _ _ _ h => h) (Or.inl ⟨by kernel_rfl, ?_⟩) (by assumption) ?_
    · intro w hSw; go_simp
    simp only [List.setIfInBounds_toArray, List.set_cons_zero, List.set_cons_succ]
    refine takeD 3 17 (.map (some p.om)) rfl rfl (by kernel_rfl) (by kernel_rfl) (by kernel_rfl) (fun _ _ _ h => h) (Or.inl ⟨by kernel_rfl, ?_⟩) (by assumption) ?_
    · intro w hSw; go_simp
    simp only [List.setIfInBounds_toArray, List.set_cons_zero, List.set_cons_succ]
    refine takeD 4 18 (.pointer (some ⟨p.nb, 0, none⟩)) rfl rfl (by kernel_rfl) (by kernel_rfl) (by kernel_rfl) (fun _ _ _ h => h) (Or.inl ⟨by kernel_rfl, ?_⟩) (by assumption) ?_
    · intro w hSw; go_simp
    simp only [List.setIfInBounds_toArray, List.set_cons_zero, List.set_cons_succ]
    refine takeD 5 19 (.pointer (some ⟨p.nb, 0, none⟩)) rfl rfl (by kernel_rfl) (by kernel_rfl) (by kernel_rfl) (fun _ _ _ h => h) (Or.inl ⟨by kernel_rfl, ?_⟩) (by assumption) ?_
    · intro w hSw; go_simp
    simp only [List.setIfInBounds_toArray, List.set_cons_zero, List.set_cons_succ]
    refine takeD 6 20 (.pointer (some ⟨p.nb, 0, none⟩)) rfl rfl (by kernel_rfl) (by kernel_rfl) (by kernel_rfl) (fun _ _ _ h => h) (Or.inl ⟨by kernel_rfl, ?_⟩) (by assumption) ?_
    · intro w hSw; go_simp
    simp only [List.setIfInBounds_toArray, List.set_cons_zero, List.set_cons_succ]
    refine takeD 7 21 (.int .i64 t) rfl rfl (by kernel_rfl) (by kernel_rfl) (by kernel_rfl) (fun _ _ _ h => h) (Or.inl ⟨by kernel_rfl, ?_⟩) (by assumption) ?_
    · intro w hSw; go_simp
    simp only [List.setIfInBounds_toArray, List.set_cons_zero, List.set_cons_succ]
    refine wpAnyH_ready (rs := [8]) (by kernel_rfl) (by simp) ?_
    refine (AllReadyH.cons rfl (fun K hK => ?_) AllReadyH.nil)
    go_simp
    refine (key_any p.nb 0 t _ (by simpa using c0)).mono ?_
    rintro e w4 ⟨rfl, hw4⟩
    have hO4 : Only [] w3 w4 := by rw [hw4]; exact (Only.refl _ _).drew.alloc _
    have s0 := hO4.cell c0 (by simp)
    have s6 := hO4.cell c6 (by simp)
    obtain ⟨o, hd, hMo⟩ := run_del (kt := 150) (MapI.only HM3.out hO4 (by simp)) Tryz.underlying130 0 t
    rw [delL_M] at hMo
    have HMo : Hid _ := hMo
    have HO4 : Hid _ := hO4
    clear hMo hw4
    go_wp2_with fail
    refine hK.out _ _ ⟨s0, s6⟩ (fun hHeld => ?_)
    clear hK K
    refine wpAnyH_ready (rs := [9]) (by kernel_rfl) (by simp) ?_
    refine (AllReadyH.cons rfl (fun K hK => ?_) AllReadyH.nil)
    go_simp
    have hOs : Only [p.om] w4 (setBlock w4 p.om o) := (Only.refl _ _).setBlock (.inl (by simp)) _
    refine hK.out _ _ ⟨hOs.cell s0 (by simpa using Ne.symm hnb), hOs.cell s6 (by simpa using Ne.symm hnb)⟩ (fun hHeld => ?_)
    clear hK K
    refine wpAnyH_done (by kernel_rfl) ?_ _
    go_wp2_with fail
    refine bodyPost_end (v := .tuple #[]) (by simp [results, Tryz.results246, go_sem]) rfl ⟨rfl, (HO2.out.mono (by simp)).trans ((HO3.out.mono (by simp)).trans ((HO4.out.mono (by simp)).trans (hOs.mono (by simp)))), ?_⟩
    rw [HO'.out]
    have hC2 := HC2.out
    obtain ⟨n1, n2, n3, n4, n5, n6⟩ := nodup_parts hC2.apart
    have hall : Only [p.nb, p.om] w2 (setBlock w4 p.om o) := (HO3.out.mono (by simp)).trans ((HO4.out.mono (by simp)).trans (hOs.mono (by simp)))
    have hsb := hC2.sb_out
    simp only [CoP.blocks, List.mem_cons, List.not_mem_nil, or_false, not_or] at hsb
    have k1 := hC2.known.ne hC2.node
    have k3 := hC2.votes.ne hC2.node
    have k4 := hC2.awaited.ne hC2.node
    exact ⟨(NodeAt.only HN3.out HO4.out (by simp)).only hOs (by simpa using Ne.symm hnb), hC2.sorts.only hall (by simp [hsb]), hC2.known.only hall (by simp [k1, n1]), HMo.out, hC2.votes.only hall (by simp [k3, Ne.symm n4]), hC2.awaited.only hall (by simp [k4, Ne.symm n5]), hC2.apart⟩
  · have hgt : (0 : Int) < (m : Int) := by omega
    have hO' : c.over ss.length t = c := by rw [HO.out, if_neg hm]
    have HO' : Hid (c.over ss.length t = c) := hO'
    clear hO' HO
    go_wp2_with fail
    exact bodyPost_ret (v := .tuple #[]) (by simp [results, Tryz.results246, go_sem]) rfl ⟨rfl, HO2.out.mono (by simp), by rw [HO'.out]; exact HC2.out⟩
end Go.Proofs.YtfpojgljgbgkkaaGreatDoor

/-
  The coordinator: await.
-/
namespace Go.Proofs.YtfpojgljgbgkkaaGreatDoor
open Go.RowKit
open Go.ChangeMaps (setBlock)

attribute [local go_sem ↓] Go.wp_at_zero Go.wp_at_succ

def putM (x y : Int) (v : Int × Int) : List ((Int × Int) × (Int × Int)) → List ((Int × Int) × (Int × Int))
  | [] => [((x, y), v)]
  | p :: L => if p.1.1 = x ∧ p.1.2 = y then (p.1, v) :: L else p :: putM x y v L
theorem putL_M (x y : Int) (v : Int × Int) : ∀ L : List ((Int × Int) × (Int × Int)), putL x y (.agg #[.int .i64 v.1, .int .i64 v.2]) (toM L) = toM (putM x y v L)
  | [] => rfl
  | p :: L => by
    simp only [toM, List.map_cons, putL, putM]
    by_cases hc : p.1.1 = x ∧ p.1.2 = y
    · simp [hc]
    · simp only [hc, if_false, List.map_cons, List.cons.injEq, true_and]
      exact putL_M x y v L

/-- Whose Ack is waited for, of these. -/
def waits (ss : List Int) (o t : Int) (A : List (Int × Int)) (l : List Int) : List (Int × Int) := l.foldl (fun A x => if presB (ss.getD (x - 1).toNat 0) o = true then A else addS x t A) A
theorem waits_snoc (ss : List Int) (o t : Int) (A : List (Int × Int)) (l : List Int) (x : Int) : waits ss o t A (l ++ [x]) = if presB (ss.getD (x - 1).toNat 0) o = true then waits ss o t A l else addS x t (waits ss o t A l) := by
  simp [waits, List.foldl_append]
def CS.await (ss : List Int) (o t : Int) (l : List Int) (c : CS) : CS := ({ c with O := putM 0 t (o, 0) c.O, A := waits ss o t c.A l } : CS).over ss.length t
theorem only_cell_block {S : List Nat} {w w' : World} {g : Nat} {T : TypeId} {xs : List Value} (h : Head w g T xs) (ho : Only S w w') (hs : g ∉ S) : Head w' g T xs := h.only ho hs

set_option maxRecDepth 100000 in
set_option maxHeartbeats 8000000 in
theorem await_any (p : CoP) (ss : List Int) (wait : Int) (c : CS) (o t : Int) (B : Nat) (tv : Value) (l : List Int) (w : World) (hC : CoAt w p ss wait c) (hl : Nums2 B w tv l) (hlN : l.length ≤ 100) (hx : ∀ x ∈ l, ∃ i : Nat, i < ss.length ∧ x = (i : Int) + 1) (hN : ss.length ≤ 100) (hlt : c.text.length ≤ 1000000) (ht1 : 1 ≤ t) (ht2 : t ≤ 16383) :
    Calls Tryz.prog 248 #[.pointer (some ⟨p.nb, 0, none⟩), .int .i64 o, .int .i64 t, tv] w fun e w' => e = .returned (.tuple #[]) ∧ Only [p.nb, p.om, p.am] w w' ∧ CoAt w' p ss wait (c.await ss o t l) := by
  obtain ⟨tp, tcap, rfl⟩ : ∃ q cap, tv = .slice q l.length cap := by
    rcases hl.2 with ⟨rfl, h0⟩ | ⟨g, cap, cur, rfl, _⟩
    · rw [h0]; exact ⟨_, _, rfl⟩
    · exact ⟨_, _, rfl⟩
  have HX : Hid (∀ x ∈ l, ∃ i : Nat, i < ss.length ∧ x = (i : Int) + 1) := hx
  have cint := cellsInt2
  -- the cells of the list, in every world in which but the two maps have turned
  have cellL : ∀ w', Only [p.om, p.am] w w' → ∀ j (hj : j < l.length), ∃ g, tp = some ⟨g, 0, none⟩ ∧ w'.cell? ⟨g, j, none⟩ = some (.int .i64 l[j]) := by
    intro w' ho j hj
    rcases hl.2 with ⟨e, h0⟩ | ⟨g, cap', cur, e, _, hg, _⟩
    · omega
    · injection e with e1 e2 e3
      have hcell : w.cell? ⟨g, j, none⟩ = some (.int .i64 l[j]) := by
        subst e1; subst e3
        have := hl.cellAt j (by omega)
        rw [this]; simp [intsV, hj]
      exact ⟨g, e1, ho.cell hcell (by simp [map_ne_cells hC.opens hg, map_ne_cells hC.awaited hg])⟩
  have CELL : Hid (∀ w', Only [p.om, p.am] w w' → ∀ j (hj : j < l.length), ∃ g, tp = some ⟨g, 0, none⟩ ∧ w'.cell? ⟨g, j, none⟩ = some (.int .i64 l[j])) := cellL
  obtain ⟨c0, -⟩ := hC.node.cells
  obtain ⟨-, -, c6, -, -⟩ := hC.cells
  have HC : Hid (CoAt w p ss wait c) := hC
  have hnb : p.om ≠ p.nb := hC.opens.ne hC.node
  have hnb2 : p.am ≠ p.nb := hC.awaited.ne hC.node
  have hsb := hC.sb_out
  simp only [CoP.blocks, List.mem_cons, List.not_mem_nil, or_false, not_or] at hsb
  have hap := nodup_parts hC.apart
  have HSB : Hid _ := hsb
  have HAP : Hid _ := hap
  have HK : Hid (p.kn ≠ p.nb ∧ p.vm ≠ p.nb) := ⟨hC.known.ne hC.node, hC.votes.ne hC.node⟩
  clear hC hl hx cellL hsb hap
  go_enter Tryz.func248, Tryz.ntmps248
  go_wp2_with fail
  refine wp_region_held_drew (S := fun w' => w'.cell? ⟨p.nb, 0, none⟩ = some (.int .i64 0) ∧ w'.cell? ⟨p.nb, 7, none⟩ = some (.map (some p.om))) (by kernel_rfl) ⟨c0, c6⟩ (fun hHeld => ?_)
  refine takeD 0 10 (.pointer (some ⟨p.nb, 0, none⟩)) rfl rfl (by kernel_rfl) (by kernel_rfl) (by kernel_rfl) (fun _ _ _ h => h) (Or.inl ⟨by kernel_rfl, ?_⟩) (by assumption) ?_
  · intro w hSw; go_simp
  simp only [List.setIfInBounds_toArray, List.set_cons_zero, List.set_cons_succ]
  refine takeD 1 11 (.pointer (some ⟨p.nb, 0, none⟩)) rfl rfl (by kernel_rfl) (by kernel_rfl) (by kernel_rfl) (fun _ _ _ h => h) (Or.inl ⟨by kernel_rfl, ?_⟩) (by assumption) ?_
  · intro w hSw; go_simp
  simp only [List.setIfInBounds_toArray, List.set_cons_zero, List.set_cons_succ]
  refine takeD 2 12 (.pointer (some ⟨p.nb, 7, none⟩)) rfl rfl (by kernel_rfl) (by kernel_rfl) (by kernel_rfl) (fun _ _ _ h => h) (Or.inl ⟨by kernel_rfl, ?_⟩) (by assumption) ?_
  · intro w hSw; go_simp
  simp only [List.setIfInBounds_toArray, List.set_cons_zero, List.set_cons_succ]
  refine takeD 3 13 (.map (some p.om)) rfl rfl (by kernel_rfl) (by kernel_rfl) (by kernel_rfl) (fun _ _ _ h => h) (Or.inl ⟨by kernel_rfl, ?_⟩) (by assumption) ?_
  · intro w hSw; go_simp
  simp only [List.setIfInBounds_toArray, List.set_cons_zero, List.set_cons_succ]
  refine takeD 4 14 (.pointer (some ⟨p.nb, 0, none⟩)) rfl rfl (by kernel_rfl) (by kernel_rfl) (by kernel_rfl) (fun _ _ _ h => h) (Or.inl ⟨by kernel_rfl, ?_⟩) (by assumption) ?_
  · intro w hSw; go_simp
  simp only [List.setIfInBounds_toArray, List.set_cons_zero, List.set_cons_succ]
  refine takeD 5 15 (.pointer (some ⟨p.nb, 0, none⟩)) rfl rfl (by kernel_rfl) (by kernel_rfl) (by kernel_rfl) (fun _ _ _ h => h) (Or.inl ⟨by kernel_rfl, ?_⟩) (by assumption) ?_
  · intro w hSw; go_simp
  simp only [List.setIfInBounds_toArray, List.set_cons_zero, List.set_cons_succ]
  refine takeD 6 16 (.pointer (some ⟨p.nb, 0, none⟩)) rfl rfl (by kernel_rfl) (by kernel_rfl) (by kernel_rfl) (fun _ _ _ h => h) (Or.inl ⟨by kernel_rfl, ?_⟩) (by assumption) ?_
  · intro w hSw; go_simp
  simp only [List.setIfInBounds_toArray, List.set_cons_zero, List.set_cons_succ]
  refine takeD 7 17 (.int .i64 t) rfl rfl (by kernel_rfl) (by kernel_rfl) (by kernel_rfl) (fun _ _ _ h => h) (Or.inl ⟨by kernel_rfl, ?_⟩) (by assumption) ?_
  · intro w hSw; go_simp
  simp only [List.setIfInBounds_toArray, List.set_cons_zero, List.set_cons_succ]
  refine takeD 9 19 (.int .i64 o) rfl rfl (by kernel_rfl) (by kernel_rfl) (by kernel_rfl) (fun _ _ _ h => h) (Or.inl ⟨by kernel_rfl, ?_⟩) (by assumption) ?_
  · intro w hSw; go_simp
  simp only [List.setIfInBounds_toArray, List.set_cons_zero, List.set_cons_succ]
  refine takeD 10 20 (.agg #[.int .i64 o, .int .i64 0]) rfl rfl (by kernel_rfl) (by kernel_rfl) (by kernel_rfl) (fun _ _ _ h => h) (Or.inl ⟨by kernel_rfl, ?_⟩) (by assumption) ?_
  · intro w hSw; go_simp
  simp only [List.setIfInBounds_toArray, List.set_cons_zero, List.set_cons_succ]
  refine wpAnyH_ready (rs := [8]) (by kernel_rfl) (by simp) ?_
  refine (AllReadyH.cons rfl (fun K hK => ?_) AllReadyH.nil)
  go_simp
  refine (key_any p.nb 0 t _ (by simpa using c0)).mono ?_
  rintro e w1 ⟨rfl, hw1⟩
  have hO1 : Only [] w w1 := by rw [hw1]; exact (Only.refl _ _).drew.alloc _
  have s0 := hO1.cell c0 (by simp)
  have s6 := hO1.cell c6 (by simp)
  obtain ⟨ob, hu, hMo⟩ := run_put (HC.out.opens.only hO1 (by simp)) Tryz.underlying130 0 t (.agg #[.int .i64 o, .int .i64 0])
  have hu0 : (Instr.mapUpdate 130 (.map (some p.om)) (keyV 0 t) (.agg #[.int .i64 o, .int .i64 0])).run Tryz.prog w1 = .ok () (setBlock w1 p.om ob) := hu 0
  rw [putL_M 0 t (o, 0)] at hMo
  have HMo : Hid (MapI (setBlock w1 p.om ob) p.om (toM (putM 0 t (o, 0) c.O))) := hMo
  have HO1 : Hid (Only [] w w1) := hO1
  clear hu hMo hw1 hO1
  go_wp2_with fail
  refine hK.out _ _ ⟨s0, s6⟩ (fun hHeld => ?_)
  clear hK K
  refine wpAnyH_ready (rs := [11]) (by kernel_rfl) (by simp) ?_
  refine (AllReadyH.cons rfl (fun K hK => ?_) AllReadyH.nil)
  go_simp
  have hOs : Only [p.om] w1 (setBlock w1 p.om ob) := (Only.refl _ _).setBlock (.inl (by simp)) _
  refine hK.out _ _ ⟨hOs.cell s0 (by simpa using Ne.symm hnb), hOs.cell s6 (by simpa using Ne.symm hnb)⟩ (fun hHeld => ?_)
  clear hK K
  refine wpAnyH_done (by kernel_rfl) ?_ _
  have hO2 : Only [p.om, p.am] w (setBlock w1 p.om ob) := (HO1.out.mono (by simp)).trans (hOs.mono (by simp))
  have hC2 : CoAt (setBlock w1 p.om ob) p ss wait { c with O := putM 0 t (o, 0) c.O } := by
    have h1 := HC.out.only0 HO1.out
    obtain ⟨n1, n2, n3, n4, n5, n6⟩ := HAP.out
    exact ⟨h1.node.only hOs (by simpa using Ne.symm hnb), h1.sorts.only hOs (by simp [HSB.out]), h1.known.only hOs (by simp [n1]), HMo.out, h1.votes.only hOs (by simp [Ne.symm n4]), h1.awaited.only hOs (by simp [Ne.symm n5]), h1.apart⟩
  have HC2 : Hid (CoAt (setBlock w1 p.om ob) p ss wait { c with O := putM 0 t (o, 0) c.O }) := hC2
  have HO2 : Hid (Only [p.om, p.am] w (setBlock w1 p.om ob)) := hO2
  clear hC2 hO2 hOs s0 s6 hu0 HMo HO1
  generalize setBlock w1 p.om ob = w2 at *
  clear c0 c6
  go_wp2_with fail
  go_loopw [23] (fun i wr => ∃ j : Nat, j ≤ l.length ∧ i = .int .i64 j ∧ Hid (Only [p.om, p.am] w wr) ∧ Hid (CoAt wr p ss wait { c with O := putM 0 t (o, 0) c.O, A := waits ss o t c.A (l.take j) })) (fun i _ => l.length - (intOf i).toNat)
  case atStart => exact ⟨0, by omega, rfl, HO2, HC2⟩
  case round =>
    obtain ⟨j, hj, rfl, hOr, hCr⟩ := hrel
    by_cases hlt2 : j < l.length
    · obtain ⟨g, rfl, hcell⟩ := CELL.out wr hOr.out j hlt2
      obtain ⟨i, hi, hxi⟩ := HX.out l[j] (List.getElem_mem hlt2)
      have hsn : waits ss o t c.A (l.take (j + 1)) = if presB (ss.getD i 0) o = true then waits ss o t c.A (l.take j) else addS ((i : Int) + 1) t (waits ss o t c.A (l.take j)) := by
        rw [List.take_succ_eq_append_getElem hlt2, waits_snoc, hxi, show ((i : Int) + 1 - 1).toNat = i from by omega]
      have HSN : Hid _ := hsn
      rw [hxi] at hcell
      obtain ⟨d4, -, -, -, d8⟩ := hCr.out.cells
      have hsort : wr.cell? ⟨p.sb, i, none⟩ = some (.int .i64 (ss.getD i 0)) := by
        rw [hCr.out.sorts.cell i (by simp [intsV]; exact hi)]; simp [intsV, hi]
      have hix0 : (0 : Int) ≤ (j : Int) := by omega
      have hix1 : (j : Int) < (l.length : Int) := by omega
      have hix2 : (0 : Int) ≤ (i : Int) := by omega
      have hix3 : (i : Int) < (ss.length : Int) := by omega
      clear hsn hxi
      generalize ss.getD i 0 = srt at *
      go_wp2_with fail
      refine (presumes_any srt o wr).mono ?_
      rintro e w3 ⟨rfl, rfl⟩
      cases hp : presB srt o
      · go_wp2_with fail
        refine (add_any p.am (waits ss o t c.A (l.take j)) ((i : Int) + 1) t wr hCr.out.awaited).mono ?_
        rintro e w4 ⟨rfl, hO4, hM4⟩
        have hO5 : Only [p.om, p.am] w w4 := hOr.out.trans (hO4.mono (by simp))
        have hC5 : CoAt w4 p ss wait { c with O := putM 0 t (o, 0) c.O, A := waits ss o t c.A (l.take (j + 1)) } := by
          have h1 := hCr.out
          obtain ⟨n1, n2, n3, n4, n5, n6⟩ := HAP.out
          refine ⟨h1.node.only hO4 (by simpa using Ne.symm hnb2), h1.sorts.only hO4 (by simp [HSB.out]), h1.known.only hO4 (by simp [n3]), h1.opens.only hO4 (by simp [n5]), h1.votes.only hO4 (by simp [n6]), ?_, h1.apart⟩
          show MapI w4 p.am (toS (waits ss o t c.A (l.take (j + 1))))
          rw [HSN.out, hp]
          exact hM4
        have HO5 : Hid _ := hO5
        have HC5 : Hid _ := hC5
        clear hO4 hM4 hO5 hC5
        go_wp2_with fail
        go_roundw
        case rel => exact ⟨j + 1, by omega, by go_num, HO5, HC5⟩
        case measure => simp [intOf]; omega
      · have HC5 : Hid (CoAt wr p ss wait { c with O := putM 0 t (o, 0) c.O, A := waits ss o t c.A (l.take (j + 1)) }) := by
          show CoAt _ _ _ _ _
          rw [HSN.out, hp]
          exact hCr.out
        go_wp2_with fail
        go_roundw
        case rel => exact ⟨j + 1, by omega, by go_num, hOr, HC5⟩
        case measure => simp [intOf]; omega
    · obtain rfl : j = l.length := by omega
      rw [List.take_length] at hCr
      go_wp2_with fail
      refine (endIfOver_any p ss wait { c with O := putM 0 t (o, 0) c.O, A := waits ss o t c.A l } t wr hCr.out hN hlt ht1 ht2).mono ?_
      rintro e w5 ⟨rfl, hO5, hC5⟩
      have HO5 : Hid _ := hO5
      have HC5 : Hid _ := hC5
      clear hO5 hC5
      go_wp2_with fail
      exact bodyPost_end (v := .tuple #[]) (by simp [results, Tryz.results248, go_sem]) rfl ⟨rfl, (hOr.out.mono (by simp)).trans (Only.mono HO5.out (by simp)), HC5.out⟩
end Go.Proofs.YtfpojgljgbgkkaaGreatDoor
