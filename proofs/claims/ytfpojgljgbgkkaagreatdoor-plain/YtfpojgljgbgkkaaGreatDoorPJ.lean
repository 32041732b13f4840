import Derived.Test.YtfpojgljgbgkkaaGreatDoorPI
/-
  A cluster in memory: its row, the coordinator, the participants, the net; hasNode, node, IsDown.
-/
namespace Go.Proofs.YtfpojgljgbgkkaaGreatDoor
open Go.RowKit
open Go.ChangeMaps (setBlock)

attribute [local go_sem ↓] Go.wp_at_zero Go.wp_at_succ

/-- Where a participant's parts lie. -/
structure PP where
  nb : Nat
  kn : Nat
  vt : Nat
def PP.blocks (q : PP) : List Nat := [q.nb, q.kn, q.vt]
/-- What a participant has: its own, and how it votes. -/
structure PV where
  p : PS
  V : List ((Int × Int) × Int)
/-- What a cluster has. -/
structure Cl where
  co : CS
  ps : List PV
  net : List (Int × Int × Int × Int)
  begun : Int
/-- Where a cluster's parts lie. -/
structure ClP where
  cb : Nat
  co : CoP
  pb : Nat
  pcap : Nat
  pp : List PP
def ClP.fixed (P : ClP) : List Nat := P.cb :: P.pb :: P.co.sb :: P.co.blocks
def ClP.blocks (P : ClP) : List Nat := P.fixed ++ P.pp.flatMap PP.blocks
theorem ClP.mem_blocks {P : ClP} {k : Nat} : k ∈ P.blocks ↔ k ∈ P.fixed ∨ ∃ q ∈ P.pp, k ∈ q.blocks := by
  simp [ClP.blocks]
/-- No two of them lie in one block. -/
structure Apart (P : ClP) (nv : Value) : Prop where
  fixed : P.fixed.Nodup
  parts : ∀ (i j : Nat) (q r : PP), P.pp[i]? = some q → P.pp[j]? = some r → i ≠ j → ∀ k ∈ q.blocks, k ∉ r.blocks
  cross : ∀ q ∈ P.pp, ∀ k ∈ q.blocks, k ∉ P.fixed
  net : ∀ g, nv.ownBlock = some g → g ∉ P.blocks
def ptrsV (pp : List PP) : List Value := pp.map fun q => .pointer (some ⟨q.nb, 0, none⟩)
def clRow (P : ClP) (n : Nat) (nv : Value) (begun : Int) : Array Value := #[.pointer (some ⟨P.co.nb, 0, none⟩), .slice (some ⟨P.pb, 0, none⟩) n P.pcap, nv, .int .i64 begun]
/-- A cluster in memory. -/
structure ClAt (w : World) (P : ClP) (ss : List Int) (wait : Int) (nv : Value) (c : Cl) : Prop where
  row : w.heap[P.cb]? = some (.cells (clRow P ss.length nv c.begun) 89 (0, 0))
  co : CoAt w P.co ss wait c.co
  ptrs : Head w P.pb 82 (ptrsV P.pp)
  lens : P.pp.length = ss.length ∧ c.ps.length = ss.length
  parts : ∀ (i : Nat) (q : PP) (v : PV) (s : Int), P.pp[i]? = some q → c.ps[i]? = some v → ss[i]? = some s → PartAt w q.nb ((i : Int) + 1) v.p.text v.p.safe q.kn v.p.L s q.vt v.V
  net : w.ownsRow 0 64 4 nv c.net.length (flatM c.net)
  apart : Apart P nv
theorem ownsRow_block {w w' : World} {base : Nat} {e : TypeId} {size n : Nat} {v : Value} {xs : List Value} {S : List Nat} (h : w.ownsRow base e size v n xs) (ho : Only S w w') (hS : ∀ g, v.ownBlock = some g → g ∉ S) : w'.ownsRow base e size v n xs := by
  obtain ⟨hl, h2⟩ := h
  refine ⟨hl, ?_⟩
  rcases h2 with h2 | ⟨g, cap, cur, rfl, hB, hg, hr⟩
  · exact .inl h2
  · exact .inr ⟨g, cap, cur, rfl, hB, ho.at hg (hS g rfl), hr⟩
theorem ClP.co_fixed {P : ClP} {k : Nat} (h : k ∈ P.co.blocks) : k ∈ P.fixed := by simp [ClP.fixed, h]
theorem CoAt.only' {S : List Nat} {w w' : World} {p : CoP} {ss : List Int} {wait : Int} {c : CS} (h : CoAt w p ss wait c) (ho : Only S w w') (hs : ∀ k ∈ p.sb :: p.blocks, k ∉ S) : CoAt w' p ss wait c :=
  ⟨h.node.only ho (hs _ (by simp [CoP.blocks])), h.sorts.only ho (hs _ (by simp)), h.known.only ho (hs _ (by simp [CoP.blocks])), h.opens.only ho (hs _ (by simp [CoP.blocks])), h.votes.only ho (hs _ (by simp [CoP.blocks])), h.awaited.only ho (hs _ (by simp [CoP.blocks])), h.apart⟩
theorem ClAt.only {S : List Nat} {w w' : World} {P : ClP} {ss : List Int} {wait : Int} {nv : Value} {c : Cl} (h : ClAt w P ss wait nv c) (ho : Only S w w') (hs : ∀ k ∈ P.blocks, k ∉ S) (hn : ∀ g, nv.ownBlock = some g → g ∉ S) : ClAt w' P ss wait nv c :=
  ⟨ho.at h.row (hs _ (by simp [ClP.blocks, ClP.fixed])), h.co.only' ho (fun k hk => hs k (by rw [ClP.mem_blocks]; exact .inl (by simp only [ClP.fixed, List.mem_cons] at *; rcases hk with hk | hk <;> simp [hk]))), h.ptrs.only ho (hs _ (by simp [ClP.blocks, ClP.fixed])), h.lens,
   fun i q v s hq hv hi => (h.parts i q v s hq hv hi).only ho (hs _ (by rw [ClP.mem_blocks]; exact .inr ⟨q, List.mem_of_getElem? hq, by simp [PP.blocks]⟩)) (hs _ (by rw [ClP.mem_blocks]; exact .inr ⟨q, List.mem_of_getElem? hq, by simp [PP.blocks]⟩)) (hs _ (by rw [ClP.mem_blocks]; exact .inr ⟨q, List.mem_of_getElem? hq, by simp [PP.blocks]⟩)),
   ownsRow_block h.net ho hn, h.apart⟩
theorem ClAt.only0 {w w' : World} {P : ClP} {ss : List Int} {wait : Int} {nv : Value} {c : Cl} (h : ClAt w P ss wait nv c) (ho : Only [] w w') : ClAt w' P ss wait nv c := h.only ho (by simp) (by simp)
/-- A participant has turned. -/
theorem ClAt.setPart {S : List Nat} {w w' : World} {P : ClP} {ss : List Int} {wait : Int} {nv : Value} {c : Cl} (h : ClAt w P ss wait nv c) {i : Nat} {q : PP} {s : Int} (hq : P.pp[i]? = some q) (hs : ss[i]? = some s) (ho : Only S w w') (hS : ∀ k ∈ S, k ∈ q.blocks) (v' : PV) (hP : PartAt w' q.nb ((i : Int) + 1) v'.p.text v'.p.safe q.kn v'.p.L s q.vt v'.V) :
    ClAt w' P ss wait nv { c with ps := c.ps.set i v' } := by
  have hqm : q ∈ P.pp := List.mem_of_getElem? hq
  have hfix : ∀ k ∈ P.fixed, k ∉ S := fun k hk hkS => h.apart.cross q hqm k (hS k hkS) hk
  refine ⟨ho.at h.row (hfix _ (by simp [ClP.fixed])), h.co.only' ho (fun k hk => hfix k (by simp only [ClP.fixed, List.mem_cons] at *; rcases hk with hk | hk <;> simp [hk])), h.ptrs.only ho (hfix _ (by simp [ClP.fixed])), ⟨h.lens.1, by simp [h.lens.2]⟩, ?_, ownsRow_block h.net ho ?_, h.apart⟩
  · intro j r v t hr hv ht
    by_cases hij : i = j
    · subst hij
      rw [hq] at hr; rw [hs] at ht
      cases hr; cases ht
      have hlt : i < c.ps.length := by rw [h.lens.2, ← h.lens.1]; exact (List.getElem?_eq_some_iff.1 hq).1
      simp [hlt] at hv
      subst hv
      exact hP
    · simp only [List.getElem?_set, hij, if_false] at hv
      have hn : ∀ k ∈ r.blocks, k ∉ S := fun k hk hkS => h.apart.parts i j q r hq hr hij k (hS k hkS) hk
      exact (h.parts j r v t hr hv ht).only ho (hn _ (by simp [PP.blocks])) (hn _ (by simp [PP.blocks])) (hn _ (by simp [PP.blocks]))
  · intro g hg hgS
    exact h.apart.net g hg (by rw [ClP.mem_blocks]; exact .inr ⟨q, hqm, hS g hgS⟩)
/-- The coordinator has turned. -/
theorem ClAt.setCo {S : List Nat} {w w' : World} {P : ClP} {ss : List Int} {wait : Int} {nv : Value} {c : Cl} (h : ClAt w P ss wait nv c) (ho : Only S w w') (hS : ∀ k ∈ S, k ∈ P.co.blocks) (co' : CS) (hC : CoAt w' P.co ss wait co') :
    ClAt w' P ss wait nv { c with co := co' } := by
  have hf := h.apart.fixed
  simp only [ClP.fixed, List.nodup_cons, List.mem_cons, not_or] at hf
  refine ⟨ho.at h.row (fun hk => hf.1.2.2 (hS _ hk)), hC, h.ptrs.only ho (fun hk => hf.2.1.2 (hS _ hk)), h.lens, ?_, ownsRow_block h.net ho ?_, h.apart⟩
  · intro j r v t hr hv ht
    have hn : ∀ k ∈ r.blocks, k ∉ S := fun k hk hkS => h.apart.cross r (List.mem_of_getElem? hr) k hk (ClP.co_fixed (hS k hkS))
    exact (h.parts j r v t hr hv ht).only ho (hn _ (by simp [PP.blocks])) (hn _ (by simp [PP.blocks])) (hn _ (by simp [PP.blocks]))
  · intro g hg hgS
    exact h.apart.net g hg (by rw [ClP.mem_blocks]; exact .inl (ClP.co_fixed (hS g hgS)))
/-- The net has turned. -/
theorem ClAt.setNet {w w' : World} {P : ClP} {ss : List Int} {wait : Int} {nv : Value} {c : Cl} (h : ClAt w P ss wait nv c) (nv' : Value) (net' : List (Int × Int × Int × Int)) (ho : Only (P.cb :: nv.ownBlock.toList) w w')
    (hrow : w'.heap[P.cb]? = some (.cells (clRow P ss.length nv' c.begun) 89 (0, 0))) (hnet : w'.ownsRow 0 64 4 nv' net'.length (flatM net')) (hap : nv'.ownBlock = nv.ownBlock ∨ ∃ g, nv'.ownBlock = some g ∧ w.heap.size ≤ g) (hlow : ∀ k ∈ P.blocks, k < w.heap.size) :
    ClAt w' P ss wait nv' { c with net := net' } := by
  have hf := h.apart.fixed
  simp only [ClP.fixed, List.nodup_cons, List.mem_cons, not_or] at hf
  have hout : ∀ k ∈ P.blocks, k ≠ P.cb → k ∉ P.cb :: nv.ownBlock.toList := by
    intro k hk hne hm
    simp only [List.mem_cons, hne, false_or, Option.mem_toList] at hm
    exact h.apart.net k hm hk
  refine ⟨hrow, h.co.only' ho ?_, h.ptrs.only ho (hout _ (by simp [ClP.blocks, ClP.fixed]) (fun e => hf.1.1 e.symm)), h.lens, ?_, hnet, h.apart.fixed, h.apart.parts, h.apart.cross, ?_⟩
  · intro k hk
    refine hout k ?_ ?_
    · rw [ClP.mem_blocks]; exact .inl (by simp only [ClP.fixed, List.mem_cons] at *; rcases hk with hk | hk <;> simp [hk])
    · rintro rfl
      simp only [List.mem_cons] at hk
      rcases hk with hk | hk
      · exact hf.1.2.1 hk
      · exact hf.1.2.2 hk
  · intro j r v t hr hv ht
    have hm := List.mem_of_getElem? hr
    have hn : ∀ k ∈ r.blocks, k ∉ P.cb :: nv.ownBlock.toList := fun k hk => hout k (by rw [ClP.mem_blocks]; exact .inr ⟨r, hm, hk⟩) (fun e => h.apart.cross r hm k hk (by simp [ClP.fixed, e]))
    exact (h.parts j r v t hr hv ht).only ho (hn _ (by simp [PP.blocks])) (hn _ (by simp [PP.blocks])) (hn _ (by simp [PP.blocks]))
  · intro g hg hgm
    rcases hap with e | ⟨g', e, hz⟩
    · exact h.apart.net g (e ▸ hg) hgm
    · rw [hg] at e; cases e
      have := hlow g hgm
      omega
theorem mapI_lt {w : World} {b : Nat} {L : List ((Int × Int) × Value)} (h : MapI w b L) : b < w.heap.size := by obtain ⟨_, _, h, _⟩ := h; exact block_lt h
theorem ClAt.low {w : World} {P : ClP} {ss : List Int} {wait : Int} {nv : Value} {c : Cl} (h : ClAt w P ss wait nv c) : ∀ k ∈ P.blocks, k < w.heap.size := by
  intro k hk
  rw [ClP.mem_blocks] at hk
  rcases hk with hk | ⟨q, hq, hk⟩
  · simp only [ClP.fixed, CoP.blocks, List.mem_cons, List.not_mem_nil, or_false] at hk
    rcases hk with rfl | rfl | rfl | rfl | rfl | rfl | rfl | rfl
    · exact block_lt h.row
    · exact h.ptrs.lt
    · exact h.co.sorts.lt
    · exact block_lt h.co.node
    · exact mapI_lt h.co.known
    · exact mapI_lt h.co.opens
    · exact mapI_lt h.co.votes
    · exact mapI_lt h.co.awaited
  · obtain ⟨i, hi⟩ := List.getElem?_of_mem hq
    have hil := (List.getElem?_eq_some_iff.1 hi).1
    have h1 : i < c.ps.length := by rw [h.lens.2, ← h.lens.1]; exact hil
    have h2 : i < ss.length := by rw [← h.lens.1]; exact hil
    have hp := h.parts i q _ _ hi (List.getElem?_eq_getElem h1) (List.getElem?_eq_getElem h2)
    simp only [PP.blocks, List.mem_cons, List.not_mem_nil, or_false] at hk
    rcases hk with rfl | rfl | rfl
    · exact block_lt hp.node
    · exact mapI_lt hp.known
    · exact mapI_lt hp.votes
theorem ClAt.cells {w : World} {P : ClP} {ss : List Int} {wait : Int} {nv : Value} {c : Cl} (h : ClAt w P ss wait nv c) :
    w.cell? ⟨P.cb, 0, none⟩ = some (.pointer (some ⟨P.co.nb, 0, none⟩)) ∧ w.cell? ⟨P.cb, 1, none⟩ = some (.slice (some ⟨P.pb, 0, none⟩) ss.length P.pcap) ∧ w.cell? ⟨P.cb, 2, none⟩ = some nv ∧ w.cell? ⟨P.cb, 3, none⟩ = some (.int .i64 c.begun) ∧ ∀ o, w.frozen? ⟨P.cb, o, none⟩ = false :=
  ⟨by rw [cell_of_row _ _ _ _ _ _ h.row]; rfl, by rw [cell_of_row _ _ _ _ _ _ h.row]; rfl, by rw [cell_of_row _ _ _ _ _ _ h.row]; rfl, by rw [cell_of_row _ _ _ _ _ _ h.row]; rfl, fun o => frozen_of_row _ _ _ _ _ h.row⟩
theorem ClAt.ptr {w : World} {P : ClP} {ss : List Int} {wait : Int} {nv : Value} {c : Cl} (h : ClAt w P ss wait nv c) {i : Nat} {q : PP} (hq : P.pp[i]? = some q) : w.cell? ⟨P.pb, i, none⟩ = some (.pointer (some ⟨q.nb, 0, none⟩)) := by
  have hi := (List.getElem?_eq_some_iff.1 hq).1
  rw [h.ptrs.cell i (by simpa [ptrsV] using hi)]
  simp [ptrsV, hq]

set_option maxRecDepth 100000 in
set_option maxHeartbeats 1000000 in
theorem hasNode_any (P : ClP) (ss : List Int) (wait : Int) (nv : Value) (c : Cl) (i : Int) (w : World) (h : ClAt w P ss wait nv c) :
    Calls Tryz.prog 31 #[.pointer (some ⟨P.cb, 0, none⟩), .int .i64 i] w fun e w' => e = .returned (.bool (decide (0 ≤ i) && decide (i ≤ (ss.length : Int)))) ∧ w = w' := by
  obtain ⟨-, c1, -, -, -⟩ := h.cells
  clear h
  by_cases h0 : 0 ≤ i
  · have hd : decide (i ≥ 0) = true := by simpa using h0
    go_enter Tryz.func31, Tryz.ntmps31
    go_wp2_with fail
    go_ret
    simp [h0]
  · have hd : decide (i ≥ 0) = false := by simpa using h0
    go_enter Tryz.func31, Tryz.ntmps31
    go_wp2_with fail
    go_ret
    simp

set_option maxRecDepth 100000 in
set_option maxHeartbeats 1000000 in
theorem node0_any (P : ClP) (ss : List Int) (wait : Int) (nv : Value) (c : Cl) (w : World) (h : ClAt w P ss wait nv c) :
    Calls Tryz.prog 34 #[.pointer (some ⟨P.cb, 0, none⟩), .int .i64 0] w fun e w' => e = .returned (.iface 83 (.pointer (some ⟨P.co.nb, 0, none⟩))) ∧ w = w' := by
  obtain ⟨c0, -, -, -, -⟩ := h.cells
  clear h
  go_enter Tryz.func34, Tryz.ntmps34
  go_wp2_with fail
  go_ret
  simp

set_option maxRecDepth 100000 in
set_option maxHeartbeats 1000000 in
theorem nodeS_any (P : ClP) (ss : List Int) (wait : Int) (nv : Value) (c : Cl) (i : Nat) (q : PP) (w : World) (h : ClAt w P ss wait nv c) (hq : P.pp[i]? = some q) (hN : ss.length ≤ 100) :
    Calls Tryz.prog 34 #[.pointer (some ⟨P.cb, 0, none⟩), .int .i64 ((i : Int) + 1)] w fun e w' => e = .returned (.iface 82 (.pointer (some ⟨q.nb, 0, none⟩))) ∧ w = w' := by
  obtain ⟨-, c1, -, -, -⟩ := h.cells
  have hp := h.ptr hq
  have hi : i < ss.length := by rw [← h.lens.1]; exact (List.getElem?_eq_some_iff.1 hq).1
  have hb : (((i : Int) + 1) == 0) = false := by rw [beq_eq_false_iff_ne]; omega
  have hs : (i : Int) + 1 - 1 = (i : Int) := by omega
  have hi0 : (0 : Int) ≤ (i : Int) := by omega
  have hi1 : (i : Int) < (ss.length : Int) := by omega
  clear h hq
  go_enter Tryz.func34, Tryz.ntmps34
  go_wp2_with fail
  go_ret
  simp

set_option maxRecDepth 100000 in
set_option maxHeartbeats 1000000 in
theorem isDown_any (nb : Nat) (d : Bool) (w : World) (h : w.cell? ⟨nb, 4, none⟩ = some (.bool d)) :
    Calls Tryz.prog 47 #[.pointer (some ⟨nb, 0, none⟩)] w fun e w' => e = .returned (.bool d) ∧ w = w' := by
  go_enter Tryz.func47, Tryz.ntmps47
  go_wp2_with fail
  go_ret
  simp
theorem PartAt.down {w : World} {nb : Nat} {n : Int} {text : List UInt8} {s : Int} {kn : Nat} {L : List ((Int × Int) × Int)} {sort : Int} {vt : Nat} {V : List ((Int × Int) × Int)} (h : PartAt w nb n text s kn L sort vt V) : w.cell? ⟨nb, 4, none⟩ = some (.bool false) := by rw [cell_of_row _ _ _ _ _ _ h.node]; rfl
theorem CoAt.down {w : World} {p : CoP} {ss : List Int} {wait : Int} {c : CS} (h : CoAt w p ss wait c) : w.cell? ⟨p.nb, 4, none⟩ = some (.bool false) := by rw [cell_of_row _ _ _ _ _ _ h.node]; rfl
theorem methDownP (nb : Nat) (w : World) : (Go.method 432 82 (.pointer (some ⟨nb, 0, none⟩)) "IsDown").run Tryz.prog w = .ok (47, .pointer (some ⟨nb, 0, none⟩)) w := by kernel_rfl
theorem methDownC (nb : Nat) (w : World) : (Go.method 432 83 (.pointer (some ⟨nb, 0, none⟩)) "IsDown").run Tryz.prog w = .ok (47, .pointer (some ⟨nb, 0, none⟩)) w := by kernel_rfl
theorem methRecP (nb : Nat) (w : World) : (Go.method 432 82 (.pointer (some ⟨nb, 0, none⟩)) "Receive").run Tryz.prog w = .ok (190, .pointer (some ⟨nb, 0, none⟩)) w := by kernel_rfl
theorem methRecC (nb : Nat) (w : World) : (Go.method 432 83 (.pointer (some ⟨nb, 0, none⟩)) "Receive").run Tryz.prog w = .ok (231, .pointer (some ⟨nb, 0, none⟩)) w := by kernel_rfl
theorem methOutP (nb : Nat) (w : World) : (Go.method 432 82 (.pointer (some ⟨nb, 0, none⟩)) "Outcome").run Tryz.prog w = .ok (189, .pointer (some ⟨nb, 0, none⟩)) w := by kernel_rfl
theorem methOutC (nb : Nat) (w : World) : (Go.method 432 83 (.pointer (some ⟨nb, 0, none⟩)) "Outcome").run Tryz.prog w = .ok (230, .pointer (some ⟨nb, 0, none⟩)) w := by kernel_rfl
end Go.Proofs.YtfpojgljgbgkkaaGreatDoor

/-
  A cluster: Vote, Outcome.
-/
namespace Go.Proofs.YtfpojgljgbgkkaaGreatDoor
open Go.RowKit
open Go.ChangeMaps (setBlock)

attribute [local go_sem ↓] Go.wp_at_zero Go.wp_at_succ
attribute [local go_sem] methDownP methDownC methRecP methRecC methOutP methOutC

/-- How a participant votes is told. -/
def Cl.vote (i : Nat) (t : Int) (yes : Bool) (c : Cl) : Cl := match c.ps[i]? with
  | some v => { c with ps := c.ps.set i ⟨v.p, putI ((i : Int) + 1) t (if yes then 2 else 3) v.V⟩ }
  | none => c
theorem ClAt.one {w : World} {P : ClP} {ss : List Int} {wait : Int} {nv : Value} {c : Cl} (h : ClAt w P ss wait nv c) {i : Nat} (hi : i < ss.length) : ∃ q v s, P.pp[i]? = some q ∧ c.ps[i]? = some v ∧ ss[i]? = some s ∧ PartAt w q.nb ((i : Int) + 1) v.p.text v.p.safe q.kn v.p.L s q.vt v.V := by
  have h1 : i < P.pp.length := by rw [h.lens.1]; exact hi
  have h2 : i < c.ps.length := by rw [h.lens.2]; exact hi
  exact ⟨_, _, _, List.getElem?_eq_getElem h1, List.getElem?_eq_getElem h2, List.getElem?_eq_getElem hi, h.parts i _ _ _ (List.getElem?_eq_getElem h1) (List.getElem?_eq_getElem h2) (List.getElem?_eq_getElem hi)⟩

set_option maxRecDepth 100000 in
set_option maxHeartbeats 2000000 in
theorem voteOk_any (P : ClP) (ss : List Int) (wait : Int) (nv : Value) (c : Cl) (i : Nat) (t : Int) (yes : Bool) (w : World) (h : ClAt w P ss wait nv c) (hN : ss.length ≤ 100) (hi : i < ss.length) (ht1 : 1 ≤ t) (ht2 : t ≤ 40) :
    Calls Tryz.prog 13 #[.pointer (some ⟨P.cb, 0, none⟩), .int .i64 ((i : Int) + 1), .int .i64 t, .bool yes] w fun e w' => e = .returned (.int .i64 0) ∧ Only P.blocks w w' ∧ ClAt w' P ss wait nv (c.vote i t yes) := by
  obtain ⟨q, v, s, hq, hv, hs, hP⟩ := h.one hi
  obtain ⟨-, c1, -, -, -⟩ := h.cells
  have hptr := h.ptr hq
  have HC : Hid (ClAt w P ss wait nv c) := h
  have HP : Hid (PartAt w q.nb ((i : Int) + 1) v.p.text v.p.safe q.kn v.p.L s q.vt v.V) := hP
  have hn := hasNode_any P ss wait nv c ((i : Int) + 1) w h
  have hb : (decide (0 ≤ (i : Int) + 1) && decide ((i : Int) + 1 ≤ (ss.length : Int))) = true := by simp; omega
  rw [hb] at hn
  have z0 : (((i : Int) + 1) == 0) = false := by rw [beq_eq_false_iff_ne]; omega
  have z1 : decide (t < 1) = false := by simpa using ht1
  have z2 : decide (t > 40) = false := by simpa using ht2
  have hs1 : (i : Int) + 1 - 1 = (i : Int) := by omega
  have hi0 : (0 : Int) ≤ (i : Int) := by omega
  have hi1 : (i : Int) < (ss.length : Int) := by omega
  have HQ : Hid (P.pp[i]? = some q ∧ c.ps[i]? = some v ∧ ss[i]? = some s) := ⟨hq, hv, hs⟩
  have HN : Hid _ := hn
  clear h hP hb hn hq hv hs
  go_enter Tryz.func13, Tryz.ntmps13
  go_wp2_with fail
  refine Calls.mono HN.out ?_
  rintro e w1 ⟨rfl, rfl⟩
  go_wp2_with fail
  refine (setVote_any q.nb ((i : Int) + 1) v.p.text v.p.safe q.kn v.p.L s q.vt v.V t yes w HP.out).mono ?_
  rintro e w2 ⟨rfl, hO2, hP2⟩
  have R : Hid (Only P.blocks w w2 ∧ ClAt w2 P ss wait nv (c.vote i t yes)) := by
    refine ⟨hO2.mono ?_, ?_⟩
    · intro k hk
      rw [ClP.mem_blocks]
      exact .inr ⟨q, List.mem_of_getElem? HQ.out.1, by simp only [List.mem_cons, List.not_mem_nil, or_false] at hk; simp [PP.blocks, hk]⟩
    · have := HC.out.setPart HQ.out.1 HQ.out.2.2 hO2 (by intro k hk; simp only [List.mem_cons, List.not_mem_nil, or_false] at hk; simp [PP.blocks, hk]) ⟨v.p, putI ((i : Int) + 1) t (if yes then 2 else 3) v.V⟩ hP2
      simpa [Cl.vote, HQ.out.2.1] using this
  clear hO2 hP2
  go_wp2_with fail
  go_ret
  exact ⟨by simp, R.out⟩

/-- What a node says of a transaction. -/
def Cl.outcome (n : Nat) (t : Int) (c : Cl) : Int := match n with
  | 0 => c.co.outcome t
  | i + 1 => match c.ps[i]? with
    | some v => toldI (lookI ((i : Int) + 1) t v.p.L)
    | none => 0

set_option maxRecDepth 100000 in
set_option maxHeartbeats 2000000 in
theorem outcome0_any (P : ClP) (ss : List Int) (wait : Int) (nv : Value) (c : Cl) (t : Int) (w : World) (h : ClAt w P ss wait nv c) (ht1 : 1 ≤ t) (ht2 : t ≤ c.begun) :
    Calls Tryz.prog 15 #[.pointer (some ⟨P.cb, 0, none⟩), .int .i64 0, .int .i64 t] w fun e w' => e = .returned (.tuple #[.int .i64 (c.outcome 0 t), .int .i64 0]) ∧ Only [] w w' := by
  obtain ⟨-, -, -, c3, -⟩ := h.cells
  have HC : Hid (ClAt w P ss wait nv c) := h
  have hn := hasNode_any P ss wait nv c 0 w h
  have hb : (decide (0 ≤ (0 : Int)) && decide ((0 : Int) ≤ (ss.length : Int))) = true := by simp
  rw [hb] at hn
  have z1 : decide (t < 1) = false := by simpa using ht1
  have z2 : decide (t > c.begun) = false := by simpa using ht2
  have HN : Hid _ := hn
  clear h hb hn
  go_enter Tryz.func15, Tryz.ntmps15
  go_wp2_with fail
  refine Calls.mono HN.out ?_
  rintro e w1 ⟨rfl, rfl⟩
  go_wp2_with fail
  refine (node0_any P ss wait nv c w HC.out).mono ?_
  rintro e w1 ⟨rfl, rfl⟩
  go_wp2_with fail
  refine (isDown_any P.co.nb false w HC.out.co.down).mono ?_
  rintro e w1 ⟨rfl, rfl⟩
  go_wp2_with fail
  refine (node0_any P ss wait nv c w HC.out).mono ?_
  rintro e w1 ⟨rfl, rfl⟩
  go_wp2_with fail
  refine (coOutcome_any P.co ss wait c.co t w HC.out.co).mono ?_
  rintro e w2 ⟨rfl, hO⟩
  have HO : Hid _ := hO
  clear hO
  go_wp2_with fail
  exact bodyPost_ret (v := .tuple #[.int .i64 (c.outcome 0 t), .int .i64 0]) (by simp [results, Tryz.results15, go_sem, Cl.outcome]) rfl ⟨rfl, HO.out⟩

set_option maxRecDepth 100000 in
set_option maxHeartbeats 2000000 in
theorem outcomeS_any (P : ClP) (ss : List Int) (wait : Int) (nv : Value) (c : Cl) (i : Nat) (t : Int) (w : World) (h : ClAt w P ss wait nv c) (hN : ss.length ≤ 100) (hi : i < ss.length) (ht1 : 1 ≤ t) (ht2 : t ≤ c.begun) :
    Calls Tryz.prog 15 #[.pointer (some ⟨P.cb, 0, none⟩), .int .i64 ((i : Int) + 1), .int .i64 t] w fun e w' => e = .returned (.tuple #[.int .i64 (c.outcome (i + 1) t), .int .i64 0]) ∧ Only [] w w' := by
  obtain ⟨q, v, s, hq, hv, hs, hP⟩ := h.one hi
  have HV : Hid (c.outcome (i + 1) t = toldI (lookI ((i : Int) + 1) t v.p.L)) := by show _ = _; simp [Cl.outcome, hv]
  have HP : Hid (PartAt w q.nb ((i : Int) + 1) v.p.text v.p.safe q.kn v.p.L s q.vt v.V) := hP
  obtain ⟨-, -, -, c3, -⟩ := h.cells
  have HC : Hid (ClAt w P ss wait nv c) := h
  have hn := hasNode_any P ss wait nv c ((i : Int) + 1) w h
  have hb : (decide (0 ≤ (i : Int) + 1) && decide ((i : Int) + 1 ≤ (ss.length : Int))) = true := by simp; omega
  rw [hb] at hn
  have hnd := nodeS_any P ss wait nv c i q w h hq hN
  have z1 : decide (t < 1) = false := by simpa using ht1
  have z2 : decide (t > c.begun) = false := by simpa using ht2
  have HN : Hid _ := hn
  have HND : Hid _ := hnd
  clear h hb hn hnd hP hq hv hs hi
  go_enter Tryz.func15, Tryz.ntmps15
  go_wp2_with fail
  refine Calls.mono HN.out ?_
  rintro e w1 ⟨rfl, rfl⟩
  go_wp2_with fail
  refine Calls.mono HND.out ?_
  rintro e w1 ⟨rfl, rfl⟩
  go_wp2_with fail
  refine (isDown_any q.nb false w HP.out.down).mono ?_
  rintro e w1 ⟨rfl, rfl⟩
  go_wp2_with fail
  refine Calls.mono HND.out ?_
  rintro e w1 ⟨rfl, rfl⟩
  go_wp2_with fail
  refine (partOutcome_any q.nb ((i : Int) + 1) v.p.text v.p.safe q.kn v.p.L s q.vt v.V t w HP.out).mono ?_
  rintro e w2 ⟨rfl, hO⟩
  have HO : Hid _ := hO
  clear hO
  go_wp2_with fail
  exact bodyPost_ret (v := .tuple #[.int .i64 (c.outcome (i + 1) t), .int .i64 0]) (by rw [HV.out]; simp [results, Tryz.results15, go_sem]) rfl ⟨rfl, HO.out⟩
end Go.Proofs.YtfpojgljgbgkkaaGreatDoor

/-
  A cluster: Begin, Deliver.
-/
namespace Go.Proofs.YtfpojgljgbgkkaaGreatDoor
open Go.RowKit
open Go.ChangeMaps (setBlock)

attribute [local go_sem ↓] Go.wp_at_zero Go.wp_at_succ
attribute [local go_sem] methDownP methDownC methRecP methRecC methOutP methOutC

/-- A row's own block: the same, or a new one. -/
def Fresh (w : World) (nv nv' : Value) : Prop := nv'.ownBlock = nv.ownBlock ∨ ∃ g, nv'.ownBlock = some g ∧ w.heap.size ≤ g
theorem Fresh.refl (w : World) (nv : Value) : Fresh w nv nv := .inl rfl
theorem Fresh.trans {w w' : World} {a b c : Value} (h : Fresh w a b) (hz : w.heap.size ≤ w'.heap.size) (k : Fresh w' b c) : Fresh w a c := by
  rcases k with k | ⟨g, k, hg⟩
  · rcases h with h | ⟨g, h, hg⟩
    · exact .inl (k.trans h)
    · exact .inr ⟨g, k.trans h, hg⟩
  · exact .inr ⟨g, k, by omega⟩
/-- What is sent goes behind the others; what finds no room is lost. -/
def Cl.send (ms : List (Int × Int × Int × Int)) (c : Cl) : Cl := { c with net := c.net ++ ms.take (100 - c.net.length) }
theorem ClAt.net_ne {w : World} {P : ClP} {ss : List Int} {wait : Int} {nv : Value} {c : Cl} (h : ClAt w P ss wait nv c) : nv.ownBlock ≠ some P.cb := fun e => h.apart.net _ e (by simp [ClP.blocks, ClP.fixed])

theorem clSend_any (P : ClP) (ss : List Int) (wait : Int) (nv : Value) (c : Cl) (ms : List (Int × Int × Int × Int)) (B : Nat) (xv : Value) (w : World) (h : ClAt w P ss wait nv c) (hx : Sent2 B w xv ms) (hn : c.net.length ≤ 100) (hm : ms.length ≤ 1000) :
    Calls Tryz.prog 38 #[.pointer (some ⟨P.cb, 2, none⟩), xv] w fun e w' => ∃ nv', e = .returned (.tuple #[]) ∧ Only (P.cb :: nv.ownBlock.toList) w w' ∧ Fresh w nv nv' ∧ ClAt w' P ss wait nv' (c.send ms) := by
  refine (netSend_any P.cb 2 _ _ nv c.net ms B xv w h.row rfl h.net hx hn hm h.net_ne).mono ?_
  rintro e w' ⟨nv', rfl, hrow, hnet, hap, hO⟩
  exact ⟨nv', rfl, hO, hap, h.setNet nv' _ hO hrow hnet hap h.low⟩
theorem clTake_any (P : ClP) (ss : List Int) (wait : Int) (nv : Value) (c : Cl) (i : Nat) (p : Int × Int × Int × Int) (w : World) (h : ClAt w P ss wait nv c) (hp : c.net[i]? = some p) (hn : c.net.length ≤ 100) :
    Calls Tryz.prog 50 #[.pointer (some ⟨P.cb, 2, none⟩), .int .i64 i] w fun e w' => ∃ nv', e = .returned (.agg #[.int .i64 p.1, .int .i64 p.2.1, .int .i64 p.2.2.1, .int .i64 p.2.2.2]) ∧ Only (P.cb :: nv.ownBlock.toList) w w' ∧ Fresh w nv nv' ∧ ClAt w' P ss wait nv' { c with net := c.net.eraseIdx i } := by
  refine (netTake_any P.cb 2 _ _ nv c.net i p w h.row rfl h.net hp (by omega) h.net_ne).mono ?_
  rintro e w' ⟨nv', rfl, hrow, hnet, hap, hO⟩
  exact ⟨nv', rfl, hO, .inl hap, h.setNet nv' _ hO hrow hnet (.inl hap) h.low⟩

def Cl.begin (ss : List Int) (c : Cl) : Cl := ({ c with begun := c.begun + 1, co := c.co.begun ss (c.begun + 1) } : Cl).send (toAll 1 (c.begun + 1) (chosen (fun x => x != 0) ss.length))
theorem ClAt.setBegun {w : World} {P : ClP} {ss : List Int} {wait : Int} {nv : Value} {c : Cl} (h : ClAt w P ss wait nv c) (n : Int) : ClAt (w.setCell ⟨P.cb, 3, none⟩ (.int .i64 n)) P ss wait nv { c with begun := n } := by
  have ho : Only [P.cb] w (w.setCell ⟨P.cb, 3, none⟩ (.int .i64 n)) := (Only.refl _ _).setCell (.inl (by simp)) _
  have hf := h.apart.fixed
  simp only [ClP.fixed, List.nodup_cons, List.mem_cons, not_or] at hf
  refine ⟨by rw [heap_setCell_same _ _ _ _ _ _ h.row]; rfl, h.co.only' ho ?_, h.ptrs.only ho (by simpa using fun e => hf.1.1 e.symm), h.lens, ?_, ownsRow_block h.net ho ?_, h.apart⟩
  · intro k hk hm
    simp only [List.mem_cons, List.not_mem_nil, or_false] at hm hk
    subst hm
    rcases hk with hk | hk
    · exact hf.1.2.1 hk
    · exact hf.1.2.2 hk
  · intro j r v t hr hv ht
    have hn : ∀ k ∈ r.blocks, k ∉ [P.cb] := fun k hk hm => h.apart.cross r (List.mem_of_getElem? hr) k hk (by simp only [List.mem_cons, List.not_mem_nil, or_false] at hm; simp [ClP.fixed, hm])
    exact (h.parts j r v t hr hv ht).only ho (hn _ (by simp [PP.blocks])) (hn _ (by simp [PP.blocks])) (hn _ (by simp [PP.blocks]))
  · intro g hg hm
    exact h.apart.net g hg (by simp only [List.mem_cons, List.not_mem_nil, or_false] at hm; simp [ClP.blocks, ClP.fixed, hm])
def ClP.all (P : ClP) (nv : Value) : List Nat := P.blocks ++ nv.ownBlock.toList
theorem ClP.cb_all (P : ClP) (nv : Value) : ∀ k ∈ P.cb :: nv.ownBlock.toList, k ∈ P.all nv := by
  intro k hk
  simp only [List.mem_cons] at hk
  rcases hk with rfl | hk
  · simp [ClP.all, ClP.blocks, ClP.fixed]
  · simp [ClP.all, hk]
theorem ClP.co_all (P : ClP) (nv : Value) : ∀ k ∈ P.co.blocks, k ∈ P.all nv := by
  intro k hk
  simp [ClP.all, ClP.blocks, ClP.fixed, hk]
theorem ClP.part_all (P : ClP) (nv : Value) {q : PP} (hq : q ∈ P.pp) : ∀ k ∈ q.blocks, k ∈ P.all nv := by
  intro k hk
  simp only [ClP.all, List.mem_append]
  exact .inl (ClP.mem_blocks.2 (.inr ⟨q, hq, hk⟩))
/-- Two steps: what the second may turn lies where the first might, or is new. -/
theorem all_fresh {w w' w2 : World} {P : ClP} {nv nv' : Value} (h : Only (P.all nv) w w') (hf : Fresh w nv nv') (k : Only (P.all nv') w' w2) : Only (P.all nv) w w2 := by
  refine h.trans2 k (fun x hx => ?_)
  simp only [ClP.all, List.mem_append, Option.mem_toList] at hx ⊢
  rcases hx with hx | hx
  · exact .inl (.inl hx)
  · rcases hf with e | ⟨g, e, hg⟩
    · exact .inl (.inr (e ▸ hx))
    · rw [e] at hx; cases hx; exact .inr hg
theorem toAll_len (k t : Int) (l : List Int) : (toAll k t l).length = l.length := by simp [toAll]

set_option maxRecDepth 100000 in
set_option maxHeartbeats 4000000 in
theorem clBegin_any (P : ClP) (ss : List Int) (wait : Int) (nv : Value) (c : Cl) (w : World) (h : ClAt w P ss wait nv c) (hN : ss.length ≤ 100) (hl : c.co.text.length ≤ 900000) (hn : c.net.length ≤ 100) (hb0 : 0 ≤ c.begun) (hb1 : c.begun < 40) (hch : (chosen (fun x => x != 0) ss.length).length ≤ 1000) :
    Calls Tryz.prog 23 #[.pointer (some ⟨P.cb, 0, none⟩)] w fun e w' => ∃ nv', e = .returned (.tuple #[.int .i64 (c.begun + 1), .int .i64 0]) ∧ Only (P.all nv) w w' ∧ Fresh w nv nv' ∧ ClAt w' P ss wait nv' (c.begin ss) := by
  obtain ⟨c0, -, -, c3, cf⟩ := h.cells
  have HC : Hid (ClAt w P ss wait nv c) := h
  have HCH : Hid ((chosen (fun x => x != 0) ss.length).length ≤ 1000) := hch
  have z1 : (c.begun == 40) = false := by rw [beq_eq_false_iff_ne]; omega
  have hc1 := h.setBegun (c.begun + 1)
  have ho1 : Only [P.cb] w (w.setCell ⟨P.cb, 3, none⟩ (.int .i64 (c.begun + 1))) := (Only.refl _ _).setCell (.inl (by simp)) _
  have HC1 : Hid (ClAt (w.setCell ⟨P.cb, 3, none⟩ (.int .i64 (c.begun + 1))) P ss wait nv { c with begun := c.begun + 1 }) := hc1
  have HO1 : Hid (Only [P.cb] w (w.setCell ⟨P.cb, 3, none⟩ (.int .i64 (c.begun + 1)))) := ho1
  obtain ⟨d0, -, -, d3, -⟩ := hc1.cells
  have hdn := h.co.down
  have HDN : Hid (w.cell? ⟨P.co.nb, 4, none⟩ = some (.bool false)) := hdn
  clear h hch hc1 ho1 hdn
  go_enter Tryz.func23, Tryz.ntmps23
  go_wp2_with fail
  refine (isDown_any P.co.nb false w HDN.out).mono ?_
  rintro e w1 ⟨rfl, rfl⟩
  go_wp2_with fail
  generalize w.setCell ⟨P.cb, 3, none⟩ (.int .i64 (c.begun + 1)) = w1 at *
  refine wp_region_held_drew (S := fun w' => w'.cell? ⟨P.cb, 0, none⟩ = some (.pointer (some ⟨P.co.nb, 0, none⟩)) ∧ w'.cell? ⟨P.cb, 3, none⟩ = some (.int .i64 (c.begun + 1))) (by kernel_rfl) ⟨d0, d3⟩ (fun hHeld => ?_)
  refine takeD 0 28 (.pointer (some ⟨P.cb, 0, none⟩)) rfl rfl (by kernel_rfl) (by kernel_rfl) (by kernel_rfl) (fun _ _ _ h => h) (Or.inl ⟨by kernel_rfl, ?_⟩) (by assumption) ?_
  · intro w hSw; go_simp
  simp only [List.setIfInBounds_toArray, List.set_cons_zero, List.set_cons_succ]
  refine takeD 1 29 (.pointer (some ⟨P.cb, 0, none⟩)) rfl rfl (by kernel_rfl) (by kernel_rfl) (by kernel_rfl) (fun _ _ _ h => h) (Or.inl ⟨by kernel_rfl, ?_⟩) (by assumption) ?_
  · intro w hSw; go_simp
  simp only [List.setIfInBounds_toArray, List.set_cons_zero, List.set_cons_succ]
  refine takeD 2 30 (.pointer (some ⟨P.cb, 2, none⟩)) rfl rfl (by kernel_rfl) (by kernel_rfl) (by kernel_rfl) (fun _ _ _ h => h) (Or.inl ⟨by kernel_rfl, ?_⟩) (by assumption) ?_
  · intro w hSw; go_simp
  simp only [List.setIfInBounds_toArray, List.set_cons_zero, List.set_cons_succ]
  refine takeD 3 31 (.pointer (some ⟨P.cb, 0, none⟩)) rfl rfl (by kernel_rfl) (by kernel_rfl) (by kernel_rfl) (fun _ _ _ h => h) (Or.inl ⟨by kernel_rfl, ?_⟩) (by assumption) ?_
  · intro w hSw; go_simp
  simp only [List.setIfInBounds_toArray, List.set_cons_zero, List.set_cons_succ]
  refine takeD 4 32 (.pointer (some ⟨P.cb, 0, none⟩)) rfl rfl (by kernel_rfl) (by kernel_rfl) (by kernel_rfl) (fun _ _ _ h => h) (Or.inl ⟨by kernel_rfl, ?_⟩) (by assumption) ?_
  · intro w hSw; go_simp
  simp only [List.setIfInBounds_toArray, List.set_cons_zero, List.set_cons_succ]
  refine takeD 5 33 (.pointer (some ⟨P.cb, 0, none⟩)) rfl rfl (by kernel_rfl) (by kernel_rfl) (by kernel_rfl) (fun _ _ _ h => h) (Or.inl ⟨by kernel_rfl, ?_⟩) (by assumption) ?_
  · intro w hSw; go_simp
  simp only [List.setIfInBounds_toArray, List.set_cons_zero, List.set_cons_succ]
  refine takeD 6 34 (.pointer (some ⟨P.co.nb, 0, none⟩)) rfl rfl (by kernel_rfl) (by kernel_rfl) (by kernel_rfl) (fun _ _ _ h => h) (Or.inl ⟨by kernel_rfl, ?_⟩) (by assumption) ?_
  · intro w hSw; go_simp
  simp only [List.setIfInBounds_toArray, List.set_cons_zero, List.set_cons_succ]
  refine takeD 7 35 (.pointer (some ⟨P.cb, 0, none⟩)) rfl rfl (by kernel_rfl) (by kernel_rfl) (by kernel_rfl) (fun _ _ _ h => h) (Or.inl ⟨by kernel_rfl, ?_⟩) (by assumption) ?_
  · intro w hSw; go_simp
  simp only [List.setIfInBounds_toArray, List.set_cons_zero, List.set_cons_succ]
  refine takeD 8 36 (.pointer (some ⟨P.cb, 0, none⟩)) rfl rfl (by kernel_rfl) (by kernel_rfl) (by kernel_rfl) (fun _ _ _ h => h) (Or.inl ⟨by kernel_rfl, ?_⟩) (by assumption) ?_
  · intro w hSw; go_simp
  simp only [List.setIfInBounds_toArray, List.set_cons_zero, List.set_cons_succ]
  refine takeD 9 37 (.pointer (some ⟨P.cb, 3, none⟩)) rfl rfl (by kernel_rfl) (by kernel_rfl) (by kernel_rfl) (fun _ _ _ h => h) (Or.inl ⟨by kernel_rfl, ?_⟩) (by assumption) ?_
  · intro w hSw; go_simp
  simp only [List.setIfInBounds_toArray, List.set_cons_zero, List.set_cons_succ]
  refine takeD 10 38 (.int .i64 (c.begun + 1)) rfl rfl (by kernel_rfl) (by kernel_rfl) (by kernel_rfl) (fun _ _ _ h => h) (Or.inl ⟨by kernel_rfl, ?_⟩) (by assumption) ?_
  · intro w hSw; go_simp
  simp only [List.setIfInBounds_toArray, List.set_cons_zero, List.set_cons_succ]
  refine wpAnyH_ready (rs := [11]) (by kernel_rfl) (by simp) ?_
  refine (AllReadyH.cons rfl (fun K hK => ?_) AllReadyH.nil)
  go_simp
  refine (begin_any P.co ss wait c.co (c.begun + 1) _ (HC1.out.co.only0 (by first | exact (Only.refl _ _).drew | exact (Only.refl _ _).drewN _)) hN hl (by omega) (by omega)).mono ?_
  rintro e w2 ⟨v, rfl, hO2, hC2, hs2⟩
  have hO2' : Only P.co.blocks w1 w2 := ((Only.refl _ _).drew).trans hO2
  have hcl := HC1.out.setCo hO2' (fun k hk => hk) _ hC2
  obtain ⟨s0, -, -, s3, -⟩ := hcl.cells
  have HCL : Hid _ := hcl
  have HS2 : Hid (Sent2 w1.drew.heap.size w2 v (toAll 1 (c.begun + 1) (chosen (fun x => x != 0) ss.length))) := hs2
  have HO2 : Hid (Only (P.all nv) w w2) := (HO1.out.mono (fun k hk => P.cb_all nv k (by simp only [List.mem_cons, List.not_mem_nil, or_false] at hk; simp [hk]))).trans (hO2'.mono (P.co_all nv))
  have hz : w.heap.size ≤ w2.heap.size := HO2.out.size
  clear hO2 hO2' hC2 hs2 hcl
  go_wp2_with fail
  refine hK.out _ _ ⟨s0, s3⟩ (fun hHeld => ?_)
  clear hK K
  refine wpAnyH_ready (rs := [12]) (by kernel_rfl) (by simp) ?_
  refine (AllReadyH.cons rfl (fun K hK => ?_) AllReadyH.nil)
  go_simp
  refine (clSend_any P ss wait nv _ (toAll 1 (c.begun + 1) (chosen (fun x => x != 0) ss.length)) _ v w2 HCL.out HS2.out hn (by rw [toAll_len]; exact HCH.out)).mono ?_
  rintro e w3 ⟨nv', rfl, hO3, hF3, hC3⟩
  obtain ⟨t0, -, -, t3, -⟩ := hC3.cells
  have R : Hid (Only (P.all nv) w w3 ∧ Fresh w nv nv' ∧ ClAt w3 P ss wait nv' (c.begin ss)) := ⟨HO2.out.trans (hO3.mono (P.cb_all nv)), (Fresh.refl w nv).trans hz hF3, hC3⟩
  have t3' : w3.cell? ⟨P.cb, 3, none⟩ = some (.int .i64 (c.begun + 1)) := t3
  clear hO3 hF3 hC3 t3
  go_wp2_with fail
  refine hK.out _ _ ⟨t0, t3'⟩ (fun hHeld => ?_)
  clear hK K
  refine wpAnyH_done (by kernel_rfl) ?_ _
  go_wp2_with fail
  exact bodyPost_ret (v := .tuple #[.int .i64 (c.begun + 1), .int .i64 0]) (by simp [results, Tryz.results23, go_sem]) rfl ⟨nv', rfl, R.out⟩
end Go.Proofs.YtfpojgljgbgkkaaGreatDoor

/-
  A cluster: Deliver.
-/
namespace Go.Proofs.YtfpojgljgbgkkaaGreatDoor
open Go.RowKit
open Go.ChangeMaps (setBlock)

attribute [local go_sem ↓] Go.wp_at_zero Go.wp_at_succ
attribute [local go_sem] methDownP methDownC methRecP methRecC methOutP methOutC

set_option maxRecDepth 100000 in
set_option maxHeartbeats 4000000 in
theorem deliver0_any (P : ClP) (ss : List Int) (wait : Int) (nv : Value) (c : Cl) (i : Nat) (k f t : Int) (w : World) (h : ClAt w P ss wait nv c) (hN : ss.length ≤ 100) (hp : c.net[i]? = some (k, f, 0, t)) (hn : c.net.length ≤ 100) (ht1 : 1 ≤ t) (ht2 : t ≤ 16383) (hl : c.co.text.length ≤ 900000) (hnd : c.co.V.Nodup) (hsz : (c.co.sends ss k f t).length ≤ 1000) :
    Calls Tryz.prog 24 #[.pointer (some ⟨P.cb, 0, none⟩), .int .i64 i] w fun e w' => ∃ nv', e = .returned (.int .i64 0) ∧ Only (P.all nv) w w' ∧ Fresh w nv nv' ∧ ClAt w' P ss wait nv' (({ c with net := c.net.eraseIdx i, co := c.co.gets ss k f t } : Cl).send (c.co.sends ss k f t)) := by
  have hi : i < c.net.length := (List.getElem?_eq_some_iff.1 hp).1
  have hhas := netHas_any P.cb 2 nv c.net (i : Int) w ⟨h.cells.2.2.1, h.net⟩
  have hb : (decide (0 ≤ (i : Int)) && decide ((i : Int) < (c.net.length : Int))) = true := by simp; omega
  rw [hb] at hhas
  have HHAS : Hid _ := hhas
  have HC : Hid (ClAt w P ss wait nv c) := h
  have HP : Hid (c.net[i]? = some (k, f, 0, t)) := hp
  have HSZ : Hid _ := hsz
  clear h hhas hb hp hsz
  go_enter Tryz.func24, Tryz.ntmps24
  go_wp2_with fail
  refine Calls.mono HHAS.out ?_
  rintro e w1 ⟨rfl, rfl⟩
  go_wp2_with fail
  refine (clTake_any P ss wait nv c i _ w HC.out HP.out hn).mono ?_
  rintro e w1 ⟨nv1, rfl, hO1, hF1, hC1⟩
  have hz1 := hO1.size
  have hO2 : Only [] w1 (w1.alloc (.cells #[.int .i64 k, .int .i64 f, .int .i64 0, .int .i64 t] 64)) := (Only.refl _ _).alloc _
  have hbk : (w1.alloc (.cells #[.int .i64 k, .int .i64 f, .int .i64 0, .int .i64 t] 64)).heap[w1.heap.size]? = some (.cells #[.int .i64 k, .int .i64 f, .int .i64 0, .int .i64 t] 64 (0, 0)) := heap_alloc_new w1 _
  have HO1 : Hid (Only (P.all nv) w w1) := hO1.mono (P.cb_all nv)
  have HF1 : Hid (Fresh w nv nv1) := hF1
  have HNV : Hid (∀ g, nv1.ownBlock = some g → g < w1.heap.size) := fun g hg => (ownsRow_head hC1.net hg).lt
  have HCB : Hid (∀ k ∈ P.blocks, k < w1.heap.size) := hC1.low
  have HC2 : Hid _ := hC1.only0 hO2
  have HO2 : Hid _ := hO2
  have HBK : Hid _ := hbk
  clear hO1 hF1 hC1 hO2 hbk
  go_wp2_with fail
  generalize (w1.alloc (.cells #[.int .i64 k, .int .i64 f, .int .i64 0, .int .i64 t] 64)) = w2 at *
  refine (node0_any P ss wait nv1 _ _ HC2.out).mono ?_
  rintro e w3 ⟨rfl, rfl⟩
  go_wp2_with fail
  refine (isDown_any P.co.nb false _ HC2.out.co.down).mono ?_
  rintro e w3 ⟨rfl, rfl⟩
  go_wp2_with fail
  have m0 : w2.cell? ⟨w1.heap.size, 0, none⟩ = some (.int .i64 k) := by rw [cell_of_row _ _ _ _ _ _ HBK.out]; rfl
  have m1 : w2.cell? ⟨w1.heap.size, 1, none⟩ = some (.int .i64 f) := by rw [cell_of_row _ _ _ _ _ _ HBK.out]; rfl
  have m2 : w2.cell? ⟨w1.heap.size, 2, none⟩ = some (.int .i64 0) := by rw [cell_of_row _ _ _ _ _ _ HBK.out]; rfl
  have m3 : w2.cell? ⟨w1.heap.size, 3, none⟩ = some (.int .i64 t) := by rw [cell_of_row _ _ _ _ _ _ HBK.out]; rfl
  refine wp_region_held_drew (S := fun w' => w'.cell? ⟨w1.heap.size, 0, none⟩ = some (.int .i64 k) ∧ w'.cell? ⟨w1.heap.size, 1, none⟩ = some (.int .i64 f) ∧ w'.cell? ⟨w1.heap.size, 2, none⟩ = some (.int .i64 0) ∧ w'.cell? ⟨w1.heap.size, 3, none⟩ = some (.int .i64 t)) (by kernel_rfl) ⟨m0, m1, m2, m3⟩ (fun hHeld => ?_)
  refine takeD 0 29 (.pointer (some ⟨P.cb, 0, none⟩)) rfl rfl (by kernel_rfl) (by kernel_rfl) (by kernel_rfl) (fun _ _ _ h => h) (Or.inl ⟨by kernel_rfl, ?_⟩) (by assumption) ?_
  · intro w hSw; go_simp
  simp only [List.setIfInBounds_toArray, List.set_cons_zero, List.set_cons_succ]
  refine takeD 1 30 (.pointer (some ⟨P.cb, 0, none⟩)) rfl rfl (by kernel_rfl) (by kernel_rfl) (by kernel_rfl) (fun _ _ _ h => h) (Or.inl ⟨by kernel_rfl, ?_⟩) (by assumption) ?_
  · intro w hSw; go_simp
  simp only [List.setIfInBounds_toArray, List.set_cons_zero, List.set_cons_succ]
  refine takeD 2 31 (.pointer (some ⟨P.cb, 2, none⟩)) rfl rfl (by kernel_rfl) (by kernel_rfl) (by kernel_rfl) (fun _ _ _ h => h) (Or.inl ⟨by kernel_rfl, ?_⟩) (by assumption) ?_
  · intro w hSw; go_simp
  simp only [List.setIfInBounds_toArray, List.set_cons_zero, List.set_cons_succ]
  refine takeD 3 32 (.iface 83 (.pointer (some ⟨P.co.nb, 0, none⟩))) rfl rfl (by kernel_rfl) (by kernel_rfl) (by kernel_rfl) (fun _ _ _ h => h) (Or.inl ⟨by kernel_rfl, ?_⟩) (by assumption) ?_
  · intro w hSw; go_simp
  simp only [List.setIfInBounds_toArray, List.set_cons_zero, List.set_cons_succ]
  refine takeD 4 33 (.agg #[.int .i64 k, .int .i64 f, .int .i64 0, .int .i64 t]) rfl rfl (by kernel_rfl) (by kernel_rfl) (by kernel_rfl) (fun _ _ _ h => h) (Or.inl ⟨by kernel_rfl, ?_⟩) (by assumption) ?_
  · intro w hSw; go_simp
  simp only [List.setIfInBounds_toArray, List.set_cons_zero, List.set_cons_succ]
  refine wpAnyH_ready (rs := [5]) (by kernel_rfl) (by simp) ?_
  refine (AllReadyH.cons rfl (fun K hK => ?_) AllReadyH.nil)
  go_simp
  refine (coReceive_any P.co ss wait c.co k f 0 t _ (HC2.out.co.only0 (by first | exact (Only.refl _ _).drew | exact (Only.refl _ _).drewN _)) hN hl hnd ht1 ht2).mono ?_
  rintro e w3 ⟨xv, rfl, hO3, hC3, hs3⟩
  have hO3' : Only P.co.blocks w2 w3 := ((Only.refl _ _).drew).trans hO3
  have hcl := HC2.out.setCo hO3' (fun k hk => hk) _ hC3
  have hmine : ∀ x ∈ P.co.blocks, x ∈ P.all nv1 := P.co_all nv1
  have hnot : w1.heap.size ∉ P.co.blocks := fun hk => absurd (HCB.out _ (ClP.mem_blocks.2 (.inl (ClP.co_fixed hk)))) (Nat.lt_irrefl _)
  have hbk3 := hO3'.at HBK.out hnot
  have s0 : w3.cell? ⟨w1.heap.size, 0, none⟩ = some (.int .i64 k) := by rw [cell_of_row _ _ _ _ _ _ hbk3]; rfl
  have s1 : w3.cell? ⟨w1.heap.size, 1, none⟩ = some (.int .i64 f) := by rw [cell_of_row _ _ _ _ _ _ hbk3]; rfl
  have s2 : w3.cell? ⟨w1.heap.size, 2, none⟩ = some (.int .i64 0) := by rw [cell_of_row _ _ _ _ _ _ hbk3]; rfl
  have s3 : w3.cell? ⟨w1.heap.size, 3, none⟩ = some (.int .i64 t) := by rw [cell_of_row _ _ _ _ _ _ hbk3]; rfl
  have HBK3 : Hid _ := hbk3
  have HCL : Hid _ := hcl
  have HS3 : Hid (Sent2 w2.drew.heap.size w3 xv (c.co.sends ss k f t)) := hs3
  have HO3 : Hid (Only (P.all nv) w w3) := all_fresh HO1.out HF1.out ((HO2.out.mono (by simp)).trans (hO3'.mono hmine))
  have hz : w.heap.size ≤ w3.heap.size := HO3.out.size
  have hz13 : w1.heap.size < w3.heap.size := block_lt hbk3
  clear hO3 hO3' hC3 hs3 hcl hbk3 m0 m1 m2 m3
  go_wp2_with fail
  refine hK.out _ _ ⟨s0, s1, s2, s3⟩ (fun hHeld => ?_)
  clear hK K
  refine wpAnyH_ready (rs := [6]) (by kernel_rfl) (by simp) ?_
  refine (AllReadyH.cons rfl (fun K hK => ?_) AllReadyH.nil)
  go_simp
  have hlen : (c.net.eraseIdx i).length ≤ 100 := by rw [List.length_eraseIdx]; split <;> omega
  refine (clSend_any P ss wait nv1 _ (c.co.sends ss k f t) _ xv w3 HCL.out HS3.out hlen HSZ.out).mono ?_
  rintro e w4 ⟨nv', rfl, hO4, hF4, hC4⟩
  have hne : w1.heap.size ∉ P.cb :: nv1.ownBlock.toList := by
    intro hk
    simp only [List.mem_cons, Option.mem_toList] at hk
    rcases hk with hk | hk
    · exact absurd (HCB.out P.cb (by simp [ClP.blocks, ClP.fixed])) (by omega)
    · exact absurd (HNV.out _ hk) (Nat.lt_irrefl _)
  have hbk4 := hO4.at HBK3.out hne
  have s0 : w4.cell? ⟨w1.heap.size, 0, none⟩ = some (.int .i64 k) := by rw [cell_of_row _ _ _ _ _ _ hbk4]; rfl
  have s1 : w4.cell? ⟨w1.heap.size, 1, none⟩ = some (.int .i64 f) := by rw [cell_of_row _ _ _ _ _ _ hbk4]; rfl
  have s2 : w4.cell? ⟨w1.heap.size, 2, none⟩ = some (.int .i64 0) := by rw [cell_of_row _ _ _ _ _ _ hbk4]; rfl
  have s3 : w4.cell? ⟨w1.heap.size, 3, none⟩ = some (.int .i64 t) := by rw [cell_of_row _ _ _ _ _ _ hbk4]; rfl
  have R : Hid (Only (P.all nv) w w4 ∧ Fresh w nv nv' ∧ ClAt w4 P ss wait nv' (({ c with net := c.net.eraseIdx i, co := c.co.gets ss k f t } : Cl).send (c.co.sends ss k f t))) := ⟨all_fresh HO3.out HF1.out (hO4.mono (P.cb_all nv1)), HF1.out.trans hz hF4, hC4⟩
  clear hO4 hF4 hC4 hbk4 hne
  go_wp2_with fail
  refine hK.out _ _ ⟨s0, s1, s2, s3⟩ (fun hHeld => ?_)
  clear hK K
  refine wpAnyH_done (by kernel_rfl) ?_ _
  go_wp2_with fail
  go_ret
  exact ⟨nv', rfl, R.out⟩

set_option maxRecDepth 100000 in
set_option maxHeartbeats 4000000 in
theorem deliverS_any (P : ClP) (ss : List Int) (wait : Int) (nv : Value) (c : Cl) (i : Nat) (k f t : Int) (j : Nat) (w : World) (h : ClAt w P ss wait nv c) (hN : ss.length ≤ 100) (hp : c.net[i]? = some (k, f, ((j : Int) + 1), t)) (hn : c.net.length ≤ 100) (ht1 : 1 ≤ t) (ht2 : t ≤ 16383) (hj : j < ss.length) (v : PV) (s : Int) (hv : c.ps[j]? = some v) (hs : ss[j]? = some s) (hl : v.p.text.length ≤ 1000000) (hsz : ((v.p.gets ((j : Int) + 1) s v.V k t).sends ((j : Int) + 1) s k t).length ≤ 1000) :
    Calls Tryz.prog 24 #[.pointer (some ⟨P.cb, 0, none⟩), .int .i64 i] w fun e w' => ∃ nv', e = .returned (.int .i64 0) ∧ Only (P.all nv) w w' ∧ Fresh w nv nv' ∧ ClAt w' P ss wait nv' (({ c with net := c.net.eraseIdx i, ps := c.ps.set j ⟨v.p.gets ((j : Int) + 1) s v.V k t, v.V⟩ } : Cl).send ((v.p.gets ((j : Int) + 1) s v.V k t).sends ((j : Int) + 1) s k t)) := by
  have hi : i < c.net.length := (List.getElem?_eq_some_iff.1 hp).1
  have hhas := netHas_any P.cb 2 nv c.net (i : Int) w ⟨h.cells.2.2.1, h.net⟩
  have hb : (decide (0 ≤ (i : Int)) && decide ((i : Int) < (c.net.length : Int))) = true := by simp; omega
  rw [hb] at hhas
  have HHAS : Hid _ := hhas
  have HC : Hid (ClAt w P ss wait nv c) := h
  have HP : Hid (c.net[i]? = some (k, f, ((j : Int) + 1), t)) := hp
  have HV : Hid (c.ps[j]? = some v ∧ ss[j]? = some s) := ⟨hv, hs⟩
  obtain ⟨q, _, _, hq, -, -, -⟩ := h.one hj
  have HQ : Hid (P.pp[j]? = some q) := hq
  clear hv hs hq
  have HSZ : Hid _ := hsz
  clear h hhas hb hp hsz
  go_enter Tryz.func24, Tryz.ntmps24
  go_wp2_with fail
  refine Calls.mono HHAS.out ?_
  rintro e w1 ⟨rfl, rfl⟩
  go_wp2_with fail
  refine (clTake_any P ss wait nv c i _ w HC.out HP.out hn).mono ?_
  rintro e w1 ⟨nv1, rfl, hO1, hF1, hC1⟩
  have hz1 := hO1.size
  have hO2 : Only [] w1 (w1.alloc (.cells #[.int .i64 k, .int .i64 f, .int .i64 ((j : Int) + 1), .int .i64 t] 64)) := (Only.refl _ _).alloc _
  have hbk : (w1.alloc (.cells #[.int .i64 k, .int .i64 f, .int .i64 ((j : Int) + 1), .int .i64 t] 64)).heap[w1.heap.size]? = some (.cells #[.int .i64 k, .int .i64 f, .int .i64 ((j : Int) + 1), .int .i64 t] 64 (0, 0)) := heap_alloc_new w1 _
  have HO1 : Hid (Only (P.all nv) w w1) := hO1.mono (P.cb_all nv)
  have HF1 : Hid (Fresh w nv nv1) := hF1
  have HNV : Hid (∀ g, nv1.ownBlock = some g → g < w1.heap.size) := fun g hg => (ownsRow_head hC1.net hg).lt
  have HCB : Hid (∀ k ∈ P.blocks, k < w1.heap.size) := hC1.low
  have HC2 : Hid _ := hC1.only0 hO2
  have HO2 : Hid _ := hO2
  have HBK : Hid _ := hbk
  clear hO1 hF1 hC1 hO2 hbk
  go_wp2_with fail
  generalize (w1.alloc (.cells #[.int .i64 k, .int .i64 f, .int .i64 ((j : Int) + 1), .int .i64 t] 64)) = w2 at *
  refine (nodeS_any P ss wait nv1 _ j q _ HC2.out HQ.out hN).mono ?_
  rintro e w3 ⟨rfl, rfl⟩
  go_wp2_with fail
  refine (isDown_any q.nb false _ (HC2.out.parts j q v s HQ.out HV.out.1 HV.out.2).down).mono ?_
  rintro e w3 ⟨rfl, rfl⟩
  go_wp2_with fail
  have m0 : w2.cell? ⟨w1.heap.size, 0, none⟩ = some (.int .i64 k) := by rw [cell_of_row _ _ _ _ _ _ HBK.out]; rfl
  have m1 : w2.cell? ⟨w1.heap.size, 1, none⟩ = some (.int .i64 f) := by rw [cell_of_row _ _ _ _ _ _ HBK.out]; rfl
  have m2 : w2.cell? ⟨w1.heap.size, 2, none⟩ = some (.int .i64 ((j : Int) + 1)) := by rw [cell_of_row _ _ _ _ _ _ HBK.out]; rfl
  have m3 : w2.cell? ⟨w1.heap.size, 3, none⟩ = some (.int .i64 t) := by rw [cell_of_row _ _ _ _ _ _ HBK.out]; rfl
  refine wp_region_held_drew (S := fun w' => w'.cell? ⟨w1.heap.size, 0, none⟩ = some (.int .i64 k) ∧ w'.cell? ⟨w1.heap.size, 1, none⟩ = some (.int .i64 f) ∧ w'.cell? ⟨w1.heap.size, 2, none⟩ = some (.int .i64 ((j : Int) + 1)) ∧ w'.cell? ⟨w1.heap.size, 3, none⟩ = some (.int .i64 t)) (by kernel_rfl) ⟨m0, m1, m2, m3⟩ (fun hHeld => ?_)
  refine takeD 0 29 (.pointer (some ⟨P.cb, 0, none⟩)) rfl rfl (by kernel_rfl) (by kernel_rfl) (by kernel_rfl) (fun _ _ _ h => h) (Or.inl ⟨by kernel_rfl, ?_⟩) (by assumption) ?_
  · intro w hSw; go_simp
  simp only [List.setIfInBounds_toArray, List.set_cons_zero, List.set_cons_succ]
  refine takeD 1 30 (.pointer (some ⟨P.cb, 0, none⟩)) rfl rfl (by kernel_rfl) (by kernel_rfl) (by kernel_rfl) (fun _ _ _ h => h) (Or.inl ⟨by kernel_rfl, ?_⟩) (by assumption) ?_
  · intro w hSw; go_simp
  simp only [List.setIfInBounds_toArray, List.set_cons_zero, List.set_cons_succ]
  refine takeD 2 31 (.pointer (some ⟨P.cb, 2, none⟩)) rfl rfl (by kernel_rfl) (by kernel_rfl) (by kernel_rfl) (fun _ _ _ h => h) (Or.inl ⟨by kernel_rfl, ?_⟩) (by assumption) ?_
  · intro w hSw; go_simp
  simp only [List.setIfInBounds_toArray, List.set_cons_zero, List.set_cons_succ]
  refine takeD 3 32 (.iface 82 (.pointer (some ⟨q.nb, 0, none⟩))) rfl rfl (by kernel_rfl) (by kernel_rfl) (by kernel_rfl) (fun _ _ _ h => h) (Or.inl ⟨by kernel_rfl, ?_⟩) (by assumption) ?_
  · intro w hSw; go_simp
  simp only [List.setIfInBounds_toArray, List.set_cons_zero, List.set_cons_succ]
  refine takeD 4 33 (.agg #[.int .i64 k, .int .i64 f, .int .i64 ((j : Int) + 1), .int .i64 t]) rfl rfl (by kernel_rfl) (by kernel_rfl) (by kernel_rfl) (fun _ _ _ h => h) (Or.inl ⟨by kernel_rfl, ?_⟩) (by assumption) ?_
  · intro w hSw; go_simp
  simp only [List.setIfInBounds_toArray, List.set_cons_zero, List.set_cons_succ]
  refine wpAnyH_ready (rs := [5]) (by kernel_rfl) (by simp) ?_
  refine (AllReadyH.cons rfl (fun K hK => ?_) AllReadyH.nil)
  go_simp
  refine (partReceive_any q.nb ((j : Int) + 1) v.p.text v.p.safe q.kn v.p.L s q.vt v.V k f ((j : Int) + 1) t _ ((HC2.out.parts j q v s HQ.out HV.out.1 HV.out.2).only (S := []) (by first | exact (Only.refl _ _).drew | exact (Only.refl _ _).drewN _) (by simp) (by simp) (by simp)) hl ht1 ht2).mono ?_
  rintro e w3 ⟨xv, rfl, hO3, hC3, hs3⟩
  have hO3' : Only [q.nb, q.kn] w2 w3 := ((Only.refl _ _).drew).trans hO3
  have hsub : ∀ x ∈ [q.nb, q.kn], x ∈ q.blocks := by intro x hx; simp only [List.mem_cons, List.not_mem_nil, or_false] at hx; rcases hx with rfl | rfl <;> simp [PP.blocks]
  have hcl := HC2.out.setPart HQ.out HV.out.2 hO3' hsub ⟨v.p.gets ((j : Int) + 1) s v.V k t, v.V⟩ hC3
  have hmine : ∀ x ∈ [q.nb, q.kn], x ∈ P.all nv1 := fun x hx => P.part_all nv1 (List.mem_of_getElem? HQ.out) x (hsub x hx)
  have hnot : w1.heap.size ∉ [q.nb, q.kn] := fun hk => absurd (HCB.out _ (ClP.mem_blocks.2 (.inr ⟨q, List.mem_of_getElem? HQ.out, hsub _ hk⟩))) (Nat.lt_irrefl _)
  have hbk3 := hO3'.at HBK.out hnot
  have s0 : w3.cell? ⟨w1.heap.size, 0, none⟩ = some (.int .i64 k) := by rw [cell_of_row _ _ _ _ _ _ hbk3]; rfl
  have s1 : w3.cell? ⟨w1.heap.size, 1, none⟩ = some (.int .i64 f) := by rw [cell_of_row _ _ _ _ _ _ hbk3]; rfl
  have s2 : w3.cell? ⟨w1.heap.size, 2, none⟩ = some (.int .i64 ((j : Int) + 1)) := by rw [cell_of_row _ _ _ _ _ _ hbk3]; rfl
  have s3 : w3.cell? ⟨w1.heap.size, 3, none⟩ = some (.int .i64 t) := by rw [cell_of_row _ _ _ _ _ _ hbk3]; rfl
  have HBK3 : Hid _ := hbk3
  have HCL : Hid _ := hcl
  have HS3 : Hid (Sent2 w2.drew.heap.size w3 xv ((v.p.gets ((j : Int) + 1) s v.V k t).sends ((j : Int) + 1) s k t)) := hs3
  have HO3 : Hid (Only (P.all nv) w w3) := all_fresh HO1.out HF1.out ((HO2.out.mono (by simp)).trans (hO3'.mono hmine))
  have hz : w.heap.size ≤ w3.heap.size := HO3.out.size
  have hz13 : w1.heap.size < w3.heap.size := block_lt hbk3
  clear hO3 hO3' hC3 hs3 hcl hbk3 m0 m1 m2 m3
  go_wp2_with fail
  refine hK.out _ _ ⟨s0, s1, s2, s3⟩ (fun hHeld => ?_)
  clear hK K
  refine wpAnyH_ready (rs := [6]) (by kernel_rfl) (by simp) ?_
  refine (AllReadyH.cons rfl (fun K hK => ?_) AllReadyH.nil)
  go_simp
  have hlen : (c.net.eraseIdx i).length ≤ 100 := by rw [List.length_eraseIdx]; split <;> omega
  refine (clSend_any P ss wait nv1 _ ((v.p.gets ((j : Int) + 1) s v.V k t).sends ((j : Int) + 1) s k t) _ xv w3 HCL.out HS3.out hlen HSZ.out).mono ?_
  rintro e w4 ⟨nv', rfl, hO4, hF4, hC4⟩
  have hne : w1.heap.size ∉ P.cb :: nv1.ownBlock.toList := by
    intro hk
    simp only [List.mem_cons, Option.mem_toList] at hk
    rcases hk with hk | hk
    · exact absurd (HCB.out P.cb (by simp [ClP.blocks, ClP.fixed])) (by omega)
    · exact absurd (HNV.out _ hk) (Nat.lt_irrefl _)
  have hbk4 := hO4.at HBK3.out hne
  have s0 : w4.cell? ⟨w1.heap.size, 0, none⟩ = some (.int .i64 k) := by rw [cell_of_row _ _ _ _ _ _ hbk4]; rfl
  have s1 : w4.cell? ⟨w1.heap.size, 1, none⟩ = some (.int .i64 f) := by rw [cell_of_row _ _ _ _ _ _ hbk4]; rfl
  have s2 : w4.cell? ⟨w1.heap.size, 2, none⟩ = some (.int .i64 ((j : Int) + 1)) := by rw [cell_of_row _ _ _ _ _ _ hbk4]; rfl
  have s3 : w4.cell? ⟨w1.heap.size, 3, none⟩ = some (.int .i64 t) := by rw [cell_of_row _ _ _ _ _ _ hbk4]; rfl
  have R : Hid (Only (P.all nv) w w4 ∧ Fresh w nv nv' ∧ ClAt w4 P ss wait nv' (({ c with net := c.net.eraseIdx i, ps := c.ps.set j ⟨v.p.gets ((j : Int) + 1) s v.V k t, v.V⟩ } : Cl).send ((v.p.gets ((j : Int) + 1) s v.V k t).sends ((j : Int) + 1) s k t))) := ⟨all_fresh HO3.out HF1.out (hO4.mono (P.cb_all nv1)), HF1.out.trans hz hF4, hC4⟩
  clear hO4 hF4 hC4 hbk4 hne
  go_wp2_with fail
  refine hK.out _ _ ⟨s0, s1, s2, s3⟩ (fun hHeld => ?_)
  clear hK K
  refine wpAnyH_done (by kernel_rfl) ?_ _
  go_wp2_with fail
  go_ret
  exact ⟨nv', rfl, R.out⟩
end Go.Proofs.YtfpojgljgbgkkaaGreatDoor
