import Derived.Test.YtfpojgljgbgkkaaGreatDoorPJ
import Derived.Test.YtfpojgljgbgkkaaGreatDoorPC
import Derived.Test.YtfpojgljgbgkkaaGreatDoorPB
/-
  A new cluster.
-/
namespace Go.Proofs.YtfpojgljgbgkkaaGreatDoor
open Go.RowKit
open Go.ChangeMaps (setBlock)

attribute [local go_sem ↓] Go.wp_at_zero Go.wp_at_succ

def wrongB (x : Int) : Bool := decide (x < 0) || decide (x > 2)
set_option maxRecDepth 100000 in
set_option maxHeartbeats 1000000 in
theorem wrong_any (x : Int) (w : World) :
    Calls Tryz.prog 87 #[.int .i64 x] w fun e w' => e = .returned (.bool (wrongB x)) ∧ w = w' := by
  by_cases h0 : x < 0
  · have hd : decide (x < 0) = true := by simpa using h0
    go_enter Tryz.func87, Tryz.ntmps87
    go_wp2_with fail
    go_ret
    simp [wrongB, h0]
  · have hd : decide (x < 0) = false := by simpa using h0
    go_enter Tryz.func87, Tryz.ntmps87
    go_wp2_with fail
    go_ret
    simp [wrongB]; omega

set_option maxRecDepth 100000 in
set_option maxHeartbeats 2000000 in
theorem indexFunc_any (sb scap : Nat) (ss : List Int) (w : World) (hS : Head w sb 3 (intsV ss)) (hN : ss.length ≤ 100) (hok : ∀ x ∈ ss, wrongB x = false) :
    Calls Tryz.prog 131 #[.slice (some ⟨sb, 0, none⟩) ss.length scap, .func (.func 87) #[] #[]] w fun e w' => e = .returned (.int .i64 (-1)) ∧ Only [] w w' := by
  have cint := cellsInt2
  have HOK : Hid (∀ x ∈ ss, wrongB x = false) := hok
  clear hok
  go_enter Tryz.func131, Tryz.ntmps131
  go_wp2
  go_loopw [8] (fun i wr => ∃ j : Nat, j ≤ ss.length ∧ i = .int .i64 j ∧ Only [] w wr) (fun i _ => ss.length - (intOf i).toNat)
  case atStart => exact ⟨0, by omega, rfl, Only.refl _ _⟩
  case round =>
    obtain ⟨j, hj, rfl, hO⟩ := hrel
    by_cases hlt : j < ss.length
    · have hc : wr.cell? ⟨sb, j, none⟩ = some (.int .i64 ss[j]) := by
        rw [(hS.only hO (by simp)).cell j (by simp [intsV]; exact hlt)]; simp [intsV, hlt]
      have hix0 : (0 : Int) ≤ (j : Int) := by omega
      have hix1 : (j : Int) < (ss.length : Int) := by omega
      have hw := HOK.out _ (List.getElem_mem hlt)
      generalize ss[j] = x at *
      go_wp2_with fail
      refine (wrong_any x wr).mono ?_
      rintro e w2 ⟨rfl, rfl⟩
      rw [hw]
      go_wp2_with fail
      go_roundw
      case rel => exact ⟨j + 1, by omega, by go_num, hO⟩
      case measure => simp [intOf]; omega
    · obtain rfl : j = ss.length := by omega
      go_wp2_with fail
      go_ret
      exact ⟨rfl, hO⟩

set_option maxRecDepth 100000 in
set_option maxHeartbeats 2000000 in
theorem containsFunc_any (sb scap : Nat) (ss : List Int) (w : World) (hS : Head w sb 3 (intsV ss)) (hN : ss.length ≤ 100) (hok : ∀ x ∈ ss, wrongB x = false) :
    Calls Tryz.prog 88 #[.slice (some ⟨sb, 0, none⟩) ss.length scap, .func (.func 87) #[] #[]] w fun e w' => e = .returned (.bool false) ∧ Only [] w w' := by
  go_enter Tryz.func88, Tryz.ntmps88
  go_wp2_with fail
  refine (indexFunc_any sb scap ss w hS hN hok).mono ?_
  rintro e w2 ⟨rfl, hO⟩
  clear hS hok
  go_wp2_with fail
  go_ret
  exact ⟨rfl, hO⟩

set_option maxRecDepth 100000 in
set_option maxHeartbeats 2000000 in
theorem mayBe_any (sb scap : Nat) (ss : List Int) (wait : Int) (w : World) (hS : Head w sb 3 (intsV ss)) (h1 : 1 ≤ ss.length) (h6 : ss.length ≤ 6) (hok : ∀ x ∈ ss, wrongB x = false) (hw1 : 1 ≤ wait) (hw2 : wait ≤ 20) :
    Calls Tryz.prog 44 #[.agg #[.slice (some ⟨sb, 0, none⟩) ss.length scap, .int .i64 wait]] w fun e w' => e = .returned (.bool true) ∧ Only [] w w' := by
  have HS : Hid (Head w sb 3 (intsV ss)) := hS
  have HOK : Hid (∀ x ∈ ss, wrongB x = false) := hok
  have d1 : decide ((ss.length : Int) ≥ 1) = true := by simp; omega
  have d2 : decide ((ss.length : Int) ≤ 6) = true := by simp; omega
  have d3 : decide (wait ≥ 1) = true := by simpa using hw1
  have d4 : decide (wait ≤ 20) = true := by simpa using hw2
  have hO1 : Only [] w (w.alloc (.cells #[.slice (some ⟨sb, 0, none⟩) ss.length scap, .int .i64 wait] 58)) := (Only.refl _ _).alloc _
  have bk : (w.alloc (.cells #[.slice (some ⟨sb, 0, none⟩) ss.length scap, .int .i64 wait] 58)).heap[w.heap.size]? = some (.cells #[.slice (some ⟨sb, 0, none⟩) ss.length scap, .int .i64 wait] 58 (0, 0)) := heap_alloc_new w _
  have HO1 : Hid _ := hO1
  have BK : Hid _ := bk
  clear hS hok hO1 bk hw1 hw2
  go_enter Tryz.func44, Tryz.ntmps44
  go_wp2_with fail
  refine (containsFunc_any sb scap ss _ (HS.out.only HO1.out (by simp)) (by omega) HOK.out).mono ?_
  rintro e w2 ⟨rfl, hO2⟩
  have hb2 := hO2.at BK.out (by simp)
  have e0 : w2.cell? ⟨w.heap.size, 0, none⟩ = some (.slice (some ⟨sb, 0, none⟩) ss.length scap) := by rw [cell_of_row _ _ _ _ _ _ hb2]; rfl
  have e1 : w2.cell? ⟨w.heap.size, 1, none⟩ = some (.int .i64 wait) := by rw [cell_of_row _ _ _ _ _ _ hb2]; rfl
  have HO2 : Hid (Only [] w w2) := HO1.out.trans hO2
  clear hO2 hb2
  go_wp2_with fail
  go_ret
  exact ⟨rfl, HO2.out⟩

/-- A cluster that is being made: so many participants stand. -/
structure Mk (w0 w : World) (cb : Nat) (co : CoP) (ss : List Int) (wait : Int) (v : Value) (pp : List PP) : Prop where
  row : w.heap[cb]? = some (.cells #[.pointer (some ⟨co.nb, 0, none⟩), v, .slice none 0 0, .int .i64 0] 89 (0, 0))
  cor : CoAt w co ss wait ⟨[], 0, [], [], [], []⟩
  own : w.ownsRow w0.heap.size 82 1 v pp.length (ptrsV pp)
  parts : ∀ (i : Nat) (q : PP) (s : Int), pp[i]? = some q → ss[i]? = some s → PartAt w q.nb ((i : Int) + 1) [] 0 q.kn [] s q.vt []
  fixed : (cb :: co.sb :: co.blocks).Nodup
  apart : ∀ (i j : Nat) (q r : PP), pp[i]? = some q → pp[j]? = some r → i ≠ j → ∀ k ∈ q.blocks, k ∉ r.blocks
  cross : ∀ q ∈ pp, ∀ k ∈ q.blocks, k ∉ cb :: co.sb :: co.blocks
  mine : ∀ g, v.ownBlock = some g → g ∉ cb :: co.sb :: co.blocks ∧ ∀ q ∈ pp, g ∉ q.blocks
  new : (∀ k ∈ cb :: co.sb :: co.blocks, w0.heap.size ≤ k ∧ k < w.heap.size) ∧ ∀ q ∈ pp, ∀ k ∈ q.blocks, w0.heap.size ≤ k ∧ k < w.heap.size
  only : Only [] w0 w
theorem infoPart : (Tryz.prog.info? 82).map (fun i => (i.zero, i.size, i.bytes)) = some (some (.pointer none), 1, 8) := by kernel_rfl
theorem cellsPart : Tryz.prog.cellsOf 82 = 1 := by kernel_rfl
/-- One more participant: where it lies, and the row grown by it. -/
theorem Mk.more {w0 w w1 : World} {cb : Nat} {co : CoP} {ss : List Int} {wait : Int} {v : Value} {pp : List PP} (h : Mk w0 w cb co ss wait v pp) {nb kn vt : Nat} {s : Int} (hz : w.heap.size ≤ nb ∧ w.heap.size ≤ kn ∧ w.heap.size ≤ vt) (ho : Only [] w w1) (hs : ss[pp.length]? = some s) (hP : PartAt w1 nb ((pp.length : Int) + 1) [] 0 kn [] s vt []) (hN : pp.length ≤ 100) (ty : TypeId) :
    ∃ q' c' w', (Builtin.append_ #[84, 84] ty #[v, .slice (some ⟨w1.heap.size, 0, none⟩) 1 1]).run Tryz.prog (w1.alloc (.cells #[.pointer (some ⟨nb, 0, none⟩)] 82)) = .ok (.slice q' (pp.length + 1) c') w' ∧ w'.heap[cb]? = some (.cells #[.pointer (some ⟨co.nb, 0, none⟩), v, .slice none 0 0, .int .i64 0] 89 (0, 0)) ∧ Mk w0 (w'.setCell ⟨cb, 1, none⟩ (.slice q' (pp.length + 1) c')) cb co ss wait (.slice q' (pp.length + 1) c') (pp ++ [⟨nb, kn, vt⟩]) := by
  obtain ⟨i0, hi, hz0, hz1, hz2⟩ := info_parts infoPart
  have hO1 : Only [] w (w1.alloc (.cells #[.pointer (some ⟨nb, 0, none⟩)] 82)) := ho.alloc _
  have hbk : (w1.alloc (.cells #[.pointer (some ⟨nb, 0, none⟩)] 82)).heap[w1.heap.size]? = some (.cells #[.pointer (some ⟨nb, 0, none⟩)] 82 (0, 0)) := heap_alloc_new w1 _
  have hP2 : PartAt (w1.alloc (.cells #[.pointer (some ⟨nb, 0, none⟩)] 82)) nb ((pp.length : Int) + 1) [] 0 kn [] s vt [] := hP.only (S := []) ((Only.refl _ _).alloc _) (by simp) (by simp) (by simp)
  have hz12 : w1.heap.size < (w1.alloc (.cells #[.pointer (some ⟨nb, 0, none⟩)] 82)).heap.size := by simp
  generalize (w1.alloc (.cells #[.pointer (some ⟨nb, 0, none⟩)] 82)) = w2 at *
  have hown2 := ownsRow_block h.own hO1 (by simp)
  have hnews : ∀ (j : Nat) u, ([.pointer (some ⟨nb, 0, none⟩)] : List Value)[j]? = some u → w2.cell? ((⟨w1.heap.size, 0, none⟩ : Addr).add j) = some u := by
    intro j u hj
    match j, hj with
    | 0, hj =>
      simp at hj; subst hj
      rw [add0, cell_of_row _ _ _ _ _ _ hbk]; rfl
    | j + 1, hj => simp at hj
  obtain ⟨v', w', hr, h2, h3, _, h5⟩ := run_append_own_at (P := Tryz.prog) w2 w0.heap.size 84 ty 82 i0 _ 1 8 Tryz.underlying84 hi hz0 hz1 hz2 rfl (by decide) v pp.length (ptrsV pp) hown2 ⟨w1.heap.size, 0, none⟩ 1 1 [.pointer (some ⟨nb, 0, none⟩)] rfl hnews (fun u hu => by simp at hu; rw [hu]; rfl) (by unfold maxLen; omega) (by omega) (by have := h.only.size; have := hO1.size; omega)
  have hvb : ∀ g, v.ownBlock = some g → g < w.heap.size := fun g hg => (ownsRow_head h.own hg).lt
  have hzz := hO1.size
  have hO2 : Only v.ownBlock.toList w w' := (hO1.mono (by simp)).grown h3 (fun k hk => .inl (by simp [hk]))
  have hO3 : Only v.ownBlock.toList w2 w' := (Only.refl _ _).grown h3 (fun k hk => .inl (by simp [hk]))
  have hcb : cb ∉ v.ownBlock.toList := fun hm => (h.mine cb (by simpa using hm)).1 (by simp)
  have hrow' := hO2.at h.row hcb
  obtain ⟨q', c', hvf⟩ : ∃ q' c', v' = .slice q' (pp.length + 1) c' := by
    rcases h2.2 with ⟨rfl, h1⟩ | ⟨g, cap, cur, rfl, _⟩
    · omega
    · exact ⟨_, _, rfl⟩
  refine ⟨q', c', w', hvf ▸ hr, hrow', ?_⟩
  rw [← hvf]
  have hO4 : Only [cb] w' (w'.setCell ⟨cb, 1, none⟩ v') := (Only.refl _ _).setCell (.inl (by simp)) _
  have hcbl := h.new.1 cb (by simp)
  have hsz : (w'.setCell ⟨cb, 1, none⟩ v').heap.size = w'.heap.size := by simp
  have hz' := hO2.size
  have hz2' := hO3.size
  have hout : ∀ k, (k ∈ co.sb :: co.blocks ∨ ∃ q ∈ pp, k ∈ q.blocks) → k ∉ v.ownBlock.toList := by
    intro k hk hm
    have := h.mine k (by simpa using hm)
    rcases hk with hk | ⟨q, hq, hk⟩
    · exact this.1 (by simp [hk])
    · exact this.2 q hq hk
  have hcbn : ∀ k ∈ co.sb :: co.blocks, k ∉ [cb] := by
    intro k hk hm
    have := h.fixed
    simp only [List.nodup_cons] at this
    simp only [List.mem_cons, List.not_mem_nil, or_false] at hm
    subst hm
    exact this.1 hk
  have hv'b : ∀ g, v'.ownBlock = some g → v.ownBlock = some g ∨ g = w2.heap.size := by
    intro g hg
    rcases h5 with h5 | h5
    · exact .inl (h5 ▸ hg)
    · rw [hg] at h5; exact .inr (Option.some.inj h5)
  have hnew2 : ∀ k ∈ (⟨nb, kn, vt⟩ : PP).blocks, w.heap.size ≤ k ∧ k < w2.heap.size := by
    intro k hk
    have e1 := block_lt hP2.node
    have e2 := mapI_lt hP2.known
    have e3 := mapI_lt hP2.votes
    simp only [PP.blocks, List.mem_cons, List.not_mem_nil, or_false] at hk
    rcases hk with rfl | rfl | rfl <;> omega
  have hlow : ∀ k ∈ cb :: co.sb :: co.blocks, k < w.heap.size := fun k hk => (h.new.1 k hk).2
  have hlowp : ∀ q ∈ pp, ∀ k ∈ q.blocks, k < w.heap.size := fun q hq k hk => (h.new.2 q hq k hk).2
  have hnv : ∀ k ∈ (⟨nb, kn, vt⟩ : PP).blocks, k ∉ v.ownBlock.toList := fun k hk hm => by
    have := hvb k (by simpa using hm)
    have := (hnew2 k hk).1
    omega
  have hncb : ∀ k ∈ (⟨nb, kn, vt⟩ : PP).blocks, k ∉ [cb] := fun k hk hm => by
    simp only [List.mem_cons, List.not_mem_nil, or_false] at hm
    have := (hnew2 k hk).1
    omega
  refine ⟨?_, ?_, ?_, ?_, h.fixed, ?_, ?_, ?_, ⟨?_, ?_⟩, ?_⟩
  · rw [heap_setCell_same _ _ _ _ _ _ hrow']; rfl
  · exact (h.cor.only' hO2 (fun k hk => hout k (.inl hk))).only' hO4 hcbn
  · have e : ptrsV (pp ++ [⟨nb, kn, vt⟩]) = ptrsV pp ++ [.pointer (some ⟨nb, 0, none⟩)] := by simp [ptrsV]
    rw [e, List.length_append]
    refine ownsRow_block h2 hO4 (fun g hg hm => ?_)
    simp only [List.mem_cons, List.not_mem_nil, or_false] at hm
    subst hm
    rcases hv'b _ hg with hg | hg
    · exact hcb (by simp [hg])
    · omega
  · intro i q s' hq hs'
    by_cases hi' : i < pp.length
    · rw [List.getElem?_append_left hi'] at hq
      have hm := List.mem_of_getElem? hq
      have a := fun k (hk : k ∈ q.blocks) => hout k (.inr ⟨q, hm, hk⟩)
      have b : ∀ k ∈ q.blocks, k ∉ [cb] := fun k hk hkm => h.cross q hm k hk (by simp only [List.mem_cons, List.not_mem_nil, or_false] at hkm; simp [hkm])
      exact ((h.parts i q s' hq hs').only hO2 (a _ (by simp [PP.blocks])) (a _ (by simp [PP.blocks])) (a _ (by simp [PP.blocks]))).only hO4 (b _ (by simp [PP.blocks])) (b _ (by simp [PP.blocks])) (b _ (by simp [PP.blocks]))
    · have hil : i = pp.length := by
        have := (List.getElem?_eq_some_iff.1 hq).1
        simp at this; omega
      subst hil
      simp at hq
      subst hq
      rw [hs] at hs'; cases hs'
      exact (hP2.only hO3 (hnv _ (by simp [PP.blocks])) (hnv _ (by simp [PP.blocks])) (hnv _ (by simp [PP.blocks]))).only hO4 (hncb _ (by simp [PP.blocks])) (hncb _ (by simp [PP.blocks])) (hncb _ (by simp [PP.blocks]))
  · intro i j q r hq hr hij k hk hkr
    by_cases hi' : i < pp.length <;> by_cases hj' : j < pp.length
    · rw [List.getElem?_append_left hi'] at hq; rw [List.getElem?_append_left hj'] at hr
      exact h.apart i j q r hq hr hij k hk hkr
    · rw [List.getElem?_append_left hi'] at hq
      have : j = pp.length := by have := (List.getElem?_eq_some_iff.1 hr).1; simp at this; omega
      subst this; simp at hr; subst hr
      have := hlowp q (List.mem_of_getElem? hq) k hk
      have := (hnew2 k hkr).1
      omega
    · rw [List.getElem?_append_left hj'] at hr
      have : i = pp.length := by have := (List.getElem?_eq_some_iff.1 hq).1; simp at this; omega
      subst this; simp at hq; subst hq
      have := hlowp r (List.mem_of_getElem? hr) k hkr
      have := (hnew2 k hk).1
      omega
    · have h1 := (List.getElem?_eq_some_iff.1 hr).1
      have h2 := (List.getElem?_eq_some_iff.1 hq).1
      simp at h1 h2; omega
  · intro q hq k hk hm
    simp only [List.mem_append, List.mem_cons, List.not_mem_nil, or_false] at hq
    rcases hq with hq | rfl
    · exact h.cross q hq k hk hm
    · have := hlow k hm
      have := (hnew2 k hk).1
      omega
  · intro g hg
    rcases hv'b g hg with hg | rfl
    · refine ⟨(h.mine g hg).1, fun q hq hm => ?_⟩
      simp only [List.mem_append, List.mem_cons, List.not_mem_nil, or_false] at hq
      rcases hq with hq | rfl
      · exact (h.mine g hg).2 q hq hm
      · exact hnv g hm (by simp [hg])
    · refine ⟨fun hm => by have := hlow _ hm; omega, fun q hq hm => ?_⟩
      simp only [List.mem_append, List.mem_cons, List.not_mem_nil, or_false] at hq
      rcases hq with hq | rfl
      · have := hlowp q hq _ hm; omega
      · have := (hnew2 _ hm).2; omega
  · intro k hk
    have := h.new.1 k hk
    rw [hsz]; omega
  · intro q hq k hk
    simp only [List.mem_append, List.mem_cons, List.not_mem_nil, or_false] at hq
    have := h.only.size
    rcases hq with hq | rfl
    · have := h.new.2 q hq k hk; rw [hsz]; omega
    · have := hnew2 k hk; rw [hsz]; omega
  · have a : Only [] w0 w' := (h.only).trans2 hO2 (fun x hx => by
      simp only [Option.mem_toList] at hx
      rcases h.own.2 with ⟨rfl, _⟩ | ⟨g, cap, cur, rfl, hB, _⟩
      · cases hx
      · simp only [Value.ownBlock, Option.some.injEq] at hx; subst hx; exact .inr hB)
    exact a.setCell (.inr (h.new.1 cb (by simp)).1) _
end Go.Proofs.YtfpojgljgbgkkaaGreatDoor

/-
  A new cluster: New.
-/
namespace Go.Proofs.YtfpojgljgbgkkaaGreatDoor
open Go.RowKit
open Go.ChangeMaps (setBlock)

attribute [local go_sem ↓] Go.wp_at_zero Go.wp_at_succ

/-- What a new cluster has. -/
def Cl.new (n : Nat) : Cl := ⟨⟨[], 0, [], [], [], []⟩, List.replicate n ⟨⟨[], 0, []⟩, []⟩, [], 0⟩

set_option maxRecDepth 100000 in
set_option maxHeartbeats 8000000 in
theorem new_any (sb scap : Nat) (ss : List Int) (wait : Int) (w : World) (hS : Head w sb 3 (intsV ss)) (h1 : 1 ≤ ss.length) (h6 : ss.length ≤ 6) (hok : ∀ x ∈ ss, wrongB x = false) (hw1 : 1 ≤ wait) (hw2 : wait ≤ 20) :
    Calls Tryz.prog 22 #[.agg #[.slice (some ⟨sb, 0, none⟩) ss.length scap, .int .i64 wait]] w fun e w' => ∃ P : ClP, e = .returned (.tuple #[.pointer (some ⟨P.cb, 0, none⟩), .int .i64 0]) ∧ Only [] w w' ∧ (∀ k ∈ P.blocks, w.heap.size ≤ k) ∧ ClAt w' P ss wait (.slice none 0 0) (Cl.new ss.length) := by
  have HS : Hid (Head w sb 3 (intsV ss)) := hS
  have HOK : Hid (∀ x ∈ ss, wrongB x = false) := hok
  have cint := cellsInt2
  have cpart := cellsPart
  have hO1 : Only [] w (w.alloc (.cells #[.slice (some ⟨sb, 0, none⟩) ss.length scap, .int .i64 wait] 58)) := (Only.refl _ _).alloc _
  have bk : (w.alloc (.cells #[.slice (some ⟨sb, 0, none⟩) ss.length scap, .int .i64 wait] 58)).heap[w.heap.size]? = some (.cells #[.slice (some ⟨sb, 0, none⟩) ss.length scap, .int .i64 wait] 58 (0, 0)) := heap_alloc_new w _
  have HO1 : Hid _ := hO1
  have BK : Hid _ := bk
  clear hS hok hO1 bk
  go_enter Tryz.func22, Tryz.ntmps22
  go_wp2_with fail
  refine (mayBe_any sb scap ss wait _ (HS.out.only HO1.out (by simp)) h1 h6 HOK.out hw1 hw2).mono ?_
  rintro e w2 ⟨rfl, hO2⟩
  have BK2 : Hid _ := hO2.at BK.out (by simp)
  have e0 : w2.cell? ⟨w.heap.size, 0, none⟩ = some (.slice (some ⟨sb, 0, none⟩) ss.length scap) := by rw [cell_of_row _ _ _ _ _ _ BK2.out]; rfl
  have e1 : w2.cell? ⟨w.heap.size, 1, none⟩ = some (.int .i64 wait) := by rw [cell_of_row _ _ _ _ _ _ BK2.out]; rfl
  have HO2 : Hid (Only [] w w2) := HO1.out.trans hO2
  clear hO2
  go_wp2_with fail
  refine (newCo_any sb scap ss wait w2 (HS.out.only HO2.out (by simp)) (by omega)).mono ?_
  rintro e w3 ⟨co, rfl, hnew, hO3, hC3⟩
  have hz2 := HO2.out.size
  have hz3 := hO3.size
  have hO4 : Only [] w3 (w3.alloc (.cells #[.pointer (some ⟨co.nb, 0, none⟩), .slice none 0 0, .slice none 0 0, .int .i64 0] 89)) := (Only.refl _ _).alloc _
  have hrow : (w3.alloc (.cells #[.pointer (some ⟨co.nb, 0, none⟩), .slice none 0 0, .slice none 0 0, .int .i64 0] 89)).heap[w3.heap.size]? = some (.cells #[.pointer (some ⟨co.nb, 0, none⟩), .slice none 0 0, .slice none 0 0, .int .i64 0] 89 (0, 0)) := heap_alloc_new w3 _
  have hMk : Mk w (w3.alloc (.cells #[.pointer (some ⟨co.nb, 0, none⟩), .slice none 0 0, .slice none 0 0, .int .i64 0] 89)) w3.heap.size co ss wait (.slice none 0 0) [] := by
    have hlow : ∀ k ∈ co.sb :: co.blocks, k < w3.heap.size := by
      intro k hk
      simp only [CoP.blocks, List.mem_cons, List.not_mem_nil, or_false] at hk
      rcases hk with rfl | rfl | rfl | rfl | rfl | rfl
      · exact hC3.sorts.lt
      · exact block_lt hC3.node
      · exact mapI_lt hC3.known
      · exact mapI_lt hC3.opens
      · exact mapI_lt hC3.votes
      · exact mapI_lt hC3.awaited
    have hsz : (w3.alloc (.cells #[.pointer (some ⟨co.nb, 0, none⟩), .slice none 0 0, .slice none 0 0, .int .i64 0] 89)).heap.size = w3.heap.size + 1 := by simp
    refine ⟨hrow, hC3.only0 hO4, World.ownsRow_nil _ _ _ _, by simp, ?_, by simp, by simp, ?_, ⟨?_, by simp⟩, (HO2.out.trans hO3).trans hO4⟩
    · rw [List.nodup_cons]
      refine ⟨fun hm => absurd (hlow _ hm) (Nat.lt_irrefl _), ?_⟩
      rw [List.nodup_cons]
      refine ⟨hC3.sb_out, ?_⟩
      have e1 := fun L (h : MapI w3 co.kn L) => map_ne_cells h hC3.node
      have a1 := map_ne_cells hC3.known hC3.node
      have a2 := map_ne_cells hC3.opens hC3.node
      have a3 := map_ne_cells hC3.votes hC3.node
      have a4 := map_ne_cells hC3.awaited hC3.node
      have a5 := hC3.apart
      unfold CoP.blocks
      rw [List.nodup_cons]
      refine ⟨?_, a5⟩
      simp only [List.mem_cons, List.not_mem_nil, or_false, not_or]
      exact ⟨a1, a2, a3, a4⟩
    · intro g hg; cases hg
    · intro k hk
      simp only [List.mem_cons] at hk
      rw [hsz]
      rcases hk with rfl | hk
      · omega
      · have x1 := hnew k (by simpa using hk)
        have x2 := hlow k (by simpa using hk)
        omega
  have HMK : Hid _ := hMk
  have BK4 : Hid _ := hO4.at (hO3.at BK2.out (by simp)) (by simp)
  have f0 : (w3.alloc (.cells #[.pointer (some ⟨co.nb, 0, none⟩), .slice none 0 0, .slice none 0 0, .int .i64 0] 89)).cell? ⟨w.heap.size, 0, none⟩ = some (.slice (some ⟨sb, 0, none⟩) ss.length scap) := by rw [cell_of_row _ _ _ _ _ _ BK4.out]; rfl
  have f0' : w3.cell? ⟨w.heap.size, 0, none⟩ = some (.slice (some ⟨sb, 0, none⟩) ss.length scap) := hO3.cell e0 (by simp)
  have f1' : w3.cell? ⟨w.heap.size, 1, none⟩ = some (.int .i64 wait) := hO3.cell e1 (by simp)
  clear hO3 hC3 hO4 hrow hMk hnew
  go_wp2_with fail
  generalize w3.alloc (.cells #[.pointer (some ⟨co.nb, 0, none⟩), .slice none 0 0, .slice none 0 0, .int .i64 0] 89) = w4 at *
  generalize w3.heap.size = cb at *
  go_loopw [20] (fun i wr => ∃ (j : Nat) (v : Value) (pp : List PP), j ≤ ss.length ∧ i = .int .i64 j ∧ Hid (pp.length = j) ∧ Hid (Mk w wr cb co ss wait v pp)) (fun i _ => ss.length - (intOf i).toNat)
  case atStart => exact ⟨0, _, [], by omega, rfl, rfl, HMK.out⟩
  case round =>
    obtain ⟨j, v, pp, hj, rfl, HL, HM⟩ := hrel
    by_cases hlt : j < ss.length
    · have hc : wr.cell? ⟨sb, j, none⟩ = some (.int .i64 ss[j]) := by
        rw [(HS.out.only HM.out.only (by simp)).cell j (by simp [intsV]; exact hlt)]; simp [intsV, hlt]
      have hix0 : (0 : Int) ≤ (j : Int) := by omega
      have hix1 : (j : Int) < (ss.length : Int) := by omega
      have hwj : IntKind.i64.wrap ((j : Int) + 1) = (j : Int) + 1 := by rw [IntKind.wrap_i64]; omega
      have HSJ : Hid (ss[pp.length]? = some ss[j]) := by show _ = _; rw [HL.out]; exact List.getElem?_eq_getElem hlt
      generalize ss[j] = s at *
      have r1 : wr.cell? ⟨cb, 1, none⟩ = some v := by rw [cell_of_row _ _ _ _ _ _ HM.out.row]; rfl
      have hcbl : cb < wr.heap.size := (HM.out.new.1 cb (by simp)).2
      go_wp2_with fail
      refine wp_region_held_drew (S := fun _ => True) (by kernel_rfl) trivial (fun hHeld => ?_)
      refine takeD 0 25 (.pointer (some ⟨cb, 0, none⟩)) rfl rfl (by kernel_rfl) (by kernel_rfl) (by kernel_rfl) (fun _ _ _ h => h) (Or.inl ⟨by kernel_rfl, ?_⟩) (by assumption) ?_
      · intro w hSw; go_simp
      simp only [List.setIfInBounds_toArray, List.set_cons_zero, List.set_cons_succ]
      refine takeD 1 26 (.pointer (some ⟨cb, 0, none⟩)) rfl rfl (by kernel_rfl) (by kernel_rfl) (by kernel_rfl) (fun _ _ _ h => h) (Or.inl ⟨by kernel_rfl, ?_⟩) (by assumption) ?_
      · intro w hSw; go_simp
      simp only [List.setIfInBounds_toArray, List.set_cons_zero, List.set_cons_succ]
      refine takeD 2 27 (.pointer (some ⟨cb, 0, none⟩)) rfl rfl (by kernel_rfl) (by kernel_rfl) (by kernel_rfl) (fun _ _ _ h => h) (Or.inl ⟨by kernel_rfl, ?_⟩) (by assumption) ?_
      · intro w hSw; go_simp
      simp only [List.setIfInBounds_toArray, List.set_cons_zero, List.set_cons_succ]
      refine takeD 3 28 (.pointer (some ⟨cb, 1, none⟩)) rfl rfl (by kernel_rfl) (by kernel_rfl) (by kernel_rfl) (fun _ _ _ h => h) (Or.inl ⟨by kernel_rfl, ?_⟩) (by assumption) ?_
      · intro w hSw; go_simp
      simp only [List.setIfInBounds_toArray, List.set_cons_zero, List.set_cons_succ]
      refine takeD 5 30 (.int .i64 (j : Int)) rfl rfl (by kernel_rfl) (by kernel_rfl) (by kernel_rfl) (fun _ _ _ h => h) (Or.inl ⟨by kernel_rfl, ?_⟩) (by assumption) ?_
      · intro w hSw; go_simp
      simp only [List.setIfInBounds_toArray, List.set_cons_zero, List.set_cons_succ]
      refine takeD 6 31 (.int .i64 ((j : Int) + 1)) rfl rfl (by kernel_rfl) (by kernel_rfl) (by kernel_rfl) (fun _ _ _ h => h) (Or.inl ⟨by kernel_rfl, ?_⟩) (by assumption) ?_
      · intro w hSw; go_simp
      simp only [List.setIfInBounds_toArray, List.set_cons_zero, List.set_cons_succ]
      refine takeD 7 32 (.int .i64 s) rfl rfl (by kernel_rfl) (by kernel_rfl) (by kernel_rfl) (fun _ _ _ h => h) (Or.inl ⟨by kernel_rfl, ?_⟩) (by assumption) ?_
      · intro w hSw; go_simp
      simp only [List.setIfInBounds_toArray, List.set_cons_zero, List.set_cons_succ]
      refine wpAnyH_ready (rs := [4, 8]) (by kernel_rfl) (by simp) ?_
      refine (AllReadyH.cons rfl (fun K hK => ?ordA) (AllReadyH.cons rfl (fun K hK => ?ordB) AllReadyH.nil))
      case' ordA =>
        go_simp
        refine hK.out _ _ trivial (fun hHeld => ?_)
        clear hK K
        refine wpAnyH_ready (rs := [8]) (by kernel_rfl) (by simp) ?_
        refine (AllReadyH.cons rfl (fun K hK => ?_) AllReadyH.nil)
        go_simp
        refine (newPart_any ((j : Int) + 1) s _).mono ?_
        rintro e w5 ⟨nb, kn, vt, rfl, hnb, hkn, hvt, hO5, hP5⟩
        have hO5' : Only [] wr w5 := ((Only.refl _ _).drew).trans hO5
        have HP5 : Hid _ := hP5
        have HO5 : Hid _ := hO5'
        have HZ5 : Hid (wr.heap.size ≤ nb ∧ wr.heap.size ≤ kn ∧ wr.heap.size ≤ vt) := ⟨hnb, hkn, hvt⟩
        have r5 := hO5'.cell r1 (by simp)
        clear hO5 hO5' hP5 hnb hkn hvt
        go_wp2_with fail
        refine hK.out _ _ trivial (fun hHeld => ?_)
        clear hK K
        refine wpAnyH_ready (rs := [9]) (by kernel_rfl) (by simp) ?_
        refine (AllReadyH.cons rfl (fun K hK => ?_) AllReadyH.nil)
        go_simp
        refine hK.out _ _ trivial (fun hHeld => ?_)
        clear hK K
      case' ordB =>
        go_simp
        refine (newPart_any ((j : Int) + 1) s _).mono ?_
        rintro e w5 ⟨nb, kn, vt, rfl, hnb, hkn, hvt, hO5, hP5⟩
        have hO5' : Only [] wr w5 := ((Only.refl _ _).drew).trans hO5
        have HP5 : Hid _ := hP5
        have HO5 : Hid _ := hO5'
        have HZ5 : Hid (wr.heap.size ≤ nb ∧ wr.heap.size ≤ kn ∧ wr.heap.size ≤ vt) := ⟨hnb, hkn, hvt⟩
        have r5 := hO5'.cell r1 (by simp)
        have hcb5 : cb < w5.heap.size := by have := hO5'.size; omega
        clear hO5 hO5' hP5 hnb hkn hvt
        go_wp2_with fail
        refine hK.out _ _ trivial (fun hHeld => ?_)
        clear hK K
        refine wpAnyH_ready (rs := [4, 9]) (by kernel_rfl) (by simp) ?_
        refine (AllReadyH.cons rfl (fun K hK => ?ordB1) (AllReadyH.cons rfl (fun K hK => ?ordB2) AllReadyH.nil))
        case' ordB1 =>
          go_simp
          refine hK.out _ _ trivial (fun hHeld => ?_)
          clear hK K
          refine wpAnyH_ready (rs := [9]) (by kernel_rfl) (by simp) ?_
          refine (AllReadyH.cons rfl (fun K hK => ?_) AllReadyH.nil)
          go_simp
          refine hK.out _ _ trivial (fun hHeld => ?_)
          clear hK K
        case' ordB2 =>
          go_simp
          refine hK.out _ _ trivial (fun hHeld => ?_)
          clear hK K
          refine wpAnyH_ready (rs := [4]) (by kernel_rfl) (by simp) ?_
          refine (AllReadyH.cons rfl (fun K hK => ?_) AllReadyH.nil)
          go_simp
          refine hK.out _ _ trivial (fun hHeld => ?_)
          clear hK K
      all_goals
        obtain ⟨q', c', w6, hr, hrow6, hMk6⟩ := HM.out.more HZ5.out HO5.out HSJ.out (by rw [HL.out]; exact HP5.out) (by have := HL.out; omega) 84
        have HMK6 : Hid _ := hMk6
        have q1 : w6.cell? ⟨cb, 1, none⟩ = some v := by rw [cell_of_row _ _ _ _ _ _ hrow6]; rfl
        have q2 : w6.frozen? ⟨cb, 1, none⟩ = false := frozen_of_row _ _ _ _ _ hrow6
        have HR : Hid _ := hr
        clear hrow6 hMk6 hr
        refine wpAnyH_ready (rs := [10]) (by kernel_rfl) (by simp) ?_
        refine (AllReadyH.cons rfl (fun K hK => ?_) AllReadyH.nil)
        refine step_append_run rfl (.tmp 29) (.tmp 34) 84 rfl rfl rfl HR.out ?_
        go_simp
        refine hK.out _ _ trivial (fun hHeld => ?_)
        clear hK K
        refine takeD 11 36 (.pointer (some ⟨cb, 0, none⟩)) rfl rfl (by kernel_rfl) (by kernel_rfl) (by kernel_rfl) (fun _ _ _ h => h) (Or.inl ⟨by kernel_rfl, ?_⟩) (by assumption) ?_
        · intro w hSw; go_simp
        simp only [List.setIfInBounds_toArray, List.set_cons_zero, List.set_cons_succ]
        refine takeD 12 37 (.pointer (some ⟨cb, 1, none⟩)) rfl rfl (by kernel_rfl) (by kernel_rfl) (by kernel_rfl) (fun _ _ _ h => h) (Or.inl ⟨by kernel_rfl, ?_⟩) (by assumption) ?_
        · intro w hSw; go_simp
        simp only [List.setIfInBounds_toArray, List.set_cons_zero, List.set_cons_succ]
        refine wpAnyH_ready (rs := [13]) (by kernel_rfl) (by simp) ?_
        refine (AllReadyH.cons rfl (fun K hK => ?_) AllReadyH.nil)
        go_simp
        refine hK.out _ _ trivial (fun hHeld => ?_)
        clear hK K
        refine wpAnyH_done (by kernel_rfl) ?_ _
        go_wp2_with fail
        go_roundw
        case rel => exact ⟨j + 1, .slice q' (pp.length + 1) c', pp ++ [PP.mk nb kn vt], by omega, by go_num, by show _ = _; have := HL.out; simp [this], HMK6⟩
        case measure => simp [intOf]; omega
    · obtain rfl : j = ss.length := by omega
      have hM := HM.out
      have hL := HL.out
      obtain ⟨pb, pcap, hv, hhead⟩ : ∃ pb pcap, v = .slice (some ⟨pb, 0, none⟩) ss.length pcap ∧ Head wr pb 82 (ptrsV pp) := by
        rcases hM.own.2 with ⟨-, h0⟩ | ⟨g, cap, cur, e, -⟩
        · omega
        · exact ⟨g, cap, by rw [e, hL], ownsRow_head hM.own (by rw [e]; rfl)⟩
      have hcl : ClAt wr ⟨cb, co, pb, pcap, pp⟩ ss wait (.slice none 0 0) (Cl.new ss.length) := by
        have hpb := hM.mine pb (by rw [hv]; rfl)
        have hf := hM.fixed
        rw [List.nodup_cons] at hf
        have hfix : ∀ k, k ∈ (⟨cb, co, pb, pcap, pp⟩ : ClP).fixed ↔ k = pb ∨ k ∈ cb :: co.sb :: co.blocks := by
          intro k
          simp only [ClP.fixed, List.mem_cons]
          constructor
          · rintro (h | h | h | h) <;> simp [h]
          · rintro (h | h | h | h) <;> simp [h]
        refine ⟨by rw [hM.row, hv]; rfl, hM.cor, hhead, ⟨hL, by simp [Cl.new]⟩, ?_, World.ownsRow_nil _ _ _ _, ?_, hM.apart, ?_, ?_⟩
        · intro i q v' s' hq hv' hs'
          have : v' = ⟨⟨[], 0, []⟩, []⟩ := by
            simp only [Cl.new, List.getElem?_replicate] at hv'
            split at hv'
            · exact (Option.some.inj hv').symm
            · cases hv'
          subst this
          exact hM.parts i q s' hq hs'
        · simp only [ClP.fixed]
          rw [List.nodup_cons, List.nodup_cons]
          have h1 := hpb.1
          simp only [List.mem_cons, not_or] at h1 hf ⊢
          exact ⟨⟨fun e => h1.1 e.symm, hf.1⟩, ⟨h1.2.1, h1.2.2⟩, hf.2⟩
        · intro q hq k hk hm
          rw [hfix] at hm
          rcases hm with rfl | hm
          · exact hpb.2 q hq hk
          · exact hM.cross q hq k hk hm
        · intro g hg; cases hg
      have hblk : ∀ k ∈ (⟨cb, co, pb, pcap, pp⟩ : ClP).blocks, w.heap.size ≤ k := by
        intro k hk
        rw [ClP.mem_blocks] at hk
        rcases hk with hk | ⟨q, hq, hk⟩
        · simp only [ClP.fixed, List.mem_cons] at hk
          rcases hk with rfl | rfl | hk
          · exact (hM.new.1 _ (by simp)).1
          · rcases hM.own.2 with ⟨-, h0⟩ | ⟨g, cap, cur, e, hB, -⟩
            · omega
            · rw [hv] at e; injection e with e1; injection e1 with e1; injection e1 with e1; subst e1; exact hB
          · exact (hM.new.1 k (by simpa using Or.inr hk)).1
        · exact (hM.new.2 q hq k hk).1
      have R : Hid (Only [] w wr ∧ (∀ k ∈ (⟨cb, co, pb, pcap, pp⟩ : ClP).blocks, w.heap.size ≤ k) ∧ ClAt wr ⟨cb, co, pb, pcap, pp⟩ ss wait (.slice none 0 0) (Cl.new ss.length)) := ⟨hM.only, hblk, hcl⟩
      clear hM hL hhead hcl hblk hv
      go_wp2_with fail
      exact bodyPost_ret (v := .tuple #[.pointer (some ⟨cb, 0, none⟩), .int .i64 0]) (by simp [results, Tryz.results22, go_sem]) rfl ⟨⟨cb, co, pb, pcap, pp⟩, rfl, R.out⟩
end Go.Proofs.YtfpojgljgbgkkaaGreatDoor

/-
  A cluster: Net.
-/
namespace Go.Proofs.YtfpojgljgbgkkaaGreatDoor
open Go.RowKit
open Go.ChangeMaps (setBlock)

attribute [local go_sem ↓] Go.wp_at_zero Go.wp_at_succ

def msgB (m : Int × Int × Int × Int) : List UInt8 := msgL m.1 m.2.1 m.2.2.1 m.2.2.2
def textsV (ms : List (Int × Int × Int × Int)) : List Value := ms.map fun m => .string (bs (msgB m))
/-- A message that can be written. -/
def fair (m : Int × Int × Int × Int) : Prop := endsB m.1 m.2.1 m.2.2.1 = true ∧ rightTxB m.2.2.2 = true
theorem infoStr : (Tryz.prog.info? 9).map (fun i => (i.zero, i.size, i.bytes)) = some (some (.string (bs [])), 1, 16) := by kernel_rfl
theorem cellsStr : Tryz.prog.cellsOf 9 = 1 := by kernel_rfl
theorem Sent.only0 {w w' : World} {a : Nat → Addr} (h : Sent w a) (ho : Only [] w w') : Sent w' a := h.later ho.below

set_option maxRecDepth 100000 in
set_option maxHeartbeats 4000000 in
theorem clNet_any (P : ClP) (ss : List Int) (wait : Int) (nv : Value) (c : Cl) (w : World) {a : Nat → Addr} (hS : Sent w a) (h : ClAt w P ss wait nv c) (hn : c.net.length ≤ 100) (hg : ∀ m ∈ c.net, fair m) :
    Calls Tryz.prog 25 #[.pointer (some ⟨P.cb, 0, none⟩)] w fun e w' => ∃ v, e = .returned (.tuple #[v, .int .i64 0]) ∧ Only [] w w' ∧ w'.ownsRow w.heap.size 9 1 v c.net.length (textsV c.net) := by
  have HS : Hid (Sent w a) := hS
  have HG : Hid (∀ m ∈ c.net, fair m) := hg
  have HA : Hid _ := netAll_any P.cb 2 nv c.net w ⟨h.cells.2.2.1, h.net⟩ (by omega)
  obtain ⟨i0, hi, hz0, hz1, hz2⟩ := info_parts infoStr
  clear h hS hg
  generalize c.net = ms at *
  go_enter Tryz.func25, Tryz.ntmps25
  go_wp2_with fail
  refine Calls.mono HA.out ?_
  rintro e w1 ⟨v1, rfl, hO1, hs1⟩
  have HO1 : Hid (Only [] w w1) := hO1
  have hz1' := hO1.size
  rcases hs1.2 with ⟨rfl, h0⟩ | ⟨g, cap, cur, rfl, hB, hgr, hnc, hcm, hcs, htk⟩
  · have HE : Hid (ms.length = 0) := h0
    clear hs1 h0 hO1
    have hl0 : ((0 : Nat) : Int) = 0 := rfl
    go_wp2_with fail
    go_loopw [4, 16] (fun v i wr => v = .slice none 0 0 ∧ i = .int .i64 0 ∧ wr = w1) (fun _ _ _ => 0)
    case atStart => exact ⟨rfl, rfl, rfl⟩
    case round =>
      obtain ⟨rfl, rfl, rfl⟩ := hrel
      go_wp2_with fail
      refine bodyPost_ret (v := .tuple #[.slice none 0 0, .int .i64 0]) (by simp [results, Tryz.results25, go_sem]) rfl ⟨_, rfl, HO1.out, ?_⟩
      obtain rfl : ms = [] := List.length_eq_zero_iff.1 HE.out
      exact World.ownsRow_nil _ _ _ _
  · have HS1 : Hid (Sent2 w.heap.size w1 (.slice (some ⟨g, 0, none⟩) ms.length cap) ms) := hs1
    clear hs1 hO1 htk hcs hgr hB hcm
    go_wp2_with fail
    go_loopw [4, 16] (fun v i wr => ∃ j : Nat, j ≤ ms.length ∧ i = .int .i64 j ∧ Hid (Only [] w1 wr) ∧ Hid (wr.ownsRow w1.heap.size 9 1 v (ms.take j).length (textsV (ms.take j)))) (fun _ i _ => ms.length - (intOf i).toNat)
    case atStart => exact ⟨0, by omega, rfl, Only.refl _ _, World.ownsRow_nil _ _ _ _⟩
    case round =>
      obtain ⟨j, hj, rfl, HOr, HWr⟩ := hrel
      by_cases hlt : j < ms.length
      · have hm : ms[j]? = some ms[j] := List.getElem?_eq_getElem hlt
        have HF : Hid (fair ms[j]) := HG.out _ (List.getElem_mem hlt)
        have HT : Hid (ms.take (j + 1) = ms.take j ++ [ms[j]]) := List.take_succ_eq_append_getElem hlt
        have HL : Hid ((ms.take j).length = j) := by show _ = _; rw [List.length_take]; omega
        generalize ms[j] = p at *
        have hs := HS1.out
        have hcell : ∀ (o : Nat) (u : Value), (flatM ms)[j * 4 + o]? = some u → wr.cell? ⟨g, j * 4 + o, none⟩ = some u := by
          intro o u ho
          have := World.ownsRow.cells hs (g := g) rfl _ _ ho
          rw [add0] at this
          exact HOr.out.cell this (by simp)
        obtain ⟨g0, g1, g2, g3⟩ := flatM_get ms j p hm
        have k0 := hcell 0 _ g0
        have k1 := hcell 1 _ g1
        have k2 := hcell 2 _ g2
        have k3 := hcell 3 _ g3
        rw [Nat.add_zero] at k0
        have hgl : g < wr.heap.size := cell_lt k0
        have hi0 : (0 : Int) ≤ (j : Int) := by omega
        have hi1 : (j : Int) < (ms.length : Int) := by omega
        obtain ⟨k, f, t, x⟩ := p
        have HO2 : Hid (Only [] w1 (wr.alloc (.cells #[.int .i64 k, .int .i64 f, .int .i64 t, .int .i64 x] 64))) := HOr.out.alloc _
        have HE : Hid _ := encode_yes k f t x (wr.alloc (.cells #[.int .i64 k, .int .i64 f, .int .i64 t, .int .i64 x] 64)) (HS.out.only0 (HO1.out.trans HO2.out)) HF.out.1 HF.out.2
        have HW2 : Hid _ := ownsRow_block HWr.out ((Only.refl [] wr).alloc (.cells #[.int .i64 k, .int .i64 f, .int .i64 t, .int .i64 x] 64)) (by simp)
        clear hs hcell g0 g1 g2 g3 hm
        go_wp2_with fail
        refine Calls.mono HE.out ?_
        rintro e w3 ⟨rfl, hb3⟩
        have hO3 : Only [] _ w3 := Only.of_below hb3
        have hown3 := ownsRow_block HW2.out hO3 (by simp)
        have HO3 : Hid (Only [] w1 w3) := HO2.out.trans hO3
        have hz3 := HO3.out.size
        rw [HL.out] at hown3
        have HOWN3 : Hid (w3.ownsRow w1.heap.size 9 1 u4 j (textsV (ms.take j))) := hown3
        clear hO3 hown3 hb3
        go_wp2_with (
          at_builtin
          refine wpList_append_own _ rfl _ _ 60 rfl w1.heap.size 9 i0 (.string (bs [])) 1 16 Tryz.underlying60 hi hz0 hz1 hz2 rfl (by decide) _ j (textsV (ms.take j)) rfl (HOWN3.out.alloc _) ⟨w3.heap.size, 0, none⟩ 1 1 [.string (bs (msgL k f t x))] rfl rfl (cell_one_at2 _ _ _ _ rfl) (fun x hx => by simp at hx; rw [hx]; rfl) (by unfold maxLen; omega) (by omega) (by simp; omega) ?_
          intro v' w4 hown4 hgrow4 hnil4
          clear hnil4)
        go_roundw
        case rel =>
          refine ⟨j + 1, by omega, by go_num, (HO3.out.alloc _).grown hgrow4 (fun q hq => .inr (HOWN3.out.lt _ hq).1), ?_⟩
          show World.ownsRow _ _ _ _ _ _ _
          rw [HT.out, List.length_append, HL.out]
          simpa [textsV, msgB] using hown4
        case measure => simp [intOf]; omega
      · obtain rfl : j = ms.length := by omega
        have R : Hid (Only [] w wr ∧ wr.ownsRow w.heap.size 9 1 u4 ms.length (textsV ms)) := by
          refine ⟨HO1.out.trans HOr.out, ?_⟩
          have := HWr.out
          rw [List.take_length] at this
          exact ownsRow_base this hz1'
        go_wp2_with fail
        exact bodyPost_ret (v := .tuple #[u4, .int .i64 0]) (by simp [results, Tryz.results25, go_sem]) rfl ⟨u4, rfl, R.out⟩
end Go.Proofs.YtfpojgljgbgkkaaGreatDoor

/-
  The game: a cluster, and what was seen; under.
-/
namespace Go.Proofs.YtfpojgljgbgkkaaGreatDoor
open Go.RowKit
open Go.ChangeMaps (setBlock)

attribute [local go_sem ↓] Go.wp_at_zero Go.wp_at_succ

/-- A No that is under way is noted. -/
def noteM (cs : Array Value) (m : Int × Int × Int × Int) : Array Value := if m.1 = 3 then cs.setIfInBounds (577 + m.2.1.toNat * 41 + m.2.2.2.toNat) (.bool true) else cs
def noteAll (cs : Array Value) (ms : List (Int × Int × Int × Int)) : Array Value := ms.foldl noteM cs
/-- The game's row. -/
structure GameRow (w : World) (gb cb : Nat) (n : Int) (cs : Array Value) : Prop where
  row : w.heap[gb]? = some (.cells cs 36 (0, 0))
  size : cs.size = 865
  c : cs[0]? = some (.pointer (some ⟨cb, 0, none⟩))
  n : cs[1]? = some (.int .i64 n)
  bad : cs[864]? = some (.bool false)
/-- A message that may be under way. -/
def mild (m : Int × Int × Int × Int) : Prop := fair m ∧ m.2.2.2 ≤ 40
theorem mild_bd {k f t x : Int} (h : mild (k, f, t, x)) : 1 ≤ k ∧ k ≤ 7 ∧ 0 ≤ f ∧ f ≤ 6 ∧ 1 ≤ x ∧ x ≤ 40 := by
  obtain ⟨⟨h1, h2⟩, h3⟩ := h
  simp only [endsB, rightNodeB, rightTxB, Bool.and_eq_true, decide_eq_true_eq] at h1 h2 h3
  omega
theorem set_same (cs : Array Value) (o : Nat) (u : Value) (h : cs[o]? = some u) : cs.setIfInBounds o u = cs := by
  apply Array.ext
  · simp
  · intro i h1 h2
    rw [Array.getElem_setIfInBounds h2]
    split
    · rename_i hi
      subst hi
      rw [Array.getElem?_eq_getElem h2] at h
      exact (Option.some.inj h).symm
    · rfl
theorem GameRow.cells {w : World} {gb cb : Nat} {n : Int} {cs : Array Value} (h : GameRow w gb cb n cs) : w.cell? ⟨gb, 0, none⟩ = some (.pointer (some ⟨cb, 0, none⟩)) ∧ w.cell? ⟨gb, 1, none⟩ = some (.int .i64 n) ∧ w.cell? ⟨gb, 864, none⟩ = some (.bool false) ∧ ∀ o, w.frozen? ⟨gb, o, none⟩ = false :=
  ⟨by rw [cell_of_row _ _ _ _ _ _ h.row]; exact h.c, by rw [cell_of_row _ _ _ _ _ _ h.row]; exact h.n, by rw [cell_of_row _ _ _ _ _ _ h.row]; exact h.bad, fun o => frozen_of_row _ _ _ _ _ h.row⟩
theorem GameRow.only {S : List Nat} {w w' : World} {gb cb : Nat} {n : Int} {cs : Array Value} (h : GameRow w gb cb n cs) (ho : Only S w w') (hs : gb ∉ S) : GameRow w' gb cb n cs := ⟨ho.at h.row hs, h.size, h.c, h.n, h.bad⟩
theorem GameRow.keep {w : World} {gb cb : Nat} {n : Int} {cs : Array Value} (h : GameRow w gb cb n cs) : GameRow (w.setCell ⟨gb, 864, none⟩ (.bool false)) gb cb n cs :=
  ⟨by rw [heap_setCell_same _ _ _ _ _ _ h.row, set_same cs 864 _ h.bad], h.size, h.c, h.n, h.bad⟩
theorem GameRow.no {w : World} {gb cb : Nat} {n : Int} {cs : Array Value} (h : GameRow w gb cb n cs) (f x : Nat) (hf : f ≤ 6) (hx : x ≤ 40) : GameRow (w.setCell ⟨gb, 577 + f * 41 + x, none⟩ (.bool true)) gb cb n (cs.setIfInBounds (577 + f * 41 + x) (.bool true)) := by
  have e : ∀ o, o ≠ 577 + f * 41 + x → (cs.setIfInBounds (577 + f * 41 + x) (.bool true))[o]? = cs[o]? := fun o ho => by rw [Array.getElem?_setIfInBounds_ne (Ne.symm ho)]
  exact ⟨heap_setCell_same _ _ _ _ _ _ h.row, by simp [h.size], by rw [e 0 (by omega)]; exact h.c, by rw [e 1 (by omega)]; exact h.n, by rw [e 864 (by omega)]; exact h.bad⟩
theorem noteAll_take (cs : Array Value) (ms : List (Int × Int × Int × Int)) (j : Nat) (m : Int × Int × Int × Int) (h : ms[j]? = some m) : noteAll cs (ms.take (j + 1)) = noteM (noteAll cs (ms.take j)) m := by
  obtain ⟨hlt, rfl⟩ := List.getElem?_eq_some_iff.1 h
  rw [List.take_succ_eq_append_getElem hlt, noteAll, List.foldl_append]
  rfl

set_option maxRecDepth 100000 in
set_option maxHeartbeats 8000000 in
theorem under_any (P : ClP) (ss : List Int) (wait : Int) (nv : Value) (c : Cl) (gb : Nat) (n : Int) (cs : Array Value) (w0 w : World) {a : Nat → Addr} (hS : Sent w0 a) (hO0 : Only [] w0 w) (h : ClAt w P ss wait nv c) (hG : GameRow w gb P.cb n cs) (hn : c.net.length ≤ 100) (hm : ∀ m ∈ c.net, mild m) (hgb : w0.heap.size ≤ gb) :
    Calls Tryz.prog 33 #[.pointer (some ⟨gb, 0, none⟩)] w fun e w' => e = .returned (.int .i64 c.net.length) ∧ Only [gb] w w' ∧ GameRow w' gb P.cb n (noteAll cs c.net) := by
  have HS : Hid (Sent w0 a) := hS
  have HO0 : Hid (Only [] w0 w) := hO0
  have HM : Hid (∀ m ∈ c.net, mild m) := hm
  have HG : Hid (GameRow w gb P.cb n cs) := hG
  have HN : Hid _ := clNet_any P ss wait nv c w (hS.only0 hO0) h hn (fun m hm' => (hm m hm').1)
  obtain ⟨q0, -, -, -⟩ := hG.cells
  have cstr := cellsStr
  clear h hS hm hG hO0
  generalize c.net = ms at *
  generalize P.cb = cb at *
  go_enter Tryz.func33, Tryz.ntmps33
  go_wp2_with fail
  refine Calls.mono HN.out ?_
  rintro e w1 ⟨u, rfl, hO1, hown1⟩
  have hG1 := HG.out.only hO1 (by simp)
  obtain ⟨-, -, q864, qf⟩ := hG1.cells
  have HO1 : Hid (Only [] w w1) := hO1
  have HG2 : Hid (GameRow (w1.setCell ⟨gb, 864, none⟩ (.bool false)) gb cb n cs) := hG1.keep
  have HO2 : Hid (Only [gb] w (w1.setCell ⟨gb, 864, none⟩ (.bool false))) := (hO1.mono (by simp)).setCell (.inl (by simp)) _
  have hgl := block_lt HG.out.row
  have HU : Hid (w1.ownsRow w.heap.size 9 1 u ms.length (textsV ms)) := hown1
  have d1 : decide ((ms.length : Int) > 100) = false := by simp; omega
  obtain ⟨uq, ucap, rfl⟩ : ∃ q cap, u = .slice q ms.length cap := by
    rcases hown1.2 with ⟨rfl, h0⟩ | ⟨g, cap, cur, rfl, _⟩
    · rw [h0]; exact ⟨_, _, rfl⟩
    · exact ⟨_, _, rfl⟩
  clear hO1 hG1 hown1
  go_wp2_with fail
  have HU2 : Hid ((w1.setCell ⟨gb, 864, none⟩ (.bool false)).ownsRow w.heap.size 9 1 (.slice uq ms.length ucap) ms.length (textsV ms)) := ownsRow_block HU.out ((Only.refl [gb] _).setCell (.inl (by simp)) _) (fun g hg hgm => by
    have := (HU.out.lt g hg).1
    simp only [List.mem_cons, List.not_mem_nil, or_false] at hgm
    omega)
  generalize w1.setCell ⟨gb, 864, none⟩ (.bool false) = w2 at *
  go_loopw [5] (fun i wr => ∃ j : Nat, j ≤ ms.length ∧ i = .int .i64 j ∧ Hid (Only [gb] w2 wr) ∧ Hid (GameRow wr gb cb n (noteAll cs (ms.take j)))) (fun i _ => ms.length - (intOf i).toNat)
  case atStart => exact ⟨0, by omega, rfl, Only.refl _ _, HG2.out⟩
  case round =>
    obtain ⟨j, hj, rfl, HOr, HGr⟩ := hrel
    by_cases hlt : j < ms.length
    · have hmj : ms[j]? = some ms[j] := List.getElem?_eq_getElem hlt
      have HF : Hid (mild ms[j]) := HM.out _ (List.getElem_mem hlt)
      have HT : Hid (noteAll cs (ms.take (j + 1)) = noteM (noteAll cs (ms.take j)) ms[j]) := noteAll_take cs ms j _ hmj
      generalize ms[j] = p at *
      obtain ⟨k, f, t, x⟩ := p
      obtain ⟨hk1, hk7, hf0, hf6, hx1, hx40⟩ := mild_bd HF.out
      rcases HU2.out.2 with ⟨-, h0⟩ | ⟨g, cap, cur, e, hB, hgr, -⟩
      · omega
      · injection e with e1 e2 e3
        subst e1 e3
        have hgne : g ≠ gb := by omega
        have hcell : wr.cell? ⟨g, j, none⟩ = some (.string (bs (msgL k f t x))) := by
          have := World.ownsRow.cells HU2.out (g := g) rfl j (.string (bs (msgL k f t x))) (by simp [textsV, hmj, msgB])
          rw [add0] at this
          exact HOr.out.cell this (by simpa using hgne)
        have hgl2 : g < wr.heap.size := cell_lt hcell
        have hi0 : (0 : Int) ≤ (j : Int) := by omega
        have hi1 : (j : Int) < (ms.length : Int) := by omega
        have hSr : Sent wr a := HS.out.only0 (HO0.out.trans2 (HO2.out.trans HOr.out) (fun x hx => .inr (by simp only [List.mem_cons, List.not_mem_nil, or_false] at hx; omega)))
        have HD : Hid _ := decode_msg k f t x HF.out.1.1 HF.out.1.2 wr a hSr
        have hglr := block_lt HGr.out.row
        clear hmj hgr hB
        go_wp2_with fail
        refine Calls.mono HD.out ?_
        rintro e w3 ⟨rfl, hb3⟩
        have hO3 : Only [] wr w3 := Only.of_below hb3
        have hz3 := hO3.size
        have x3 := HGr.out.only hO3 (by simp)
        obtain ⟨-, -, y864, yf⟩ := x3.cells
        have d3 : decide (x > 40) = false := by simpa using hx40
        have d4 : decide (f > 6) = false := by simpa using hf6
        have hgne3 : w3.heap.size ≠ gb := by omega
        have hgl3 : gb < w3.heap.size := by omega
        have hgl4 : gb ≠ w3.heap.size := by omega
        have HG5 : Hid (GameRow ((w3.setCell ⟨gb, 864, none⟩ (.bool false)).alloc (.cells #[.int .i64 k, .int .i64 f, .int .i64 t, .int .i64 x] 64)) gb cb n (noteAll cs (ms.take j))) := x3.keep.only (S := []) ((Only.refl _ _).alloc _) (by simp)
        have HO5 : Hid (Only [gb] w2 ((w3.setCell ⟨gb, 864, none⟩ (.bool false)).alloc (.cells #[.int .i64 k, .int .i64 f, .int .i64 t, .int .i64 x] 64))) := HOr.out.trans (((hO3.mono (by simp)).setCell (.inl (by simp)) _).alloc _)
        have HBK : Hid (((w3.setCell ⟨gb, 864, none⟩ (.bool false)).alloc (.cells #[.int .i64 k, .int .i64 f, .int .i64 t, .int .i64 x] 64)).heap[w3.heap.size]? = some (.cells #[.int .i64 k, .int .i64 f, .int .i64 t, .int .i64 x] 64 (0, 0))) := by
          have := heap_alloc_new (w3.setCell ⟨gb, 864, none⟩ (.bool false)) (.cells #[.int .i64 k, .int .i64 f, .int .i64 t, .int .i64 x] 64)
          show _ = _
          simpa using this
        clear hO3 x3 hb3
        by_cases hk : k = 3
        · have k3 : (k == 3) = true := by simpa using hk
          have HK : Hid (k = 3) := hk
          clear hk
          go_wp2_with fail
          generalize ((w3.setCell ⟨gb, 864, none⟩ (.bool false)).alloc (.cells #[.int .i64 k, .int .i64 f, .int .i64 t, .int .i64 x] 64)) = w5 at *
          have m1 : w5.cell? ⟨w3.heap.size, 1, none⟩ = some (.int .i64 f) := by rw [cell_of_row _ _ _ _ _ _ HBK.out]; rfl
          have m3 : w5.cell? ⟨w3.heap.size, 3, none⟩ = some (.int .i64 x) := by rw [cell_of_row _ _ _ _ _ _ HBK.out]; rfl
          obtain ⟨fn, rfl⟩ : ∃ fn : Nat, f = (fn : Int) := ⟨f.toNat, by omega⟩
          obtain ⟨xn, rfl⟩ : ∃ xn : Nat, x = (xn : Int) := ⟨x.toNat, by omega⟩
          have i1 : (fn : Int) < 7 := by omega
          have i2 : (xn : Int) < 41 := by omega
          refine wp_region_held_drew (S := fun w' => w'.cell? ⟨w3.heap.size, 1, none⟩ = some (.int .i64 (fn : Int)) ∧ w'.cell? ⟨w3.heap.size, 3, none⟩ = some (.int .i64 (xn : Int))) (by kernel_rfl) ⟨m1, m3⟩ (fun hHeld => ?_)
          refine takeD 0 77 (.pointer (some ⟨gb, 0, none⟩)) rfl rfl (by kernel_rfl) (by kernel_rfl) (by kernel_rfl) (fun _ _ _ h => h) (Or.inl ⟨by kernel_rfl, ?_⟩) (by assumption) ?_
          · intro w hSw; go_simp
          simp only [List.setIfInBounds_toArray, List.set_cons_zero, List.set_cons_succ]
          refine takeD 1 78 (.pointer (some ⟨w3.heap.size, 1, none⟩)) rfl rfl (by kernel_rfl) (by kernel_rfl) (by kernel_rfl) (fun _ _ _ h => h) (Or.inl ⟨by kernel_rfl, ?_⟩) (by assumption) ?_
          · intro w hSw; go_simp
          simp only [List.setIfInBounds_toArray, List.set_cons_zero, List.set_cons_succ]
          refine takeD 2 79 (.int .i64 (fn : Int)) rfl rfl (by kernel_rfl) (by kernel_rfl) (by kernel_rfl) (fun _ _ _ h => h) (Or.inl ⟨by kernel_rfl, ?_⟩) (by assumption) ?_
          · intro w hSw; go_simp
          simp only [List.setIfInBounds_toArray, List.set_cons_zero, List.set_cons_succ]
          refine takeD 3 80 (.pointer (some ⟨w3.heap.size, 3, none⟩)) rfl rfl (by kernel_rfl) (by kernel_rfl) (by kernel_rfl) (fun _ _ _ h => h) (Or.inl ⟨by kernel_rfl, ?_⟩) (by assumption) ?_
          · intro w hSw; go_simp
          simp only [List.setIfInBounds_toArray, List.set_cons_zero, List.set_cons_succ]
          refine takeD 4 81 (.int .i64 (xn : Int)) rfl rfl (by kernel_rfl) (by kernel_rfl) (by kernel_rfl) (fun _ _ _ h => h) (Or.inl ⟨by kernel_rfl, ?_⟩) (by assumption) ?_
          · intro w hSw; go_simp
          simp only [List.setIfInBounds_toArray, List.set_cons_zero, List.set_cons_succ]
          refine takeD 5 82 (.pointer (some ⟨gb, 0, none⟩)) rfl rfl (by kernel_rfl) (by kernel_rfl) (by kernel_rfl) (fun _ _ _ h => h) (Or.inl ⟨by kernel_rfl, ?_⟩) (by assumption) ?_
          · intro w hSw; go_simp
          simp only [List.setIfInBounds_toArray, List.set_cons_zero, List.set_cons_succ]
          refine takeD 6 83 (.pointer (some ⟨gb, 577, none⟩)) rfl rfl (by kernel_rfl) (by kernel_rfl) (by kernel_rfl) (fun _ _ _ h => h) (Or.inl ⟨by kernel_rfl, ?_⟩) (by assumption) ?_
          · intro w hSw; go_simp
          simp only [List.setIfInBounds_toArray, List.set_cons_zero, List.set_cons_succ]
          refine takeD 7 84 (.pointer (some ⟨gb, 577 + fn * 41, none⟩)) rfl rfl (by kernel_rfl) (by kernel_rfl) (by kernel_rfl) (fun _ _ _ h => h) (Or.inl ⟨by kernel_rfl, ?_⟩) (by assumption) ?_
          · intro w hSw; go_simp
          simp only [List.setIfInBounds_toArray, List.set_cons_zero, List.set_cons_succ]
          refine takeD 8 85 (.pointer (some ⟨gb, 577 + fn * 41 + xn, none⟩)) rfl rfl (by kernel_rfl) (by kernel_rfl) (by kernel_rfl) (fun _ _ _ h => h) (Or.inl ⟨by kernel_rfl, ?_⟩) (by assumption) ?_
          · intro w hSw; go_simp
          simp only [List.setIfInBounds_toArray, List.set_cons_zero, List.set_cons_succ]
          obtain ⟨u0, hu0⟩ : ∃ u0, w5.cell? ⟨gb, 577 + fn * 41 + xn, none⟩ = some u0 := by
            rw [cell_of_row _ _ _ _ _ _ HG5.out.row]
            have hsz := HG5.out.size
            exact ⟨_, Array.getElem?_eq_getElem (by omega)⟩
          have hf0' : w5.frozen? ⟨gb, 577 + fn * 41 + xn, none⟩ = false := frozen_of_row _ _ _ _ _ HG5.out.row
          have HG6 : Hid (GameRow (w5.setCell ⟨gb, 577 + fn * 41 + xn, none⟩ (.bool true)) gb cb n (noteAll cs (ms.take (j + 1)))) := by
            have := HG5.out.no fn xn (by omega) (by omega)
            show GameRow _ _ _ _ _
            rw [HT.out, noteM, if_pos HK.out]
            simpa using this
          have HO6 : Hid (Only [gb] w2 (w5.setCell ⟨gb, 577 + fn * 41 + xn, none⟩ (.bool true))) := HO5.out.setCell (.inl (by simp)) _
          refine wpAnyH_ready (rs := [9]) (by kernel_rfl) (by simp) ?_
          refine (AllReadyH.cons rfl (fun K hK => ?_) AllReadyH.nil)
          go_simp
          refine hK.out _ _ ⟨Only.cell (S := [gb]) (((Only.refl _ _).setCell (.inl (by simp)) _).drew) m1 (by simpa using hgne3), Only.cell (S := [gb]) (((Only.refl _ _).setCell (.inl (by simp)) _).drew) m3 (by simpa using hgne3)⟩ (fun hHeld => ?_)
          clear hK K
          refine wpAnyH_done (by kernel_rfl) ?_ _
          go_wp2_with fail
          go_roundw
          case rel => exact ⟨j + 1, by omega, by go_num, HO6.out.drew, HG6.out.only (S := []) (Only.refl _ _).drew (by simp)⟩
          case measure => simp [intOf]; omega
        · have k3 : (k == 3) = false := by rw [beq_eq_false_iff_ne]; exact hk
          have HK : Hid (¬ k = 3) := hk
          clear hk
          go_wp2_with fail
          go_roundw
          case rel =>
            refine ⟨j + 1, by omega, by go_num, HO5.out, ?_⟩
            show GameRow _ _ _ _ _
            rw [HT.out, noteM, if_neg HK.out]
            exact HG5.out
          case measure => simp [intOf]; omega
    · obtain rfl : j = ms.length := by omega
      have R : Hid (Only [gb] w wr ∧ GameRow wr gb cb n (noteAll cs ms)) := by
        refine ⟨HO2.out.trans HOr.out, ?_⟩
        have := HGr.out
        rwa [List.take_length] at this
      go_wp2_with fail
      go_ret
      exact ⟨rfl, R.out⟩
end Go.Proofs.YtfpojgljgbgkkaaGreatDoor
