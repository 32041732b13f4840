/-
  Books: lists full of marks; Books.still.
-/
import Derived.Test.YtfpojgljgbgkkaaDoorBgn
namespace Go.Proofs.YtfpojgljgbgkkaaDoor
open Go.RowKit

/-- So many marks of an owner. -/
def mk (c n : Nat) : List Value := flatR (List.replicate n (-(c : Int), 0))
theorem mk_len (c n : Nat) : (mk c n).length = n * 2 := by rw [mk, flatR_len, List.length_replicate]
theorem mk_get0 (c n i : Nat) (h : i < n) : (mk c n)[i * 2]? = some (.int .i64 (-(c : Int))) := by
  rw [mk, flatR_get0 _ i (by simpa using h), List.getElem_replicate]
theorem mk_get1 (c n i : Nat) (h : i < n) : (mk c n)[i * 2 + 1]? = some (.int .i64 0) := by
  rw [mk, flatR_get1 _ i (by simpa using h), List.getElem_replicate]
theorem mk_succ (c n : Nat) : mk c (n + 1) = mk c n ++ [.int .i64 (-(c : Int)), .int .i64 0] := by
  rw [mk, List.replicate_succ', flatR_snoc]; rfl

/-- A list that is full of its owner's marks. -/
def Lst (w : World) (u : Value) (c : Nat) : Prop := ∃ p n cap, u = .slice p n cap ∧ n ≤ 2000000 ∧ (n = 0 ∨ ∃ g, p = some ⟨g, 0, none⟩ ∧ Head w g 59 (mk c n))

/-- The books: so many owners, their lists, whose each is. -/
structure Bk (B : Nat) (w : World) (kb n : Nat) (Us : List Value) (Cs : List Nat) : Prop where
  ex : ∃ Rv Nv, w.heap[kb]? = some (.cells #[.int .i64 n, Rv, Nv, .slice none 0 0, .slice none 0 0] 40 (0, 0)) ∧ w.ownsRow B 31 1 Rv Us.length Us ∧ w.ownsRow B 3 1 Nv Us.length (Cs.map fun c => .int .i64 (c : Nat))
  hB : B ≤ kb
  len : Cs.length = Us.length
  lists : ∀ i (h : i < Us.length) (h2 : i < Cs.length), Lst w Us[i] Cs[i]
  small : ∀ i (h : i < Cs.length), Cs[i] ≤ 1000
  few : Us.length ≤ 1000

theorem cellsOne : Tryd.prog.cellsOf 31 = 1 := by kernel_rfl
theorem cellsInt : Tryd.prog.cellsOf 3 = 1 := by kernel_rfl

set_option maxRecDepth 100000 in
set_option maxHeartbeats 4000000 in
theorem still_any (B : Nat) (w : World) (kb n : Nat) (Us : List Value) (Cs : List Nat) (hk : Bk B w kb n Us Cs) (h0 : 0 < Us.length) :
    Calls Tryd.prog 16 #[.pointer (some ⟨kb, 0, none⟩)] w fun e w' => e = .returned (.bool true) ∧ Below w.heap.size w w' := by
  obtain ⟨⟨Rv, Nv, hb, hR, hN⟩, -, hlen, hlists, hsmall, hfew⟩ := hk
  obtain ⟨gR, capR, rfl, -, hltR⟩ := hR.form h0
  obtain ⟨gN, capN, rfl, -, hltN⟩ := hN.form h0
  have hkb := block_lt hb
  have LISTS : Hid (∀ i (h : i < Us.length) (h2 : i < Cs.length), Lst w Us[i] Cs[i]) := hlists
  have SMALL : Hid (∀ i (h : i < Cs.length), Cs[i] ≤ 1000) := hsmall
  have RC : Hid (∀ j (h : j < Us.length), w.cell? ⟨gR, j, none⟩ = some Us[j]) := fun j h => by rw [hR.cellAt j (by omega)]; simp [h]
  have NC : Hid (∀ j (h : j < Cs.length), w.cell? ⟨gN, j, none⟩ = some (.int .i64 (Cs[j] : Nat))) := fun j h => by rw [hN.cellAt j (by omega)]; simp [h]
  have KB : Hid (∀ wr, Below w.heap.size w wr → wr.cell? ⟨kb, 1, none⟩ = some (.slice (some ⟨gR, 0, none⟩) Us.length capR) ∧ wr.cell? ⟨kb, 2, none⟩ = some (.slice (some ⟨gN, 0, none⟩) Us.length capN) ∧ wr.cell? ⟨kb, 3, none⟩ = some (.slice none 0 0)) := fun wr hw => by
    refine ⟨?_, ?_, ?_⟩ <;> rw [hw.cell hkb, cell_of_row _ _ _ _ _ _ hb] <;> rfl
  have c1 := cellsOne
  have c2 := cellsRec
  have c3 := cellsInt
  clear hlists hsmall hR hN hb
  go_enter Tryd.func16, Tryd.ntmps16
  go_wp2
  go_loopw [3] (fun i wr => ∃ j : Nat, j ≤ Us.length ∧ i = .int .i64 j ∧ Below w.heap.size w wr) (fun i _ => Us.length - (intOf i).toNat)
  case atStart => exact ⟨0, by omega, rfl, Below.refl _ _⟩
  case round =>
    obtain ⟨j, hj, rfl, hb⟩ := hrel
    obtain ⟨k1, k2, k3⟩ := KB.out wr hb
    by_cases hlt : j < Us.length
    · have hltC : j < Cs.length := by omega
      obtain ⟨p, nn, cap, hu, hnn, hcase⟩ := LISTS.out j hlt hltC
      have r0 : wr.cell? ⟨gR, j, none⟩ = some (.slice p nn cap) := by rw [hb.cell (p := ⟨gR, j, none⟩) hltR, RC.out j hlt, hu]
      have n0 : wr.cell? ⟨gN, j, none⟩ = some (.int .i64 (Cs[j] : Nat)) := by rw [hb.cell (p := ⟨gN, j, none⟩) hltN, NC.out j hltC]
      have hcs := SMALL.out j hltC
      have hix0 : (0 : Int) ≤ (j : Int) := by omega
      have hix1 : (j : Int) < (Us.length : Int) := by omega
      have CASE : Hid (nn = 0 ∨ ∃ g, p = some ⟨g, 0, none⟩ ∧ Head w g 59 (mk Cs[j] nn)) := hcase
      have HU : Hid (Us[j] = .slice p nn cap) := hu
      clear hcase hu
      go_wp2
      go_loopw [4] (fun i wr2 => ∃ m : Nat, m ≤ nn ∧ i = .int .i64 m ∧ Below w.heap.size w wr2) (fun i _ => nn - (intOf i).toNat)
      case atStart => exact ⟨0, by omega, rfl, hb⟩
      case round =>
        clear k1 k2 k3 r0 n0 hb
        obtain ⟨m, hm, rfl, hb⟩ := hrel
        obtain ⟨k1, k2, k3⟩ := KB.out wr hb
        have r0 : wr.cell? ⟨gR, j, none⟩ = some (.slice p nn cap) := by rw [hb.cell (p := ⟨gR, j, none⟩) hltR, RC.out j hlt, HU.out]
        have n0 : wr.cell? ⟨gN, j, none⟩ = some (.int .i64 (Cs[j] : Nat)) := by rw [hb.cell (p := ⟨gN, j, none⟩) hltN, NC.out j hltC]
        by_cases hm2 : m < nn
        · rcases CASE.out with h0' | ⟨g, rfl, hh⟩
          · omega
          · have hgl := hh.lt
            have l0 : wr.cell? ⟨g, m * 2, none⟩ = some (.int .i64 (-((Cs[j] : Nat) : Int))) := by rw [hb.cell (p := ⟨g, m * 2, none⟩) hgl, hh.cell _ (by rw [mk_len]; omega), mk_get0 _ _ _ hm2]
            have l1 : wr.cell? ⟨g, m * 2 + 1, none⟩ = some (.int .i64 0) := by rw [hb.cell (p := ⟨g, m * 2 + 1, none⟩) hgl, hh.cell _ (by rw [mk_len]; omega), mk_get1 _ _ _ hm2]
            have hix2 : (0 : Int) ≤ (m : Int) := by omega
            have hix3 : (m : Int) < (nn : Int) := by omega
            clear hh CASE HU
            generalize Cs[j] = cc at *
            have hneg : IntKind.i64.wrap (-(cc : Int)) = -(cc : Int) := by rw [IntKind.wrap_i64]; omega
            go_wp2
            go_quiet (fail)
            go_wp2
            go_roundw
            case rel => exact ⟨m + 1, by omega, by go_num, below_drewN hb _⟩
            case measure => simp [intOf]; omega
        · obtain rfl : m = nn := by omega
          clear CASE HU
          go_wp2
          go_roundw
          case rel => exact ⟨j + 1, by omega, by go_num, hb⟩
          case measure => simp [intOf]; omega
    · obtain rfl : j = Us.length := by omega
      go_wp2
      refine wp_loop_rounds 1 ?_
      rw [rounds_succ]
      go_wp2
      go_ret
      exact ⟨rfl, hb⟩
end Go.Proofs.YtfpojgljgbgkkaaDoor
