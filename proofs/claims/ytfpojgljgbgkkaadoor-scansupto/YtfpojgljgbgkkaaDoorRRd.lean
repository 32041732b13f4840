/-
  wire.readRecord, of any bytes.
-/
import Derived.Test.YtfpojgljgbgkkaaDoorScanM
namespace Go.Proofs.YtfpojgljgbgkkaaDoor
open Go.RowKit

/-- The four variables that Scan reads. -/
structure Four (w : World) : Prop where
  v1 : ∃ a, w.cell? ⟨1, 0, none⟩ = some (.iface 118 (.pointer (some a)))
  v2 : ∃ a, w.cell? ⟨2, 0, none⟩ = some (.iface 118 (.pointer (some a)))
  v4 : ∃ a, w.cell? ⟨4, 0, none⟩ = some (.iface 118 (.pointer (some a)))
  v5 : ∃ a, w.cell? ⟨6, 0, none⟩ = some (.iface 118 (.pointer (some a)))
theorem cell_later {w w' : World} {p : Addr} {u : Value} {B : Nat} (h : w.cell? p = some u) (hb : Below B w w') (hB : w.heap.size ≤ B) : w'.cell? p = some u := by
  rw [hb.cell (p := p) (Nat.lt_of_lt_of_le (cell_block h) hB)]; exact h
theorem Four.later {w w' : World} (h : Four w) (hb : Below w.heap.size w w') : Four w' := by
  obtain ⟨⟨a1, h1⟩, ⟨a2, h2⟩, ⟨a4, h4⟩, ⟨a5, h5⟩⟩ := h
  exact ⟨⟨a1, cell_later h1 hb (Nat.le_refl _)⟩, ⟨a2, cell_later h2 hb (Nat.le_refl _)⟩, ⟨a4, cell_later h4 hb (Nat.le_refl _)⟩, ⟨a5, cell_later h5 hb (Nat.le_refl _)⟩⟩

theorem rr_yes (b : List UInt8) (k x : Int) (z : Nat) (w : World) (h : readR b = some (k, x, z)) (hl : b.length ≤ 9000000000000000000) :
    Calls Tryd.prog 38 #[.string (bs b)] w fun e w' => e = .returned (.tuple #[.agg #[.int .i64 k, .int .i64 x], .int .i64 (z : Int), .nilIface]) ∧ Below w.heap.size w w' := by
  rcases b with _ | ⟨m, _ | ⟨n, r⟩⟩
  · simp [readR] at h
  · simp [readR] at h
  · by_cases hm : m = 45
    · subst hm
      by_cases hr : n.toNat + 4 ≤ r.length
      · obtain ⟨c, s, t, rfl, hc, hs, e1, e2⟩ := readR_parts n r hr
        rcases c with _ | ⟨kb, c⟩
        · rw [readR_two, e1] at h; simp [readC] at h
        · rw [readR_good n kb c s t hc hs] at h
          split at h
          · rename_i hg
            obtain ⟨g1, g2, g3⟩ := hg
            simp only [Option.some.injEq, Prod.mk.injEq] at h
            obtain ⟨rfl, rfl, rfl⟩ := h
            have hn := n.toNat_lt
            have hcl : c.length ≤ 300 := by simp at hc; omega
            have ht : t.length ≤ 9000000000000000000 := by simp at hl; omega
            have key := rr_good n (kb :: c) s t w hc hs g1 (kb.toNat : Int) (rt c) (fun w1 => by have := rec_good kb c w1 g2 g3 hcl; rw [(goodTx_num c g3).1] at this; exact this) ht
            refine key.mono ?_
            rintro e w' ⟨rfl, hb⟩
            refine ⟨?_, hb⟩
            rw [show ((n.toNat + 6 : Nat) : Int) = 2 + (n.toNat : Int) + 4 from by omega]
          · cases h
      · simp [readR_two, hr] at h
    · simp [readR_two, hm] at h

theorem ErrRet.any {w w' : World} {e : Ending} {p : Value} {a : Addr} (h : ErrRet w w' e p a) : ∃ a, ErrRet w w' e p a := ⟨a, h⟩

theorem rr_no (b : List UInt8) (w : World) (hF : Four w) (h : readR b = none) (hl : b.length ≤ 9000000000000000000) :
    Calls Tryd.prog 38 #[.string (bs b)] w fun e w' => ErrRet3 w w' e := by
  rcases b with _ | ⟨m, _ | ⟨n, r⟩⟩
  · refine rr_measure [] w fun w1 hb => ?_
    obtain ⟨a, h1⟩ := (hF.later hb).v1
    exact (measure_empty_v 45 a w1 h1).mono fun _ _ h => h.any
  · by_cases hm : m = 45
    · subst hm
      refine rr_measure [45] w fun w1 hb => ?_
      obtain ⟨a, h1⟩ := (hF.later hb).v1
      exact (measure_one_v 45 45 a w1 h1 (by decide)).mono fun _ _ h => h.any
    · refine rr_measure [m] w fun w1 hb => ?_
      obtain ⟨a, h1⟩ := (hF.later hb).v2
      exact (measure_magic_v 45 m [] a w1 h1 (by rw [bne_iff_ne]; intro e; exact hm (UInt8.toNat_inj.1 (by simpa using Int.ofNat.inj e)))).mono fun _ _ h => h.any
  · by_cases hm : m = 45
    · subst hm
      by_cases hr : n.toNat + 4 ≤ r.length
      · obtain ⟨c, s, t, rfl, hc, hs, e1, e2⟩ := readR_parts n r hr
        have ht : t.length ≤ 9000000000000000000 := by simp at hl; omega
        have hn := n.toNat_lt
        by_cases hsum : sumL (45 :: n :: c) = s
        · refine rr_form n c s t w hc hs hsum (fun w1 hb => ?_) ht
          obtain ⟨a, h5⟩ := (hF.later hb).v5
          rcases c with _ | ⟨kb, c⟩
          · exact (rec_empty a w1 h5).mono fun _ _ h => h.any
          · have hcl : c.length ≤ 300 := by simp at hc; omega
            rw [readR_good n kb c s t hc hs] at h
            cases hk : kindB (kb.toNat : Int)
            · exact (rec_kind kb c a w1 h5 hk).mono fun _ _ h => h.any
            · cases hg : goodTx c
              · exact (rec_tx kb c a w1 h5 hk hg hcl).mono fun _ _ h => h.any
              · simp [hsum, hk, hg] at h
        · obtain ⟨a, h4⟩ := hF.v4
          exact rr_sum n c s t a w h4 hc hs hsum ht
      · refine rr_measure (45 :: n :: r) w fun w1 hb => ?_
        obtain ⟨a, h1⟩ := (hF.later hb).v1
        exact (measure_short_v 45 45 n r a w1 h1 (by decide) (by omega)).mono fun _ _ h => h.any
    · refine rr_measure (m :: n :: r) w fun w1 hb => ?_
      obtain ⟨a, h1⟩ := (hF.later hb).v2
      exact (measure_magic_v 45 m (n :: r) a w1 h1 (by rw [bne_iff_ne]; intro e; exact hm (UInt8.toNat_inj.1 (by simpa using Int.ofNat.inj e)))).mono fun _ _ h => h.any
end Go.Proofs.YtfpojgljgbgkkaaDoor
