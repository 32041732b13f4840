/-
  accordlaw.Scans.
-/
import Derived.Test.YtfpojgljgbgkkaaDoorBk3
namespace Go.Proofs.YtfpojgljgbgkkaaDoor
open Go.RowKit

theorem Bk.below {B : Nat} {w w' : World} {kb n : Nat} {Us : List Value} {Cs : List Nat} (h : Bk B w kb n Us Cs) (hb : Below w.heap.size w w') : Bk B w' kb n Us Cs := by
  obtain ⟨⟨Rv, Nv, h1, h2, h3⟩, h4, h5, h6, h7, h8⟩ := h
  refine ⟨⟨Rv, Nv, by rw [hb.block _ (block_lt h1)]; exact h1, ownsRow_below h2 hb (Nat.le_refl _), ownsRow_below h3 hb (Nat.le_refl _)⟩, h4, h5, fun i hi hi2 => ?_, h7, h8⟩
  exact (h6 i hi hi2).rec fun k c fr hk => by rw [hb.block _ (block_lt hk)]; exact hk
theorem Lp.toBk {B B2 : Nat} {w0 w : World} {kb c hm m L j : Nat} {v : Value} (h : Lp B B2 w0 kb c hm m L j v w) (hB : B ≤ kb) (hf : L + j ≤ 1000) : ∃ Us Cs, Bk B w kb c Us Cs ∧ Us.length = L + j := by
  obtain ⟨⟨Rv, Nv, Us, Cs, rows, lists, hlen, hUL, hsm, -⟩, -⟩ := h
  exact ⟨Us, Cs, ⟨⟨Rv, Nv, rows.hb, rows.hR, by rw [← hlen]; exact rows.hN⟩, hB, hlen, lists, hsm, by omega⟩, hUL⟩
theorem Bk.sep {B : Nat} {w : World} {kb n : Nat} {Us : List Value} {Cs : List Nat} (h : Bk B w kb n Us Cs) : ∀ i (_ : i < Us.length) g m' cp, Us[i] = .slice (some ⟨g, 0, none⟩) m' cp → m' ≠ 0 → g < w.heap.size := by
  intro i hi g m' cp he h0
  obtain ⟨p, n', cp', hu, -, hc⟩ := h.lists i hi (by rw [h.len]; exact hi)
  rw [he] at hu
  injection hu with e1 e2 e3
  subst e2
  rcases hc with hc | ⟨g', e1', hh⟩
  · exact absurd hc h0
  · rw [← e1] at e1'
    injection e1' with e1'
    injection e1' with e1'
    rw [e1']
    exact hh.lt
theorem own_frm {w w' : World} {base B2 n size : Nat} {v : Value} {xs : List Value} (h : w.ownsRow base 59 size v n xs) (hv : ∀ g, v.ownBlock = some g → g < B2) (hk : ∀ (k : Nat) (c' : Array Value) (fr : Nat × Nat), k < B2 → w.heap[k]? = some (Obj.cells c' 59 fr) → w'.heap[k]? = some (Obj.cells c' 59 fr)) : w'.ownsRow base 59 size v n xs := by
  refine ⟨h.1, ?_⟩
  rcases h.2 with h2 | ⟨g, cap, cur, rfl, hb, hh, r⟩
  · exact .inl h2
  · exact .inr ⟨g, cap, cur, rfl, hb, hk g cur _ (hv g rfl) hh, r⟩

set_option maxRecDepth 100000 in
set_option maxHeartbeats 4000000 in
theorem scans_any (b : List UInt8) (again : Int) (w : World) (hF : Five w) (hl : b.length ≤ 1048576) (ha0 : -9223372036854775808 ≤ again) (ha1 : again ≤ 9223372036854775807) :
    Calls Tryd.prog 4 #[.string (bs b), .int .i64 again] w fun e w' => e = .returned (.bool true) ∧ Below w.heap.size w w' := by
  have HF : Hid (Five w) := hF
  clear hF
  go_enter Tryd.func4, Tryd.ntmps4
  go_wp2_with fail
  refine (begun_any w HF.out).mono ?_
  rintro e w1 ⟨rfl, hb1⟩
  have hz1 := hb1.size
  go_wp2_with fail
  refine (refScan_any b w1 hl).mono ?_
  rintro e w2 ⟨l, a, v, hE, hown, hb2, rfl⟩
  have hz2 := hb2.size
  have HE : Hid (Ends b l a) := hE
  have hll : l.length ≤ 1000000 := by
    obtain ⟨m, h1, _⟩ := hE
    have := stepsN_len h1
    omega
  have hbw : Below w.heap.size w w2 := hb1.trans (hb2.mono hz1)
  have hown' := ownsRow_base hown (base' := w.heap.size) hz1
  clear hE hown hb1 hb2
  go_wp2_with fail
  have bk0 : Bk w.heap.size (w2.alloc (.cells #[.int .i64 0, .slice none 0 0, .slice none 0 0, .slice none 0 0, .slice none 0 0] 40)) w2.heap.size 0 [] [] :=
    ⟨⟨_, _, heap_alloc_new w2 _, World.ownsRow_nil _ _ _ _, World.ownsRow_nil _ _ _ _⟩, by omega, rfl, fun i h => absurd h (by simp), fun i h => absurd h (by simp), by simp⟩
  have BK0 : Hid (Bk w.heap.size (w2.alloc (.cells #[.int .i64 0, .slice none 0 0, .slice none 0 0, .slice none 0 0, .slice none 0 0] 40)) w2.heap.size 0 [] []) := bk0
  have own0 := hown'.alloc (.cells #[.int .i64 0, .slice none 0 0, .slice none 0 0, .slice none 0 0, .slice none 0 0] 40)
  have bel0 := hbw.alloc (by omega) (.cells #[.int .i64 0, .slice none 0 0, .slice none 0 0, .slice none 0 0, .slice none 0 0] 40)
  clear bk0 hown' hbw
  go_loopw [9] (fun i wr => ∃ (j : Nat) (Us : List Value) (Cs : List Nat), j ≤ 22 ∧ i = .int .i64 j ∧ Hid (Bk w.heap.size wr w2.heap.size j Us Cs) ∧ Us.length = 4 * j ∧ wr.ownsRow w.heap.size 59 2 v l.length (flatR l) ∧ Below w.heap.size w wr) (fun i _ => 22 - (intOf i).toNat)
  case atStart => exact ⟨0, [], [], by omega, rfl, BK0, rfl, own0, bel0⟩
  case round =>
    clear BK0 own0 bel0
    obtain ⟨j, Us, Cs, hj, rfl, hbk, hUl, own, bel⟩ := hrel
    go_wp2_with fail
    refine (lawPick_any again 20 wr ha0 ha1 (by decide) (by decide)).mono ?_
    rintro e w3 ⟨p, hp, rfl, rfl⟩
    by_cases hlt : (j : Int) < 2 + (p : Int)
    · have hFr : Five wr := HF.out.later bel
      have hzr := bel.size
      go_wp2_with fail
      refine (scan_any b wr hFr hl).mono ?_
      rintro e wa ⟨l', a', v', hE', hown', hba, rfl⟩
      obtain ⟨rfl, rfl⟩ := HE.out.same hE'
      have hza := hba.size
      have owna := ownsRow_below own hba (Nat.le_refl _)
      have bela : Below w.heap.size w wa := bel.trans (hba.mono hzr)
      have bka := hbk.out.below hba
      have BKA : Hid (Bk w.heap.size wa w2.heap.size j Us Cs) := bka
      have SEP : Hid _ := hbk.out.sep
      have hvB : ∀ g, v.ownBlock = some g → g < wr.heap.size := fun g hg => (own.lt g hg).2
      have HVB : Hid (∀ g, v.ownBlock = some g → g < wr.heap.size) := hvB
      clear bka hbk own bel hba hE' hFr hvB
      go_wp2_with fail
      refine (sameR_yes l' v v' _ _ wa owna hown' (by omega)).mono ?_
      rintro e wb ⟨rfl, hbb⟩
      have hzb := hbb.size
      have ownb := ownsRow_below owna hbb (Nat.le_refl _)
      have ownb' := ownsRow_below hown' hbb (Nat.le_refl _)
      have belb : Below w.heap.size w wb := bela.trans (hbb.mono (by omega))
      have BKB : Hid (Bk w.heap.size wb w2.heap.size j Us Cs) := BKA.out.below hbb
      clear BKA owna hown' bela hbb
      go_wp2_with fail
      refine (records_any w.heap.size wr.heap.size wb w2.heap.size j Us Cs BKB.out v' l' ownb' hll (by omega) (by omega) hzr (by omega) SEP.out).mono ?_
      rintro e wc ⟨rfl, v2, hLp⟩
      have hkB := BKB.out.hB
      obtain ⟨Us2, Cs2, bkc, hUl2⟩ := hLp.toBk hkB (by omega)
      have ownc := own_frm ownb HVB.out hLp.frm
      have belc : Below w.heap.size w wc := belb.trans hLp.bel
      have BKC : Hid (Bk w.heap.size wc w2.heap.size (j + 1) Us2 Cs2) := bkc
      have hzc := belc.size
      clear bkc hLp BKB ownb ownb' belb SEP HVB
      go_wp2_with fail
      refine (still_any _ wc _ _ Us2 Cs2 BKC.out (by omega)).mono ?_
      rintro e wd ⟨rfl, hbd⟩
      have ownd := ownsRow_below ownc hbd (Nat.le_refl _)
      have beld : Below w.heap.size w wd := belc.trans (hbd.mono hzc)
      have BKD : Hid (Bk w.heap.size wd w2.heap.size (j + 1) Us2 Cs2) := BKC.out.below hbd
      clear BKC ownc belc hbd
      go_wp2_with fail
      go_roundw
      case rel => exact ⟨j + 1, Us2, Cs2, by omega, by go_num, BKD, by omega, ownd, beld⟩
      case measure => simp [intOf]; omega
    · go_wp2_with fail
      go_ret
      exact ⟨rfl, bel⟩
end Go.Proofs.YtfpojgljgbgkkaaDoor
