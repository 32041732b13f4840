/-
  Books.records.
-/
import Derived.Test.YtfpojgljgbgkkaaDoorBk2
namespace Go.Proofs.YtfpojgljgbgkkaaDoor
open Go.RowKit

theorem infoSl : (Tryd.prog.info? 31).map (fun i => (i.zero, i.size, i.bytes)) = some (some (.slice none 0 0), 1, 24) := by kernel_rfl
theorem infoInt : (Tryd.prog.info? 3).map (fun i => (i.zero, i.size, i.bytes)) = some (some (.int .i64 0), 1, 8) := by kernel_rfl
theorem cell_one_at (W : World) (a : Value) (t : TypeId) (n : Nat) (hn : n = W.heap.size) : ∀ j u, [a][j]? = some u → (W.alloc (.cells #[a] t)).cell? ((⟨n, 0, none⟩ : Addr).add j) = some u := by
  subst hn
  exact World.news_of_block (heap_alloc_new W (.cells #[a] t))

set_option maxRecDepth 100000 in
set_option maxHeartbeats 4000000 in
theorem records_any (B B2 : Nat) (w : World) (kb n : Nat) (Us : List Value) (Cs : List Nat) (hk : Bk B w kb n Us Cs) (v : Value) (l : List (Int × Int)) (hown : w.ownsRow B2 59 2 v l.length (flatR l)) (hl : l.length ≤ 1000000) (hn : n ≤ 900) (hfew : Us.length ≤ 900) (hB2 : B ≤ B2) (hB2w : B2 ≤ w.heap.size)
    (hsep : ∀ i (h : i < Us.length) g m' cp, Us[i] = .slice (some ⟨g, 0, none⟩) m' cp → m' ≠ 0 → g < B2) :
    Calls Tryd.prog 15 #[.pointer (some ⟨kb, 0, none⟩), v] w fun e w' => e = .returned (.tuple #[]) ∧ ∃ v', Lp B B2 w kb (n + 1) w.heap.size l.length Us.length 4 v' w' := by
  obtain ⟨⟨Rv, Nv, hb, hR, hN⟩, hBk, hlen, hlists, hsmall, hfew'⟩ := hk
  have hkb := block_lt hb
  have k0 : w.cell? ⟨kb, 0, none⟩ = some (.int .i64 n) := by rw [cell_of_row _ _ _ _ _ _ hb]; rfl
  have kf : ∀ o, w.frozen? ⟨kb, o, none⟩ = false := fun o => frozen_of_row _ _ _ _ _ hb
  have rows0 : Rows2 B w kb n Rv Nv Us Cs := ⟨hb, hR, by rw [hlen]; exact hN⟩
  have SEP : Hid (∀ i (h : i < Us.length) g m' cp, Us[i] = .slice (some ⟨g, 0, none⟩) m' cp → m' ≠ 0 → g < B2) := hsep
  have SMALL : Hid (∀ i (h : i < Cs.length), Cs[i] ≤ 1000) := hsmall
  have c59 := cellsRec
  obtain ⟨p, cap, rfl⟩ := slice_form hown
  have hvB : ∀ g, (Value.slice p l.length cap).ownBlock = some g → B2 ≤ g ∧ g < w.heap.size := fun g hg => hown.lt g hg
  have HVB : Hid (∀ g, (Value.slice p l.length cap).ownBlock = some g → B2 ≤ g ∧ g < w.heap.size) := hvB
  clear hsep hsmall hvB
  -- the world behind the count and the mark
  obtain ⟨rows1, rec1, bel1⟩ := rows_count rows0 hBk (n + 1)
  have key : ∃ X, X = (w.setCell ⟨kb, 0, none⟩ (.int .i64 ((n : Int) + 1))).alloc (.cells #[.int .i64 (-((n : Int) + 1)), .int .i64 0] 59) ∧ Rows2 B X kb (n + 1) Rv Nv Us Cs ∧ RecKept w X ∧ Below B w X ∧ X.heap[w.heap.size]? = some (.cells #[.int .i64 (-((n + 1 : Nat) : Int)), .int .i64 0] 59 (0, 0)) := by
    have hsz : (w.setCell ⟨kb, 0, none⟩ (.int .i64 ((n : Int) + 1))).heap.size = w.heap.size := by simp [World.setCell]
    have ka := Keeps.alloc 59 (w.setCell ⟨kb, 0, none⟩ (.int .i64 ((n + 1 : Nat) : Int))) (.cells #[.int .i64 (-((n : Int) + 1)), .int .i64 0] 59)
    refine ⟨_, rfl, rows1.kept ka, fun k c fr hk => ?_, bel1.alloc (by simp [World.setCell]; omega) _, ?_⟩
    · have h1 := rec1 k c fr hk
      rw [Below.heap_alloc _ _ k (by simpa [World.setCell] using block_lt h1)]
      exact h1
    · have := heap_alloc_new (w.setCell ⟨kb, 0, none⟩ (.int .i64 ((n : Int) + 1))) (.cells #[.int .i64 (-((n : Int) + 1)), .int .i64 0] 59)
      rw [hsz] at this
      exact this
  obtain ⟨X, hX, rowsX, recX, belX, markX⟩ := key
  have ownX := own_rec hown recX
  have LX : Hid (Lists X Us Cs) := Lists.rec hlists recX
  clear rows1 rec1 bel1 rows0 hlists hR hN hb hown
  have HX : Hid (X = (w.setCell ⟨kb, 0, none⟩ (.int .i64 ((n : Int) + 1))).alloc (.cells #[.int .i64 (-((n : Int) + 1)), .int .i64 0] 59)) := hX
  clear hX
  go_enter Tryd.func15, Tryd.ntmps15
  go_wp2
  rw [← HX.out]
  clear k0 kf HX
  go_loopw [5] (fun i wr => ∃ j : Nat, j ≤ l.length ∧ i = .int .i64 j ∧ X.grownBy wr (Value.slice p l.length cap).ownBlock ∧ wr.ownsRow B2 59 2 (.slice p l.length cap) l.length (flatR (List.replicate j (-((n + 1 : Nat) : Int), 0) ++ l.drop j))) (fun i _ => l.length - (intOf i).toNat)
  case atStart => exact ⟨0, by omega, rfl, World.grownBy.refl _ _, ownX⟩
  case round =>
    obtain ⟨j, hj, rfl, hgr, hownr⟩ := hrel
    have markr : wr.heap[w.heap.size]? = some (.cells #[.int .i64 (-((n + 1 : Nat) : Int)), .int .i64 0] 59 (0, 0)) := by
      rw [hgr.block _ (block_lt markX) (fun e => by have := (HVB.out _ e.symm).2; omega)]; exact markX
    by_cases hlt : j < l.length
    · obtain ⟨g, capg, he, hgB, hgl⟩ := hownr.form (by omega)
      injection he with e1 e2 e3
      subst e1
      subst e3
      have hll : (List.replicate j (-((n + 1 : Nat) : Int), (0 : Int)) ++ l.drop j).length = l.length := by simp; omega
      have d0 : ∃ u, wr.cell? ⟨g, j * 2, none⟩ = some u := ⟨_, by rw [hownr.cellAt _ (by omega), flatR_get0 _ j (by omega)]⟩
      have d1 : ∃ u, wr.cell? ⟨g, j * 2 + 1, none⟩ = some u := ⟨_, by rw [hownr.cellAt _ (by omega), flatR_get1 _ j (by omega)]⟩
      obtain ⟨u0, d0⟩ := d0
      obtain ⟨u1, d1⟩ := d1
      have hfz : ∀ o, wr.frozen? ⟨g, o, none⟩ = false := fun o => by
        rcases hownr.2 with ⟨h, _⟩ | ⟨g', cap', cur, h, _, hh, _⟩
        · cases h
        · injection h with h; injection h with h; injection h with h; subst h
          exact frozen_of_row _ _ _ _ _ hh
      have m0 : wr.cell? ⟨w.heap.size, 0, none⟩ = some (.int .i64 (-((n + 1 : Nat) : Int))) := by rw [cell_of_row _ _ _ _ _ _ markr]; rfl
      have m1 : wr.cell? ⟨w.heap.size, 1, none⟩ = some (.int .i64 0) := by rw [cell_of_row _ _ _ _ _ _ markr]; rfl
      have hix0 : (0 : Int) ≤ (j : Int) := by omega
      have hix1 : (j : Int) < (l.length : Int) := by omega
      have GOAL : Hid (X.grownBy ((wr.setCell ⟨g, j * 2, none⟩ (.int .i64 (-((n + 1 : Nat) : Int)))).setCell ⟨g, j * 2 + 1, none⟩ (.int .i64 0)) (some g) ∧ ((wr.setCell ⟨g, j * 2, none⟩ (.int .i64 (-((n + 1 : Nat) : Int)))).setCell ⟨g, j * 2 + 1, none⟩ (.int .i64 0)).ownsRow B2 59 2 (.slice (some ⟨g, 0, none⟩) l.length cap) l.length (flatR (List.replicate (j + 1) (-((n + 1 : Nat) : Int), 0) ++ l.drop (j + 1)))) := by
        refine ⟨⟨hgr.os, hgr.tape, hgr.output, by simpa [World.setCell] using hgr.size, fun k hk hne => ?_⟩, ?_⟩
        · have hkg : k ≠ g := fun e => hne (by rw [e])
          rw [Below.heap_setCell _ _ _ _ (by simpa using hkg), Below.heap_setCell _ _ _ _ (by simpa using hkg)]
          exact hgr.block k hk hne
        · have := ownsRow_set (ownsRow_set hownr (j * 2) (.int .i64 (-((n + 1 : Nat) : Int)))) (j * 2 + 1) (.int .i64 0)
          rw [flatR_set, set_marks l j _ hlt] at this
          exact this
      clear hgr hownr ownX markr
      generalize (n + 1 : Nat) = c at *
      go_wp2
      go_roundw
      case rel => exact ⟨j + 1, by omega, by go_num, GOAL.out.1, GOAL.out.2⟩
      case measure => simp [intOf]; omega
    · obtain rfl : j = l.length := by omega
      have lp0 : Lp B B2 w kb (n + 1) w.heap.size l.length Us.length 0 (.slice p l.length cap) wr := by
        have hXs : w.heap.size < X.heap.size := block_lt markX
        refine ⟨⟨Rv, Nv, Us, Cs, rowsX.kept (Keeps.of_grown ownX hgr), lists_other LX.out SEP.out (fun g hg => (HVB.out g hg).1) hgr, hlen, rfl, SMALL.out, ?_⟩, ?_, markr, fun e => by have := (HVB.out _ e).2; omega, Below.grown belX hgr (by omega) (fun k hk => by have := (HVB.out k hk).1; omega), fun k c' fr hk h => ?_, by have := hgr.size; omega⟩
        · intro i h g m' cp he hg
          by_cases h0 : m' = 0
          · omega
          · have h1 := SEP.out i h g m' cp he h0
            have h2 := (HVB.out g hg).1
            omega
        · rw [List.drop_length, List.append_nil] at hownr
          exact hownr
        · have h1 := recX k c' fr h
          rw [hgr.block k (block_lt h1) (fun e => by have := (HVB.out _ e.symm).1; omega)]
          exact h1
      have LP0 : Hid (Lp B B2 w kb (n + 1) w.heap.size l.length Us.length 0 (.slice p l.length cap) wr) := lp0
      clear lp0 hgr hownr markr ownX rowsX recX belX markX LX HVB SEP SMALL
      obtain ⟨i1, hi1, hz10, hz11, hz12⟩ := info_parts infoSl
      obtain ⟨i2, hi2, hz20, hz21, hz22⟩ := info_parts infoInt
      obtain ⟨i3, hi3, hz30, hz31, hz32⟩ := info_parts infoRec
      go_wp2
      go_loopw [1, 6] (fun vv kk wr2 => ∃ j : Nat, j ≤ 4 ∧ kk = .int .i64 j ∧ Hid (Lp B B2 w kb (n + 1) w.heap.size l.length Us.length j vv wr2)) (fun _ kk _ => 4 - (intOf kk).toNat)
      case atStart => exact ⟨0, by omega, rfl, LP0⟩
      case round =>
        clear LP0
        obtain ⟨j, hj, rfl, hLp⟩ := hrel
        by_cases hlt2 : j < 4
        · obtain ⟨⟨Rv, Nv, Us', Cs', rows, lists, hlen', hUL, hsm, hcaps⟩, own, mark, hne, bel, frm, hb2⟩ := hLp.out
          clear hLp
          obtain ⟨p', cap', rfl⟩ := slice_form own
          have ROWS : Hid (Rows2 B wr kb (n + 1) Rv Nv Us' Cs') := rows
          have LISTS : Hid (Lists wr Us' Cs') := lists
          have SM : Hid (∀ i (h : i < Cs'.length), Cs'[i] ≤ 1000) := hsm
          have CAPS : Hid (Caps Us' (.slice p' (l.length + j) cap') (l.length + j)) := hcaps
          have FRM : Hid (∀ (k : Nat) (c' : Array Value) (fr : Nat × Nat), k < B2 → w.heap[k]? = some (Obj.cells c' 59 fr) → wr.heap[k]? = some (Obj.cells c' 59 fr)) := frm
          have HUL : Hid (Us'.length = Us.length + j) := hUL
          have HLN : Hid (Cs'.length = Us'.length) := hlen'
          clear lists hsm hcaps frm rows hUL hlen'
          have hkl := block_lt ROWS.out.hb
          have k1 : wr.cell? ⟨kb, 1, none⟩ = some Rv := by rw [cell_of_row _ _ _ _ _ _ ROWS.out.hb]; rfl
          go_wp2_with (
            at_builtin
            refine wpList_append_lies _ rfl _ _ 35 rfl B 31 i1 (.slice none 0 0) 1 24 Tryd.underlying35 hi1 hz10 hz11 hz12 rfl (by decide) _ Us'.length Us' rfl (ROWS.out.hR.alloc _) ⟨wr.heap.size, 0, none⟩ 1 1 [.slice p' (l.length + j) cap'] rfl rfl (cell_one_at _ _ _ _ rfl) (fun x hx => by simp at hx; rw [hx]; rfl) (by decide) (by have := HUL.out; unfold maxLen; omega) (by have := HUL.out; omega) (by simp; omega) _ rfl ?_
            intro gR capR w1 hown1 hgrow1 hat1 hlt1
            clear hat1 hlt1
            have kb1 : w1.heap[kb]? = some (.cells #[.int .i64 ((n + 1 : Nat) : Int), Rv, Nv, .slice none 0 0, .slice none 0 0] 40 (0, 0)) := (Keeps.of_grown (ROWS.out.hR.alloc _) hgrow1).block _ _ _ _ ((Keeps.alloc 31 _ _).block _ _ _ _ ROWS.out.hb tne1) tne1
            have y1 : w1.cell? ⟨kb, 1, none⟩ = some Rv := by rw [cell_of_row _ _ _ _ _ _ kb1]; rfl
            have y2 : w1.frozen? ⟨kb, 1, none⟩ = false := frozen_of_row _ _ _ _ _ kb1)
          obtain ⟨rows2, rec2, bel2⟩ := rows_R (u := .slice p' (l.length + j) cap') ROWS.out hBk hown1 hgrow1
          have own2 := own_rec own rec2
          have LIST2 : Hid (Lists _ Us' Cs') := Lists.rec LISTS.out rec2
          have mark2 := rec2 _ _ _ mark
          have belw2 := bel.trans bel2
          have FRM2 : Hid (∀ (k : Nat) (c' : Array Value) (fr : Nat × Nat), k < B2 → w.heap[k]? = some (Obj.cells c' 59 fr) → _) := fun k c' fr hk h => rec2 _ _ _ (FRM.out k c' fr hk h)
          have hb22 : wr.heap.size ≤ (w1.setCell ⟨kb, 1, none⟩ (.slice (some ⟨gR, 0, none⟩) (Us'.length + 1) capR)).heap.size := bel2.size
          clear kb1 y1 y2 hown1 hgrow1 bel bel2 rec2 own mark FRM LISTS ROWS k1
          generalize (w1.setCell ⟨kb, 1, none⟩ (.slice (some ⟨gR, 0, none⟩) (Us'.length + 1) capR)) = w2 at *
          have ROWS2 : Hid _ := rows2
          clear rows2
          have k0 : w2.cell? ⟨kb, 0, none⟩ = some (.int .i64 ((n + 1 : Nat) : Int)) := by rw [cell_of_row _ _ _ _ _ _ ROWS2.out.hb]; rfl
          have k2 : w2.cell? ⟨kb, 2, none⟩ = some Nv := by rw [cell_of_row _ _ _ _ _ _ ROWS2.out.hb]; rfl
          have hkl2 := block_lt ROWS2.out.hb
          have CV : Hid (((n + 1 : Nat) : Int) = (n : Int) + 1) := rfl
          generalize (n + 1 : Nat) = c at *
          refine wp_region_held_drew (S := fun w' => w'.cell? ⟨kb, 0, none⟩ = some (.int .i64 (c : Int))) (by kernel_rfl) k0 (fun hHeld => ?_)
          refine takeD 0 44 (.pointer (some ⟨kb, 0, none⟩)) rfl rfl (by kernel_rfl) (by kernel_rfl) (by kernel_rfl) (fun _ _ _ h => h) (Or.inl ⟨by kernel_rfl, ?_⟩) (by assumption) ?_
          · intro w hSw; go_simp
          simp only [List.setIfInBounds_toArray, List.set_cons_zero, List.set_cons_succ]
          refine takeD 1 45 (.pointer (some ⟨kb, 0, none⟩)) rfl rfl (by kernel_rfl) (by kernel_rfl) (by kernel_rfl) (fun _ _ _ h => h) (Or.inl ⟨by kernel_rfl, ?_⟩) (by assumption) ?_
          · intro w hSw; go_simp
          simp only [List.setIfInBounds_toArray, List.set_cons_zero, List.set_cons_succ]
          refine takeD 2 46 (.pointer (some ⟨kb, 0, none⟩)) rfl rfl (by kernel_rfl) (by kernel_rfl) (by kernel_rfl) (fun _ _ _ h => h) (Or.inl ⟨by kernel_rfl, ?_⟩) (by assumption) ?_
          · intro w hSw; go_simp
          simp only [List.setIfInBounds_toArray, List.set_cons_zero, List.set_cons_succ]
          refine takeD 3 47 (.pointer (some ⟨kb, 2, none⟩)) rfl rfl (by kernel_rfl) (by kernel_rfl) (by kernel_rfl) (fun _ _ _ h => h) (Or.inl ⟨by kernel_rfl, ?_⟩) (by assumption) ?_
          · intro w hSw; go_simp
          simp only [List.setIfInBounds_toArray, List.set_cons_zero, List.set_cons_succ]
          refine takeD 5 49 (.pointer (some ⟨kb, 0, none⟩)) rfl rfl (by kernel_rfl) (by kernel_rfl) (by kernel_rfl) (fun _ _ _ h => h) (Or.inl ⟨by kernel_rfl, ?_⟩) (by assumption) ?_
          · intro w hSw; go_simp
          simp only [List.setIfInBounds_toArray, List.set_cons_zero, List.set_cons_succ]
          refine takeD 6 50 (.pointer (some ⟨kb, 0, none⟩)) rfl rfl (by kernel_rfl) (by kernel_rfl) (by kernel_rfl) (fun _ _ _ h => h) (Or.inl ⟨by kernel_rfl, ?_⟩) (by assumption) ?_
          · intro w hSw; go_simp
          simp only [List.setIfInBounds_toArray, List.set_cons_zero, List.set_cons_succ]
          refine takeD 7 51 (.pointer (some ⟨kb, 0, none⟩)) rfl rfl (by kernel_rfl) (by kernel_rfl) (by kernel_rfl) (fun _ _ _ h => h) (Or.inl ⟨by kernel_rfl, ?_⟩) (by assumption) ?_
          · intro w hSw; go_simp
          simp only [List.setIfInBounds_toArray, List.set_cons_zero, List.set_cons_succ]
          refine takeD 8 52 (.int .i64 (c : Int)) rfl rfl (by kernel_rfl) (by kernel_rfl) (by kernel_rfl) (fun _ _ _ h => h) (Or.inl ⟨by kernel_rfl, ?_⟩) (by assumption) ?_
          · intro w hSw; go_simp
          simp only [List.setIfInBounds_toArray, List.set_cons_zero, List.set_cons_succ]
          have k0a : ((w2.alloc (.cells #[.int .i64 (c : Int)] 3)).drew).cell? ⟨kb, 0, none⟩ = some (.int .i64 (c : Int)) := by simp only [World.cell?_drew]; rw [World.cell?_alloc_lt _ _ _ hkl2]; exact k0
          have k2a : ((w2.alloc (.cells #[.int .i64 (c : Int)] 3)).drew).cell? ⟨kb, 2, none⟩ = some Nv := by simp only [World.cell?_drew]; rw [World.cell?_alloc_lt _ _ _ hkl2]; exact k2
          refine wpAnyH_ready (rs := [4, 9]) (by kernel_rfl) (by simp) ?_
          refine (AllReadyH.cons rfl (fun K hK => ?ordA) (AllReadyH.cons rfl (fun K hK => ?ordB) AllReadyH.nil))
          case' ordA =>
            go_simp
            refine hK.out _ _ k0 (fun hHeld => ?_)
            clear hK K
            refine wpAnyH_ready (rs := [9]) (by kernel_rfl) (by simp) ?_
            refine (AllReadyH.cons rfl (fun K hK => ?_) AllReadyH.nil)
            go_simp
            refine hK.out _ _ k0a (fun hHeld => ?_)
            clear hK K
          case' ordB =>
            go_simp
            refine hK.out _ _ k0a (fun hHeld => ?_)
            clear hK K
            refine wpAnyH_ready (rs := [4]) (by kernel_rfl) (by simp) ?_
            refine (AllReadyH.cons rfl (fun K hK => ?_) AllReadyH.nil)
            go_simp
            refine hK.out _ _ k0a (fun hHeld => ?_)
            clear hK K
          all_goals
            refine wpAnyH_ready (rs := [10]) (by kernel_rfl) (by simp) ?_
            refine (AllReadyH.cons rfl (fun K hK => ?_) AllReadyH.nil)
            refine step_append_lies _ rfl (.tmp 48) (.tmp 53) 36 rfl B 3 i2 (.int .i64 0) 1 8 Tryd.underlying36 hi2 hz20 hz21 hz22 rfl (by decide) Nv Cs'.length (Cs'.map fun c => .int .i64 (c : Nat)) rfl (ROWS2.out.hN.alloc _).drew ⟨w2.heap.size, 0, none⟩ 1 1 [.int .i64 (c : Int)] rfl rfl (World.news_of_block (heap_alloc_new w2 (.cells #[.int .i64 (c : Int)] 3))) (fun x hx => by simp at hx; rw [hx]; rfl) (by decide) (by have := HUL.out; have := HLN.out; unfold maxLen; omega) (by have := HUL.out; have := HLN.out; omega) (by simp; omega) _ rfl ?_
            intro gN capN w3 hown3 hgrow3 hat3 hlt3
            clear hat3 hlt3
            have kb3 : w3.heap[kb]? = some (.cells #[.int .i64 (c : Int), .slice (some ⟨gR, 0, none⟩) (Us'.length + 1) capR, Nv, .slice none 0 0, .slice none 0 0] 40 (0, 0)) := (Keeps.of_grown (ROWS2.out.hN.alloc _).drew hgrow3).block _ _ _ _ ((Keeps.alloc 3 _ _).block _ _ _ _ ROWS2.out.hb tne2) tne2
            have z0 : w3.cell? ⟨kb, 0, none⟩ = some (.int .i64 (c : Int)) := by rw [cell_of_row _ _ _ _ _ _ kb3]; rfl
            have z2 : w3.cell? ⟨kb, 2, none⟩ = some Nv := by rw [cell_of_row _ _ _ _ _ _ kb3]; rfl
            have zf : ∀ o, w3.frozen? ⟨kb, o, none⟩ = false := fun o => frozen_of_row _ _ _ _ _ kb3
            go_simp
            refine hK.out _ _ z0 (fun hHeld => ?_)
            clear hK K
            refine takeD 11 55 (.pointer (some ⟨kb, 0, none⟩)) rfl rfl (by kernel_rfl) (by kernel_rfl) (by kernel_rfl) (fun _ _ _ h => h) (Or.inl ⟨by kernel_rfl, ?_⟩) (by assumption) ?_
            · intro w hSw; go_simp
            simp only [List.setIfInBounds_toArray, List.set_cons_zero, List.set_cons_succ]
            refine takeD 12 56 (.pointer (some ⟨kb, 2, none⟩)) rfl rfl (by kernel_rfl) (by kernel_rfl) (by kernel_rfl) (fun _ _ _ h => h) (Or.inl ⟨by kernel_rfl, ?_⟩) (by assumption) ?_
            · intro w hSw; go_simp
            simp only [List.setIfInBounds_toArray, List.set_cons_zero, List.set_cons_succ]
            refine wpAnyH_ready (rs := [13]) (by kernel_rfl) (by simp) ?_
            refine (AllReadyH.cons rfl (fun K hK => ?_) AllReadyH.nil)
            go_simp
            refine hK.out _ _ ?_ (fun hHeld => ?_)
            · rw [World.cell?_setCell_other _ _ _ _ (by simp)]; exact z0
            clear hK K
            refine wpAnyH_done (by kernel_rfl) ?_ _
            obtain ⟨rows4, rec4, bel4⟩ := rows_N (c := c) ROWS2.out hBk (W1 := (w2.alloc (.cells #[.int .i64 (c : Int)] 3)).drew) rfl rfl rfl rfl hown3 hgrow3
            have own4 := own_rec own2 rec4
            have LIST4 : Hid (Lists _ (Us' ++ [.slice p' (l.length + j) cap']) (Cs' ++ [c])) := Lists.push (Lists.rec LIST2.out rec4) HLN.out (lst_own own4 (by omega))
            have mark4 := rec4 _ _ _ mark2
            have belw4 := belw2.trans bel4
            have FRM4 : Hid (∀ (k : Nat) (c' : Array Value) (fr : Nat × Nat), k < B2 → w.heap[k]? = some (Obj.cells c' 59 fr) → _) := fun k c' fr hk h => rec4 _ _ _ (FRM2.out k c' fr hk h)
            have hs4 : w2.heap.size ≤ (w3.setCell ⟨kb, 2, none⟩ (.slice (some ⟨gN, 0, none⟩) (Cs'.length + 1) capN)).heap.size := bel4.size
            clear kb3 z0 z2 zf hown3 hgrow3 bel4 rec4 own2 mark2 FRM2 LIST2 ROWS2 k0 k2 k0a k2a belw2
            generalize (w3.setCell ⟨kb, 2, none⟩ (.slice (some ⟨gN, 0, none⟩) (Cs'.length + 1) capN)) = w4 at *
            have ROWS4 : Hid _ := rows4
            have CAPS4 : Hid (Caps (Us' ++ [.slice p' (l.length + j) cap']) (.slice p' (l.length + j) cap') (l.length + j)) := Caps.push CAPS.out rfl
            have hmlt := block_lt mark4
            have m0 : w4.cell? ⟨w.heap.size, 0, none⟩ = some (.int .i64 (-(c : Int))) := by rw [cell_of_row _ _ _ _ _ _ mark4]; rfl
            have m1 : w4.cell? ⟨w.heap.size, 1, none⟩ = some (.int .i64 0) := by rw [cell_of_row _ _ _ _ _ _ mark4]; rfl
            have HNE : Hid _ := hne
            have MARK4 : Hid _ := mark4
            have BEL4 : Hid _ := belw4
            clear rows4 CAPS hne mark4 belw4
            go_wp2_with (
              at_builtin
              refine wpList_append_keeps _ rfl _ _ 31 rfl B2 59 i3 (.agg #[.int .i64 0, .int .i64 0]) 2 16 Tryd.underlying31 hi3 hz30 hz31 hz32 rfl (by decide) _ (l.length + j) (mk c (l.length + j)) rfl (own4.alloc _) ⟨w4.heap.size, 0, none⟩ 1 1 [.int .i64 (-(c : Int)), .int .i64 0] rfl rfl (cell_two_at _ _ _ _ _ rfl) (fun x hx => by simp at hx; rcases hx with rfl | rfl <;> rfl) (by decide) (by unfold maxLen; omega) (by omega) (by simp; omega) ?_
              intro g5 cap5 w5 hown5 hgrow5 hat5
              have O5 : Hid _ := hown5
              have G5 : Hid _ := hgrow5
              have A5 : Hid _ := hat5
              clear hown5 hgrow5 hat5)
            go_roundw
            case rel =>
              refine ⟨j + 1, by omega, by go_num, ?_⟩
              obtain ⟨lists5, caps5⟩ := lists_grow (by simp; exact HLN.out) LIST4.out CAPS4.out own4 rfl O5.out G5.out A5.out
              have hcn : c ≤ 1000 := by have := CV.out; omega
              obtain rfl : c = n + 1 := by have := CV.out; omega
              refine ⟨⟨_, _, _, _, (ROWS4.out.kept (Keeps.alloc _ _ _)).kept (Keeps.of_grown (own4.alloc _) G5.out), lists5, ?_, ?_, ?_, caps5⟩, ?_, ?_, ?_, ?_, ?_, ?_⟩
              · have := HLN.out; simp; exact this
              · have := HUL.out; simp; omega
              · intro i h
                by_cases hi : i < Cs'.length
                · rw [List.getElem_append_left hi]; exact SM.out i hi
                · rw [List.getElem_append_right (by omega)]; simp only [List.getElem_singleton]; exact hcn
              · have := O5.out
                rw [← mk_succ] at this
                exact this
              · rw [G5.out.block _ (by simp; omega) (fun e => HNE.out e.symm), Below.heap_alloc _ _ _ hmlt]
                exact MARK4.out
              · intro e
                have hg : g5 = w.heap.size := by simpa [Value.ownBlock] using e
                rcases A5.out with h | ⟨h, _⟩
                · rw [hg] at h; exact HNE.out h
                · simp at h; omega
              · exact Below.grown (BEL4.out.alloc (by omega) _) G5.out (by simp; omega) (fun k hk => by have := (own4.lt k hk).1; omega)
              · intro k c' fr hk h
                have h1 := FRM4.out k c' fr hk h
                rw [G5.out.block k (by have := block_lt h1; simp; omega) (fun e => by have := (own4.lt k e.symm).1; omega), Below.heap_alloc _ _ _ (block_lt h1)]
                exact h1
              · have := G5.out.size
                simp at this
                omega
            case measure => simp [intOf]; omega
        · obtain rfl : j = 4 := by omega
          go_wp2
          exact bodyPost_end (v := .tuple #[]) (by simp [results, Tryd.results15, go_sem]) rfl ⟨rfl, _, hLp.out⟩
end Go.Proofs.YtfpojgljgbgkkaaDoor
