import Derived.Test.YtfpojgljgbgkkaaGreatDoorPL
/-
  The game goes on: drained.
-/
namespace Go.Proofs.YtfpojgljgbgkkaaGreatDoor
open Go.RowKit
open Go.ChangeMaps (setBlock)

attribute [local go_sem ↓] Go.wp_at_zero Go.wp_at_succ

theorem GameAt.noted {w0 w w' : World} {gb : Nat} {P : ClP} {ss : List Int} {wait : Int} {nv : Value} {c : Cl} {cs cs' : Array Value} (h : GameAt w0 w gb P ss wait nv c cs) (ho : Only [gb] w w') (hg : GameRow w' gb P.cb (ss.length : Int) cs') : GameAt w0 w' gb P ss wait nv c cs' := by
  have hout : ∀ k ∈ P.all nv, k ∉ [gb] := fun k hk hm => h.out (by simp only [List.mem_cons, List.not_mem_nil, or_false] at hm; exact hm ▸ hk)
  refine ⟨h.cl.only ho (fun k hk => hout k (by simp [ClP.all, hk])) (fun g hg => hout g (by simp [ClP.all, hg])), hg, h.out, h.new, h.only.trans2 ho (fun x hx => .inr ?_)⟩
  simp only [List.mem_cons, List.not_mem_nil, or_false] at hx
  rw [hx]; exact h.new.1
theorem GameAt.turned {w0 w w' : World} {gb : Nat} {P : ClP} {ss : List Int} {wait : Int} {nv nv' : Value} {c c' : Cl} {cs : Array Value} (h : GameAt w0 w gb P ss wait nv c cs) (ho : Only (P.all nv) w w') (hf : Fresh w nv nv') (hc : ClAt w' P ss wait nv' c') : GameAt w0 w' gb P ss wait nv' c' cs := by
  have hgl := block_lt h.game.row
  have hz := h.only.size
  refine ⟨hc, h.game.only ho h.out, ?_, ⟨h.new.1, ?_⟩, h.only.trans2 ho (fun x hx => .inr (h.new.2 x hx))⟩
  · intro hm
    simp only [ClP.all, List.mem_append, Option.mem_toList] at hm
    rcases hm with hm | hm
    · exact h.out (by simp [ClP.all, hm])
    · rcases hf with e | ⟨g, e, hg⟩
      · exact h.out (by simp only [ClP.all, List.mem_append, Option.mem_toList]; exact .inr (e ▸ hm))
      · rw [e] at hm; cases hm; omega
  · intro k hk
    simp only [ClP.all, List.mem_append, Option.mem_toList] at hk
    rcases hk with hk | hk
    · exact h.new.2 k (by simp [ClP.all, hk])
    · rcases hf with e | ⟨g, e, hg⟩
      · exact h.new.2 k (by simp only [ClP.all, List.mem_append, Option.mem_toList]; exact .inr (e ▸ hk))
      · rw [e] at hk; cases hk; omega
theorem Rel.mono {ss : List Int} {nov : List Bool} {b b' : Nat} {c : Cl} {a : AS} (h : Rel ss nov b c a) (hb : b ≤ b') : Rel ss nov b' c a :=
  { h with txt := ⟨Nat.le_trans h.txt.1 hb, fun v hv => Nat.le_trans (h.txt.2 v hv) hb⟩ }
theorem Rel.mild {ss : List Int} {nov : List Bool} {b : Nat} {c : Cl} {a : AS} (h : Rel ss nov b c a) (h6 : ss.length ≤ 6) : ∀ m ∈ c.net, mild m := by
  rw [h.net]
  intro m hm
  obtain ⟨⟨k, i⟩, hq, rfl⟩ := List.mem_map.1 hm
  obtain ⟨x1, x2, x3⟩ := h.idx _ hq
  simp only at x1 x2 x3
  unfold msgOf
  split <;> exact mild_mk (by simp only; omega)
theorem Rel.len {ss : List Int} {nov : List Bool} {b : Nat} {c : Cl} {a : AS} (h : Rel ss nov b c a) : c.net.length = a.net.length ∧ c.net.length ≤ 100 := by
  have := h.nl
  rw [h.net, List.length_map]
  exact ⟨rfl, this⟩
theorem chosen_le (b : Int → Bool) {N : Nat} (h : N ≤ 6) : (chosen b N).length ≤ 1000 := by
  have := chosen_len b N
  omega
theorem sends_le (ss : List Int) (k f t : Int) (c : CS) (h6 : ss.length ≤ 6) : (c.sends ss k f t).length ≤ 1000 := by
  unfold CS.sends
  repeat' split
  all_goals first
    | (simp; done)
    | (unfold CS.yesM; repeat' split
       all_goals first | (simp; done) | (rw [toAll_len]; exact chosen_le _ h6))
    | (unfold CS.noM; repeat' split
       all_goals first | (simp; done) | (rw [toAll_len]; exact chosen_le _ h6))
    | (unfold CS.answers; repeat' split
       all_goals first | (simp; done) | (rw [toAll_len]; simp))
theorem psends_le (n sort k t : Int) (p : PS) : (p.sends n sort k t).length ≤ 1000 := by
  unfold PS.sends PS.says PS.acks
  repeat' split
  all_goals simp

/-- A message of the run arrives: the cluster turns, and so does its like in small. -/
theorem deliver_sim {w0 w : World} {gb : Nat} {P : ClP} {ss : List Int} {wait : Int} {nv : Value} {c : Cl} {cs : Array Value} {out : Nat} {ask nov : List Bool} {b : Nat} {a a' : AS} (hG : GameAt w0 w gb P ss wait nv c cs) (hR : Rel ss nov b c a) (hb : b ≤ 100000) (hs : astep out ask nov a = some a') (h6 : ss.length ≤ 6)
    (hask : ∀ i : Nat, i < ss.length → ask.getD i false = !presB (ss.getD i 0) (out : Int)) :
    Calls Tryz.prog 24 #[.pointer (some ⟨P.cb, 0, none⟩), .int .i64 0] w fun e w' => ∃ nv' c', e = .returned (.int .i64 0) ∧ GameAt w0 w' gb P ss wait nv' c' cs ∧ Rel ss nov (b + 30) c' a' := by
  have hs0 := hs
  match hn : a.net with
  | [] => simp [astep, hn] at hs
  | (k, i) :: rest =>
    obtain ⟨hi, hk1, hk6⟩ := hR.idx (k, i) (by rw [hn]; exact List.mem_cons_self)
    simp only at hi hk1 hk6
    have hm0 : c.net[0]? = some (msgOf (k, i)) := by rw [hR.net, hn]; rfl
    obtain ⟨v, hv⟩ : ∃ v, c.ps[i]? = some v := ⟨_, List.getElem?_eq_getElem (by rw [hR.lp]; exact hi)⟩
    obtain ⟨s, hsi⟩ : ∃ s, ss[i]? = some s := ⟨_, List.getElem?_eq_getElem hi⟩
    have hgd : ss.getD i 0 = s := by rw [List.getD, hsi]; rfl
    have htv := hR.txt.2 v (List.mem_of_getElem? hv)
    have hasks : ask.getD i false = !presB s (out : Int) := by rw [hask i hi, hgd]
    have hlen := hR.len.2
    by_cases hto : k = 2 ∨ k = 3 ∨ k = 6
    · have hmsg : msgOf (k, i) = ((k : Int), (i : Int) + 1, 0, 1) := by simp [msgOf, hto]
      rw [hmsg] at hm0
      refine (deliver0_any P ss wait nv c 0 (k : Int) ((i : Int) + 1) 1 w hG.cl (by omega) hm0 hlen (by omega) (by omega) (by have := hR.txt.1; omega) hR.nv (sends_le ss _ _ _ _ h6)).mono ?_
      rintro e w' ⟨nv', rfl, hO, hF, hC⟩
      refine ⟨nv', _, rfl, hG.turned hO hF hC, ?_⟩
      rcases hto with rfl | rfl | rfl
      · exact sim_yes hR hn hs0 hask
      · exact sim_no hR hn hs0 hask
      · exact sim_ack hR hn hs0
    · have hmsg : msgOf (k, i) = ((k : Int), 0, (i : Int) + 1, 1) := by simp [msgOf, hto]
      rw [hmsg] at hm0
      refine (deliverS_any P ss wait nv c 0 (k : Int) 0 1 i w hG.cl (by omega) hm0 hlen (by omega) (by omega) hi v s hv hsi (by omega) (psends_le _ _ _ _ _)).mono ?_
      rintro e w' ⟨nv', rfl, hO, hF, hC⟩
      refine ⟨nv', _, rfl, hG.turned hO hF hC, ?_⟩
      have hk : k = 1 ∨ k = 4 ∨ k = 5 := by omega
      rcases hk with rfl | hk
      · exact sim_prepare hR hn hs0 hv s
      · exact sim_settle hR hk hn hs0 hv hasks

set_option maxRecDepth 100000 in
set_option maxHeartbeats 8000000 in
theorem drained_any {w0 : World} {gb : Nat} {P : ClP} {ss : List Int} {wait : Int} {nv : Value} {c : Cl} {cs : Array Value} {out : Nat} {ask nov : List Bool} {a0 af : AS} {a : Nat → Addr} (w : World) (hS : Sent w0 a) (hG : GameAt w0 w gb P ss wait nv c cs) (hR : Rel ss nov 30 c a0) (hrun : arun out ask nov 60 a0 = some af) (h6 : ss.length ≤ 6)
    (hask : ∀ i : Nat, i < ss.length → ask.getD i false = !presB (ss.getD i 0) (out : Int)) :
    Calls Tryz.prog 14 #[.pointer (some ⟨gb, 0, none⟩)] w fun e w' => ∃ nv' c' cs', e = .returned (.tuple #[]) ∧ GameAt w0 w' gb P ss wait nv' c' cs' ∧ Rel ss nov 3000 c' af := by
  have HS : Hid (Sent w0 a) := hS
  have HG : Hid _ := hG
  have HR : Hid _ := hR
  have HRUN : Hid _ := hrun
  have HASK : Hid _ := hask
  clear hS hG hR hrun hask
  go_enter Tryz.func14, Tryz.ntmps14
  go_wp2_with fail
  go_loopw [2] (fun i wr => ∃ (j fuel : Nat) (nv : Value) (c : Cl) (cs : Array Value) (aj : AS), i = .int .i64 j ∧ j + fuel = 60 ∧ Hid (GameAt w0 wr gb P ss wait nv c cs) ∧ Hid (Rel ss nov (30 + 30 * j) c aj) ∧ Hid (arun out ask nov fuel aj = some af)) (fun i _ => 61 - (intOf i).toNat)
  case atStart => exact ⟨0, 60, nv, c, cs, a0, rfl, rfl, HG.out, HR.out, HRUN.out⟩
  case round =>
    clear HG HR HRUN
    obtain ⟨j, fuel, nv, c, cs, aj, rfl, hjf, HG, HR, HRUN⟩ := hrel
    have hjl : (j : Int) < 2000 := by omega
    have HU : Hid _ := under_any P ss wait nv c gb (ss.length : Int) cs w0 wr HS.out HG.out.only HG.out.cl HG.out.game HR.out.len.2 (HR.out.mild h6) HG.out.new.1
    by_cases hemp : aj.net = []
    · have hl0 : c.net.length = 0 := by rw [HR.out.len.1, hemp]; rfl
      have haf : aj = af := by
        have := HRUN.out
        cases fuel <;> simpa [arun, hemp] using this
      have hlz : ((c.net.length : Int) == 0) = true := by rw [hl0]; rfl
      have HAF : Hid (aj = af) := haf
      clear haf hl0 hemp
      go_wp2_with fail
      refine Calls.mono HU.out ?_
      rintro e w2 ⟨rfl, hO2, hG2⟩
      have R : Hid (GameAt w0 w2 gb P ss wait nv c (noteAll cs c.net) ∧ Rel ss nov 3000 c af) := ⟨HG.out.noted hO2 hG2, HAF.out ▸ HR.out.mono (by omega)⟩
      clear hO2 hG2
      go_wp2_with fail
      exact bodyPost_ret (v := .tuple #[]) (by simp [results, Tryz.results14, go_sem]) rfl ⟨nv, c, _, rfl, R.out⟩
    · obtain ⟨fuel', a', hfu, hst, hrn⟩ : ∃ fuel' a', fuel = fuel' + 1 ∧ astep out ask nov aj = some a' ∧ arun out ask nov fuel' a' = some af := by
        have := HRUN.out
        cases fuel with
        | zero => simp [arun, hemp] at this
        | succ fuel' =>
          simp only [arun, List.isEmpty_iff, hemp, if_false] at this
          split at this
          · exact ⟨fuel', _, rfl, by assumption, this⟩
          · cases this
      have hlz : ((c.net.length : Int) == 0) = false := by
        rw [beq_eq_false_iff_ne]
        intro e
        have e2 : aj.net.length = 0 := by rw [← HR.out.len.1]; exact_mod_cast e
        exact hemp (List.length_eq_zero_iff.1 e2)
      have HST : Hid (astep out ask nov aj = some a') := hst
      have HRN : Hid (arun out ask nov fuel' a' = some af) := hrn
      clear hst hrn hemp HRUN
      go_wp2_with fail
      refine Calls.mono HU.out ?_
      rintro e w2 ⟨rfl, hO2, hG2⟩
      have hga := HG.out.noted hO2 hG2
      obtain ⟨q0, -, -, -⟩ := hga.game.cells
      have HD : Hid _ := deliver_sim hga HR.out (by omega) HST.out h6 HASK.out
      clear hO2 hG2 hga
      go_wp2_with fail
      refine Calls.mono HD.out ?_
      rintro e w3 ⟨nv', c', rfl, hG3, hR3⟩
      obtain ⟨-, -, q864, qf⟩ := hG3.game.cells
      have HG4 : Hid (GameAt w0 (w3.setCell ⟨gb, 864, none⟩ (.bool false)) gb P ss wait nv' c' (noteAll cs c.net)) := hG3.noted ((Only.refl _ _).setCell (.inl (by simp)) _) hG3.game.keep
      have HR4 : Hid (Rel ss nov (30 + 30 * (j + 1)) c' a') := hR3.mono (by omega)
      clear hG3 hR3
      go_wp2_with fail
      go_roundw
      case rel => exact ⟨j + 1, fuel', nv', c', _, a', by go_num, by omega, HG4, HR4, HRN⟩
      case measure => simp [intOf]; omega
end Go.Proofs.YtfpojgljgbgkkaaGreatDoor

/-
  The statement Plain, walked.
-/
namespace Go.Proofs.YtfpojgljgbgkkaaGreatDoor
open Go.RowKit
open Go.ChangeMaps (setBlock)

attribute [local go_sem ↓] Go.wp_at_zero Go.wp_at_succ

theorem check_run {N out : Nat} {ask nov : List Bool} (h : checkA N out ask nov = true) : ∃ af, arun out ask nov 60 (ainit N) = some af ∧ goodA out af = true := by
  unfold checkA at h
  split at h
  · exact ⟨_, by assumption, h⟩
  · cases h
/-- What all say at the end. -/
theorem end_says {ss : List Int} {nov : List Bool} {b out : Nat} {c : Cl} {af : AS} (hR : Rel ss nov b c af) (hg : goodA out af = true) (ho : out = 4 ∨ out = 5) : ∀ i : Nat, i ≤ ss.length → c.outcome i 1 = if out = 4 then 2 else 3 := by
  simp only [goodA, Bool.and_eq_true, beq_iff_eq, List.all_eq_true] at hg
  obtain ⟨⟨hk, hoc⟩, hkc⟩ := hg
  have hrec : toldI ((recA out : Nat) : Int) = if out = 4 then 2 else 3 := by rcases ho with rfl | rfl <;> rfl
  intro i hi
  match i with
  | 0 =>
    show CS.outcome 1 c.co = _
    have hO : c.co.O = [] := by rw [hR.oc, hoc]; rfl
    have hne : af.kc ≠ 0 := by rw [hkc]; rcases ho with rfl | rfl <;> decide
    rw [CS.outcome, hO, hR.kc hne, hkc]
    exact hrec
  | i + 1 =>
    obtain ⟨v, hv⟩ : ∃ v, c.ps[i]? = some v := ⟨_, List.getElem?_eq_getElem (by rw [hR.lp]; omega)⟩
    show (match c.ps[i]? with | some v => toldI (lookI ((i : Int) + 1) 1 v.p.L) | none => 0) = _
    rw [hv]
    show toldI (lookI ((i : Int) + 1) 1 v.p.L) = _
    have hlt : i < af.kp.length := by rw [hR.lk]; omega
    have hkp : af.kp.getD i 0 = recA out := by
      rw [List.getD, List.getElem?_eq_getElem hlt]
      exact hk _ (List.getElem_mem hlt)
    rw [hR.kp i v hv, hkp]
    exact hrec
/-- The run from the beginning, in small. -/
theorem plain_run (ss : List Int) (h1 : 1 ≤ ss.length) (h6 : ss.length ≤ 6) (r : Nat) (hr : r < ss.length) (yes : Bool) : ∃ (out : Nat) (ask nov : List Bool) (af : AS), out = (if yes then 4 else 5) ∧ (∀ i : Nat, i < ss.length → ask.getD i false = !presB (ss.getD i 0) (out : Int)) ∧ Rel ss nov 30 ((Cl.first ss).vote r 1 yes) (ainit ss.length) ∧ arun out ask nov 60 (ainit ss.length) = some af ∧ goodA out af = true := by
  have hask : ∀ out : Nat, ∀ i : Nat, i < ss.length → (ss.map fun s => !presB s (out : Int)).getD i false = !presB (ss.getD i 0) (out : Int) := by
    intro out i hi
    simp [List.getD, hi]
  cases yes
  · obtain ⟨af, ha, hg⟩ := check_run (checked_no (ss.map fun s => !presB s ((5 : Nat) : Int)) (by simpa using h1) (by simpa using h6) r (by simpa using hr))
    rw [List.length_map] at ha
    refine ⟨5, _, _, af, rfl, hask 5, rel_first ss h6 r hr false _ ?_, ha, hg⟩
    intro i hi
    rw [getD_range _ _ _ _ hi]; simp
  · obtain ⟨af, ha, hg⟩ := check_run (checked_yes (ss.map fun s => !presB s ((4 : Nat) : Int)) (by simpa using h1) (by simpa using h6))
    rw [List.length_map] at ha
    refine ⟨4, _, _, af, rfl, hask 4, rel_first ss h6 r hr true _ ?_, ha, hg⟩
    intro i hi
    rw [List.getD, List.getElem?_replicate, if_pos hi]; simp

set_option maxRecDepth 100000 in
set_option maxHeartbeats 8000000 in
theorem plain_walk (ao : Option Addr) (n cap : Nat) (no votes : Int) {a : Nat → Addr} (w : World) (hS : Sent w a) (hn0 : -9223372036854775808 ≤ no) (hn1 : no ≤ 9223372036854775807) (hv0 : -9223372036854775808 ≤ votes) (hv1 : votes ≤ 9223372036854775807) (hn : n ≤ 9223372036854775807)
    (hts : ∀ k, k < n → ∃ tb toff z, ao = some ⟨tb, toff, none⟩ ∧ tb < w.heap.size ∧ w.cell? ⟨tb, toff + k, none⟩ = some (.int .i64 z) ∧ -9223372036854775808 ≤ z ∧ z ≤ 9223372036854775807) :
    Calls Tryz.prog 4 #[.slice ao n cap, .int .i64 no, .int .i64 votes] w fun e w' => e = .returned (.bool true) ∧ Below w.heap.size w w' := by
  have HS : Hid (Sent w a) := hS
  have HST : Hid _ := started_any ao n cap 19 w hS (by omega) (by omega) hn hts
  have HPV : Hid (∀ w : World, Calls Tryz.prog 12 #[.int .i64 votes, .int .i64 3] w fun e w' => e = .returned (.int .i64 (pickI votes 3)) ∧ w = w') := fun w => keepPick_any votes 3 w hv0 hv1 (by omega) (by omega)
  have HPN : Hid (∀ (N : Nat) (w : World), 1 ≤ N → N ≤ 6 → Calls Tryz.prog 12 #[.int .i64 no, .int .i64 (N : Int)] w fun e w' => e = .returned (.int .i64 (pickI no (N : Int))) ∧ w = w') := fun N w h1 h6 => keepPick_any no (N : Int) w hn0 hn1 (by omega) (by omega)
  generalize pickI votes 3 = pv at *
  clear hS hts hn0 hn1 hv0 hv1
  go_enter Tryz.func4, Tryz.ntmps4
  go_wp2_with fail
  refine Calls.mono HST.out ?_
  rintro e w1 ⟨gb, P, ss, nv, cs, rfl, h1, h6, -, hG1⟩
  obtain ⟨q0, q1, q8, -⟩ := hG1.game.cells
  have HG1 : Hid _ := hG1
  clear hG1 HST
  go_wp2_with fail
  refine Calls.mono (HPV.out w1) ?_
  rintro e w2 ⟨rfl, rfl⟩
  go_wp2_with fail
  refine Calls.mono (HPN.out ss.length w1 h1 h6) ?_
  rintro e w2 ⟨rfl, rfl⟩
  have hpb := pickI_bd no (ss.length : Int) (by omega)
  obtain ⟨r, hr⟩ : ∃ r : Nat, pickI no (ss.length : Int) = (r : Int) := ⟨(pickI no (ss.length : Int)).toNat, by omega⟩
  rw [hr] at hpb ⊢
  have hrl : r < ss.length := by omega
  clear hpb hr HPN HPV
  have hcomm : (1 : Int) + (r : Int) = (r : Int) + 1 := by omega
  generalize hyes : decide (pv > 0) = yes at *
  have HV0 := voteOk_any P ss (1 + pickI 19 20) nv (Cl.first ss) r 1 yes w1 HG1.out.cl (by omega) hrl (by omega) (by omega)
  rw [← hcomm] at HV0
  have HV : Hid _ := HV0
  clear HV0
  obtain ⟨out, ask, nov, af, hout, hask, hRel, hrun, hgood⟩ := plain_run ss h1 h6 r hrl yes
  have HASK : Hid _ := hask
  have HREL : Hid _ := hRel
  have HRUN : Hid _ := hrun
  have HGOOD : Hid _ := hgood
  have HOUT : Hid (out = if yes then 4 else 5) := hout
  clear hask hRel hrun hgood hout
  clear hcomm
  go_wp2_with fail
  refine Calls.mono HV.out ?_
  rintro e w2 ⟨rfl, hO2, hC2⟩
  have hG2 := HG1.out.turned (hO2.mono (fun k hk => by simp [ClP.all, hk])) (Fresh.refl _ _) hC2
  have HD : Hid _ := drained_any w2 HS.out hG2 HREL.out HRUN.out h6 HASK.out
  clear hO2 hC2 hG2 HV HG1
  go_wp2_with fail
  refine Calls.mono HD.out ?_
  rintro e w3 ⟨nv3, c3, cs3, rfl, hG3, hR3⟩
  obtain ⟨r0, r1, r8, -⟩ := hG3.game.cells
  have HG3 : Hid _ := hG3
  have HR3 : Hid _ := hR3
  have hbg : c3.begun = 1 := hR3.bg
  have HSAY : Hid (∀ i : Nat, i ≤ ss.length → c3.outcome i 1 = if yes then 2 else 3) := by
    intro i hi
    have := end_says hR3 HGOOD.out (by rw [HOUT.out]; cases yes <;> simp) i hi
    rw [this, HOUT.out]
    cases yes <;> rfl
  clear hG3 hR3 HD HREL HRUN HASK HGOOD HOUT q0 q1 q8
  cases yes
  all_goals
    go_wp2_with fail
    go_loopw [12] (fun i wr => ∃ j : Nat, j ≤ ss.length + 1 ∧ i = .int .i64 j ∧ Hid (Only [] w3 wr)) (fun i _ => ss.length + 1 - (intOf i).toNat)
    case atStart => exact ⟨0, by omega, rfl, Only.refl _ _⟩
    case round =>
      obtain ⟨j, hj, rfl, HO⟩ := hrel
      obtain ⟨t0, t1, -, -⟩ := (HG3.out.game.only HO.out (by simp)).cells
      by_cases hle : j ≤ ss.length
      · have e1 : ((j : Int) ≤ (ss.length : Int)) := by omega
        have hcl := HG3.out.cl.only0 HO.out
        have hsay := HSAY.out j hle
        have HC : Hid (Calls Tryz.prog 15 #[.pointer (some ⟨P.cb, 0, none⟩), .int .i64 (j : Int), .int .i64 1] wr fun e w' => e = .returned (.tuple #[.int .i64 (c3.outcome j 1), .int .i64 0]) ∧ Only [] wr w') := by
          match j with
          | 0 => exact outcome0_any P ss _ nv3 c3 1 wr hcl (by omega) (by omega)
          | i + 1 => exact outcomeS_any P ss _ nv3 c3 i 1 wr hcl (by omega) (by omega) (by omega) (by omega)
        rw [hsay] at HC
        clear hcl hsay
        go_wp2_with fail
        refine Calls.mono HC.out ?_
        rintro e w4 ⟨rfl, hO4⟩
        have HO4 : Hid (Only [] w3 w4) := HO.out.trans hO4
        clear hO4
        go_wp2_with fail
        go_roundw
        case rel => exact ⟨j + 1, by omega, by go_num, HO4⟩
        case measure => simp [intOf]; omega
      · have e1 : ¬ ((j : Int) ≤ (ss.length : Int)) := by omega
        go_wp2_with fail
        go_ret
        exact ⟨rfl, (HG3.out.only.trans HO.out).below⟩
end Go.Proofs.YtfpojgljgbgkkaaGreatDoor
