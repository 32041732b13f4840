/-
  The statement on Turned: its row, its tied card.
-/
import Derived.Test.YtfpojgljgbgkkaaDoorTurnMA
import Derived.Test.YtfpojgljgbgkkaaDoorTurnMB
import Derived.Test.YtfpojgljgbgkkaaDoorTurnNA
import Derived.Test.YtfpojgljgbgkkaaDoorTurnNB
import Derived.Test.YtfpojgljgbgkkaaDoorLaid
import Derived.Test.YtfpojgljgbgkkaaDoorTie
import Derived.Test.YtfpojgljgbgkkaaDoorCards
import Derived.ProofKit
import Derived.LaidMore
import Derived.OpenShut
import Derived.Stop.Joined
import Derived.ShutString
namespace Go.Proofs.YtfpojgljgbgkkaaDoor
open Go.ChangeShapes Go.WideShapes Go.ChangeAt Go.RowKit Go.ChangeMaps

theorem turned_all (kind fr to tx at' : Int) (ao : Option Addr) (n cap : Nat) (ml : List UInt8) {a : Nat → Addr} (w : World) (hS : Sent w a)
    (hk0 : -9223372036854775808 ≤ kind) (hk1 : kind ≤ 9223372036854775807) (hf0 : -9223372036854775808 ≤ fr) (hf1 : fr ≤ 9223372036854775807) (ht0 : -9223372036854775808 ≤ to) (ht1 : to ≤ 9223372036854775807)
    (hx0 : -9223372036854775808 ≤ tx) (hx1 : tx ≤ 9223372036854775807) (ha0 : -9223372036854775808 ≤ at') (ha1 : at' ≤ 9223372036854775807) (hml : ml.length ≤ 140737488355328) (hn : n ≤ 9223372036854775807)
    (hts : ∀ k, k < n → ∃ tb toff z, ao = some ⟨tb, toff, none⟩ ∧ tb < w.heap.size ∧ w.cell? ⟨tb, toff + k, none⟩ = some (.int .i64 z) ∧ -9223372036854775808 ≤ z ∧ z ≤ 9223372036854775807) :
    Calls Tryd.prog 5 #[.int .i64 kind, .int .i64 fr, .int .i64 to, .int .i64 tx, .int .i64 at', .slice ao n cap, .string (bs ml)] w fun e w' => e = .returned (.bool true) ∧ Below w.heap.size w w' := by
  by_cases hA : pickI at' ((msgL (1 + pickI kind 7) (pickI fr 7) (pickI to 7) (1 + pickI tx 16383)).length : Int) < ((msgL (1 + pickI kind 7) (pickI fr 7) (pickI to 7) (1 + pickI tx 16383)).length : Int) - 4
  · by_cases hm : ml = []
    · exact turned_none_A kind fr to tx at' ao n cap ml w hS hk0 hk1 hf0 hf1 ht0 ht1 hx0 hx1 ha0 ha1 hml hm (fun j0 h => by omega) hn hts
    · exact turned_more_A kind fr to tx at' ao n cap ml w hS hk0 hk1 hf0 hf1 ht0 ht1 hx0 hx1 ha0 ha1 hml hm (fun j0 h => by omega) hn hts
  · by_cases hm : ml = []
    · exact turned_none_B kind fr to tx at' ao n cap ml w hS hk0 hk1 hf0 hf1 ht0 ht1 hx0 hx1 ha0 ha1 hml hm (fun j0 h => by omega) hn hts
    · exact turned_more_B kind fr to tx at' ao n cap ml w hS hk0 hk1 hf0 hf1 ht0 ht1 hx0 hx1 ha0 ha1 hml hm (fun j0 h => by omega) hn hts

theorem door_met_t (os : Os) (args : Array Value) : laidMetH Tryd.prog Rows.turnedRow.laid ((World.doorLaid Tryd.prog 400 os).forCall (fun _ _ => 0) ⟨#[], args, []⟩).memory :=
  laidMetH_of_parts3 (fuel := 8) (laidMet_of_run' 8 (by kernel_rfl) (by kernel_rfl)) (by kernel_rfl) (by kernel_rfl)
theorem int_bd {n : Int} (h : (Lit.int .i64 n).wf = true) : -9223372036854775808 ≤ n ∧ n ≤ 9223372036854775807 := bounds_i64 h
theorem cellsInt : Tryd.prog.cellsOf 3 = 1 := by kernel_rfl
theorem laidOut : laidOutB Tryd.prog = true := by kernel_rfl

set_option maxRecDepth 100000 in
theorem turned_lifted (os : Os) (started : os.Started) (H : Type) (enc : TypeId × Value → H) :
    ReturnsInHanded {} Tryd.checked os 5 .any (fun w args => (Rows.turnedSpec.pre enc Tryd.prog Tryd.f5 [] false w args ∧ laidMetH Tryd.prog Rows.turnedRow.laid w) ∧ sizedMet enc Tryd.prog Tryd.f5 (OpenSpec.ofChange Rows.turnedSpec) false w args)
      (Rows.turnedSpec.post enc Tryd.prog Tryd.f5 false true false false) := by
  refine returnsInHanded_of_change_and (C := Tryd.checked) (X := fun w _ => laidMetH Tryd.prog Rows.turnedRow.laid w) (fun _ _ _ hh h => h.of_heap hh) Tryd.own started (by kernel_rfl) Tryd.func5
    (ChangeSpec.witness_shaped (enc := enc) (C := Tryd.checked) (os := os) (X := fun w _ => laidMetH Tryd.prog Rows.turnedRow.laid w) false (World.doorLaid Tryd.prog 400 os) #[.int .i64 0, .int .i64 0, .int .i64 0, .int .i64 0, .int .i64 0, .slice none 0 0, .string ByteArray.empty] 8 rfl (World.shaped_of_RefB (by kernel_rfl) (by kernel_rfl)) (by kernel_rfl) (by kernel_rfl) (by kernel_rfl) (door_met_t os _)) ?_
  intro W base args ds gs before hval0 hW _ hsz hL _
  have hval : ∀ (j : Nat) t v, Tryd.f5.params[j]? = some t → args[j]? = some v → Value.okWide Tryd.prog W .any base t v := hval0
  have hW' := hW
  obtain ⟨p, q, hA0, hV, rfl, hfz, hnd⟩ := hW
  have hA : DataW.TrodAll enc Tryd.prog W 0 (fun _ => true) true Tryd.f5.params.toList args.toList ds p := hA0
  rw [Tryd.params5] at hA hval
  obtain ⟨v0, vs0, d0, ds0, p0, q0, hargs, rfl, rfl, h0, r0⟩ := trodAll_cons hA
  obtain ⟨v1, vs1, d1, ds1, p1, q1, rfl, rfl, rfl, h1, r1⟩ := trodAll_cons r0
  obtain ⟨v2, vs2, d2, ds2, p2, q2, rfl, rfl, rfl, h2, r2⟩ := trodAll_cons r1
  obtain ⟨v3, vs3, d3, ds3, p3, q3, rfl, rfl, rfl, h3, r3⟩ := trodAll_cons r2
  obtain ⟨v4, vs4, d4, ds4, p4, q4, rfl, rfl, rfl, h4, r4⟩ := trodAll_cons r3
  obtain ⟨v5, vs5, d5, ds5, p5, q5, rfl, rfl, rfl, h5, r5⟩ := trodAll_cons r4
  obtain ⟨v6, vs6, d6, ds6, p6, q6, rfl, rfl, rfl, h6, r6⟩ := trodAll_cons r5
  obtain ⟨rfl, rfl, rfl⟩ := trodAll_nil r6
  obtain rfl : args = #[v0, v1, v2, v3, v4, v5, v6] := by
    apply Array.ext'
    simpa using hargs
  obtain ⟨rfl, rfl⟩ := trodVars_none hV
  obtain ⟨kind, rfl, rfl, rfl, w0⟩ := open_int Tryd.underlying3 (hval 0 3 v0 rfl rfl) h0
  obtain ⟨fr, rfl, rfl, rfl, w1⟩ := open_int Tryd.underlying3 (hval 1 3 v1 rfl rfl) h1
  obtain ⟨to, rfl, rfl, rfl, w2⟩ := open_int Tryd.underlying3 (hval 2 3 v2 rfl rfl) h2
  obtain ⟨tx, rfl, rfl, rfl, w3⟩ := open_int Tryd.underlying3 (hval 3 3 v3 rfl rfl) h3
  obtain ⟨at', rfl, rfl, rfl, w4⟩ := open_int Tryd.underlying3 (hval 4 3 v4 rfl rfl) h4
  obtain ⟨s, rfl, rfl, rfl, hs⟩ := open_string Tryd.underlying9 (hval 6 9 v6 rfl rfl) h6
  obtain ⟨ao, len, cap, rfl⟩ := okWide_slice Tryd.underlying36 (hval 5 36 v5 rfl rfl)
  have h5' := h5
  obtain ⟨a, hS⟩ := sent_of_laid hL
  have hml : s.data.toList.length ≤ 140737488355328 := by
    have h := sized_string hsz (j := 6) (t := 9) (bytes := s.data.toList) (by simp [Tryd.params5]) (by simp)
    have := reachBytes_lt
    omega
  simp only [List.append_nil, List.nil_append] at hW'
  have hlt : ∀ x ∈ p5, x.block < W.heap.size := fun x hx => hW'.lt x (by simpa using hx)
  have hts : len ≤ 9223372036854775807 ∧ ∀ k, k < len → ∃ tb toff z, ao = some ⟨tb, toff, none⟩ ∧ tb < W.heap.size ∧ W.cell? ⟨tb, toff + k, none⟩ = some (.int .i64 z) ∧ -9223372036854775808 ≤ z ∧ z ≤ 9223372036854775807 := by
    obtain ⟨fuel, hf⟩ := h5
    rcases open_ints Tryd.underlying36 Tryd.underlying3 cellsInt hf with ⟨hcs, _⟩ | ⟨ad, len', cap', zs, hcs, _, hl, hm, hz, _, hcell, hwz⟩
    · simp [Value.cells] at hcs
      obtain ⟨_, rfl, _⟩ := hcs
      exact ⟨by omega, fun k hk => by omega⟩
    · simp [Value.cells] at hcs
      obtain ⟨rfl, rfl, rfl⟩ := hcs
      unfold maxLen at hm
      refine ⟨by omega, fun k hk => ?_⟩
      simp at hz
      obtain ⟨tb, toff, rfl, hc⟩ := ints_at hcell (by omega)
      have hk' : k < zs.length := by omega
      have hck := hc k hk'
      have hw := int_bd (hwz (zs.getD k 0) (by simp [List.getElem?_eq_getElem hk']))
      exact ⟨tb, toff, _, rfl, cell_block hck, hck, hw.1, hw.2⟩
  refine (turned_all kind fr to tx at' ao len cap s.data.toList W hS (int_bd w0).1 (int_bd w0).2 (int_bd w1).1 (int_bd w1).2 (int_bd w2).1 (int_bd w2).2 (int_bd w3).1 (int_bd w3).2 (int_bd w4).1 (int_bd w4).2 hml hts.1 hts.2).mono fun e W' ⟨he, hb⟩ => ?_
  subst he
  have e1 : Rows.turnedSpec.fn H ([.lit (.int .i64 kind), .lit (.int .i64 fr), .lit (.int .i64 to), .lit (.int .i64 tx), .lit (.int .i64 at'), d5, .lit (.string s.data.toList)] ++ []) = { results := [.lit (.bool true)], args := [.lit (.int .i64 kind), .lit (.int .i64 fr), .lit (.int .i64 to), .lit (.int .i64 tx), .lit (.int .i64 at'), d5, .lit (.string s.data.toList)] } := by simp [Rows.turnedSpec]
  refine ⟨_, rfl, _, _, _, [], p5, [], hW', ?_, ?_, ?_, hb.frame _, fun h => by cases h⟩
  · rw [e1]; exact trodAll_mk1 (shut_bool Tryd.underlying4 true)
  · rw [e1]
    have hk := Below.trod laidOut (by kernel_rfl) (of_decide_eq_true (by kernel_rfl)) h5' hb hlt
    have := trodAll_cons_mk (shut_int Tryd.underlying3 w0) (trodAll_cons_mk (shut_int Tryd.underlying3 w1) (trodAll_cons_mk (shut_int Tryd.underlying3 w2) (trodAll_cons_mk (shut_int Tryd.underlying3 w3) (trodAll_cons_mk (shut_int Tryd.underlying3 w4) (trodAll_cons_mk hk (trodAll_cons_mk (shut_string Tryd.underlying9 hs) trodAll_mk0))))))
    simp only [List.append_nil, List.nil_append] at this
    exact this
  · rw [e1]; rfl

theorem turned_holds : Rows.TurnedSaid :=
  OpenClaim.holds_of_wide 5 Tryd.f5 rfl rfl rfl rfl rfl rfl rfl ⟨rfl, rfl, rfl, rfl, rfl⟩ rfl rfl rfl rfl rfl (by kernel_rfl) Tryd.func5 (by kernel_rfl)
    (of_decide_eq_true (by kernel_rfl)) (by unfold Func.isWrapper; rw [if_neg (of_decide_eq_false (by kernel_rfl))]; exact ⟨rfl, rfl⟩)
    (fun os started H enc _ => turned_lifted os started H enc)

theorem turned_card_holds : Rows.TurnedCardSaid :=
  Claim7.holds_tied_plain_at .later [] [.sentinel, .sentinel, .sentinel, .sentinel, .sentinel, .sentinel] true (true, "e3cd2ab4baf8c61c5374da32e41be38051ae0355542dd10d173ee0f2b9818175") true
    turned_holds (fun _ h => by cases h) (by kernel_rfl) (fun _ h => by cases h) turned_row_tie rfl ⟨rfl, rfl⟩ (by kernel_rfl) rfl
    (fun f fn hf hfn => by
      obtain rfl : f = 5 := Option.some.inj ((show Tryd.prog.funcNamed _ = some 5 by kernel_rfl).symm.trans hf) |>.symm
      obtain rfl : fn = Tryd.f5 := (Option.some.inj (Tryd.func5.symm.trans hfn)).symm
      exact ⟨by kernel_rfl, fun j t ht => by
        rw [Tryd.params5] at ht
        have hi : Tryd.prog.wantsStandIn 3 = false := by kernel_rfl
        have hl : Tryd.prog.wantsStandIn 36 = false := by kernel_rfl
        have hs : Tryd.prog.wantsStandIn 9 = false := by kernel_rfl
        rcases j with _ | _ | _ | _ | _ | _ | _ | j
        · obtain rfl : 3 = t := by simpa using ht
          exact hi
        · obtain rfl : 3 = t := by simpa using ht
          exact hi
        · obtain rfl : 3 = t := by simpa using ht
          exact hi
        · obtain rfl : 3 = t := by simpa using ht
          exact hi
        · obtain rfl : 3 = t := by simpa using ht
          exact hi
        · obtain rfl : 36 = t := by simpa using ht
          exact hl
        · obtain rfl : 9 = t := by simpa using ht
          exact hs
        · simp at ht⟩)
    (by kernel_rfl)
#print axioms turned_card_holds
end Go.Proofs.YtfpojgljgbgkkaaDoor
