/-
  The program and the document's answer side by side: Encode, Decode.
-/
import Derived.Test.YtfpojgljgbgkkaaDoorRDec2
import Derived.Test.YtfpojgljgbgkkaaDoorRDec3
import Derived.Test.YtfpojgljgbgkkaaDoorSame
namespace Go.Proofs.YtfpojgljgbgkkaaDoor
open Go.RowKit

/-- Both Encodes give this. -/
structure EncBoth (k f t x : Int) (m : List UInt8) (n : Int) : Prop where
  prog : ∀ (w : World) (a : Nat → Addr), Sent w a → Calls Tryd.prog 6 #[.agg #[.int .i64 k, .int .i64 f, .int .i64 t, .int .i64 x]] w fun e w' => e = .returned (.tuple #[.string (bs m), .int .i64 n]) ∧ Below w.heap.size w w'
  doc : ∀ (w : World), Calls Tryd.prog 8 #[.agg #[.int .i64 k, .int .i64 f, .int .i64 t, .int .i64 x]] w fun e w' => e = .returned (.tuple #[.string (bs m), .int .i64 n]) ∧ Below w.heap.size w w'
/-- Both Decodes give this. -/
structure DecBoth (l : List UInt8) (k f t x n : Int) : Prop where
  prog : ∀ (w : World) (a : Nat → Addr), Sent w a → Calls Tryd.prog 7 #[.string (bs l)] w fun e w' => e = .returned (.tuple #[.agg #[.int .i64 k, .int .i64 f, .int .i64 t, .int .i64 x], .int .i64 n]) ∧ Below w.heap.size w w'
  doc : ∀ (w : World), Calls Tryd.prog 9 #[.string (bs l)] w fun e w' => e = .returned (.tuple #[.agg #[.int .i64 k, .int .i64 f, .int .i64 t, .int .i64 x], .int .i64 n]) ∧ Below w.heap.size w w'

theorem enc_both (k f t x : Int) : ∃ m n, EncBoth k f t x m n := by
  cases h : endsB k f t && rightTxB x
  · exact ⟨[], 3, ⟨fun w a hS => encode_no k f t x w hS h, fun w => refEncode_no k f t x w h⟩⟩
  · simp only [Bool.and_eq_true] at h
    exact ⟨msgL k f t x, 0, ⟨fun w a hS => encode_yes k f t x w hS h.1 h.2, fun w => refEncode_yes k f t x w h.1 h.2⟩⟩

theorem dec_content (n k f t : UInt8) (r s : List UInt8) (hc : (k :: f :: t :: r).length = n.toNat) (hs : s.length = 4) (he : sumL (44 :: n :: (k :: f :: t :: r)) = s) (h4 : 1 ≤ r.length) :
    ∃ k' f' t' x n', DecBoth (44 :: n :: (k :: f :: t :: r ++ s)) k' f' t' x n' := by
  have hbad : goodC (k :: f :: t :: r) = false → ∀ (w : World) (a : Nat → Addr), Sent w a → Calls Tryd.prog 7 #[.string (bs (44 :: n :: (k :: f :: t :: r ++ s)))] w fun e w' => e = .returned (.tuple #[.agg #[.int .i64 0, .int .i64 0, .int .i64 0, .int .i64 0], .int .i64 7]) ∧ Below w.heap.size w w' :=
    fun hg w a hS => decode_err _ 5 (by decide) w hS (fun w1 hS1 => read_form n (k :: f :: t :: r) s w1 hS1 hc hs he hg)
  have htx : (r.length ≠ 2 ∧ ∀ w1, Calls Tryd.prog 24 #[.string (bs r)] w1 fun e w' => e = .returned (.int .i64 (rt r)) ∧ w1 = w') ∨ (∀ w1, Calls Tryd.prog 24 #[.string (bs r)] w1 fun e w' => e = .returned (.int .i64 (rt r)) ∧ w' = w1.drew) := by
    by_cases h2 : r.length = 2
    · right
      match r, h2 with
      | [p, q], _ => exact refTx_two p q
    · exact Or.inl ⟨h2, fun w1 => refTx_same r w1 h2⟩
  cases hE : endsB (k.toNat : Int) (f.toNat : Int) (t.toNat : Int) && rightTxB (rt r)
  · have hg : goodC (k :: f :: t :: r) = false := by
      rw [Bool.eq_false_iff]
      intro h
      simp only [goodC, Bool.and_eq_true] at h
      have := goodTx_num r h.2
      simp [h.1, this.2.1] at hE
    refine ⟨0, 0, 0, 0, 7, ⟨hbad hg, fun w => ?_⟩⟩
    rcases htx with ⟨_, hx⟩ | hx
    · exact rdec_no_same n k f t r s [] (rt r) w hc hs he h4 hx (fun w1 => refEncode_no _ _ _ _ w1 hE)
    · exact rdec_no_two n k f t r s [] (rt r) w hc hs he h4 hx (fun w1 => refEncode_no _ _ _ _ w1 hE)
  · simp only [Bool.and_eq_true] at hE
    by_cases hm : txL (rt r) = r
    · have hg := goodTx_of r hE.2 hm
      have hgc : goodC (k :: f :: t :: r) = true := by simp [goodC, hE.1, hg]
      have hp := (goodTx_num r hg).1
      refine ⟨k.toNat, f.toNat, t.toNat, rt r, 0, ⟨fun w a hS => decode_ok _ _ _ _ _ w hS (fun w1 hS1 => ?_), fun w => ?_⟩⟩
      · rw [← hp]
        exact read_good n k f t r s w1 hS1 hc hs he hgc
      · have hmm := (msg_iff n k f t r s (rt r) hc hs he).2 hm
        rcases htx with ⟨_, hx⟩ | hx
        · exact rdec_ok_same n k f t r s (msgL (k.toNat : Int) (f.toNat : Int) (t.toNat : Int) (rt r)) (rt r) w hc hs he h4 hx (fun w1 => refEncode_yes _ _ _ _ w1 hE.1 hE.2) hmm
        · exact rdec_ok_two n k f t r s (msgL (k.toNat : Int) (f.toNat : Int) (t.toNat : Int) (rt r)) (rt r) w hc hs he h4 hx (fun w1 => refEncode_yes _ _ _ _ w1 hE.1 hE.2) hmm
    · have hg : goodC (k :: f :: t :: r) = false := by
        rw [Bool.eq_false_iff]
        intro h
        simp only [goodC, Bool.and_eq_true] at h
        exact hm (goodTx_num r h.2).2.2
      have hmm : msgL (k.toNat : Int) (f.toNat : Int) (t.toNat : Int) (rt r) ≠ 44 :: n :: (k :: f :: t :: r ++ s) := fun e => hm ((msg_iff n k f t r s (rt r) hc hs he).1 e)
      refine ⟨0, 0, 0, 0, 7, ⟨hbad hg, fun w => ?_⟩⟩
      rcases htx with ⟨_, hx⟩ | hx
      · exact rdec_ne_same n k f t r s (msgL (k.toNat : Int) (f.toNat : Int) (t.toNat : Int) (rt r)) (rt r) w hc hs he h4 hx (fun w1 => refEncode_yes _ _ _ _ w1 hE.1 hE.2) hmm
      · exact rdec_ne_two n k f t r s (msgL (k.toNat : Int) (f.toNat : Int) (t.toNat : Int) (rt r)) (rt r) w hc hs he h4 hx (fun w1 => refEncode_yes _ _ _ _ w1 hE.1 hE.2) hmm

theorem goodC_small (c : List UInt8) (h : c.length < 4) : goodC c = false := by
  rcases c with _ | ⟨k, _ | ⟨f, _ | ⟨t, _ | ⟨x, r⟩⟩⟩⟩
  · rfl
  · rfl
  · rfl
  · simp [goodC, goodTx, pt, rightTxB]
  · simp at h; omega

theorem dec_both (l : List UInt8) (hl : l.length ≤ maxLen) : ∃ k f t x n, DecBoth l k f t x n := by
  have err : ∀ (l : List UInt8) (i : Nat) (n : Int), i < 6 → errnoOf i = n → (∀ (w1 : World) (a : Nat → Addr), Sent w1 a → Calls Tryd.prog 20 #[.string (bs l)] w1 fun e w' => ErrRet w1 w' e (.agg #[.int .i64 0, .int .i64 0, .int .i64 0, .int .i64 0]) (a i)) →
      (∀ (w : World), Calls Tryd.prog 9 #[.string (bs l)] w fun e w' => Refused w w' e n) → ∃ k f t x n, DecBoth l k f t x n := by
    intro l i n hi hn hp hd
    refine ⟨0, 0, 0, 0, n, ⟨fun w a hS => ?_, hd⟩⟩
    rw [← hn]
    exact decode_err l i hi w hS (fun w1 hS1 => hp w1 a hS1)
  rcases l with _ | ⟨c, r⟩
  · exact err [] 1 4 (by decide) rfl (fun w1 a hS => read_measure [] 1 w1 (fun w2 hb => measure_empty 44 w2 (hS.later hb))) rdec_empty
  by_cases hc : c = 44
  · subst hc
    rcases r with _ | ⟨n, r⟩
    · exact err [44] 1 4 (by decide) rfl (fun w1 a hS => read_measure [44] 1 w1 (fun w2 hb => measure_one 44 44 w2 (hS.later hb) (by decide))) rdec_one
    by_cases h1 : r.length < n.toNat + 4
    · exact err _ 1 4 (by decide) rfl (fun w1 a hS => read_measure _ 1 w1 (fun w2 hb => measure_short 44 44 n r w2 (hS.later hb) (by decide) h1)) (fun w => rdec_short n r w h1)
    by_cases h2 : n.toNat + 4 < r.length
    · exact err _ 3 8 (by decide) rfl (fun w1 a hS => read_more n r w1 hS h2 (by simp at hl; unfold maxLen at hl ⊢; omega)) (fun w => rdec_more n r w h2)
    have hr : r.length = n.toNat + 4 := by omega
    obtain ⟨c, s, rfl, hcl, hs⟩ : ∃ c s, r = c ++ s ∧ c.length = n.toNat ∧ s.length = 4 :=
      ⟨r.take n.toNat, r.drop n.toNat, (List.take_append_drop _ _).symm, by simp; omega, by simp; omega⟩
    by_cases he : sumL (44 :: n :: c) = s
    · by_cases h4 : c.length < 4
      · exact err _ 5 7 (by decide) rfl (fun w1 a hS => read_form n c s w1 hS hcl hs he (goodC_small c h4)) (fun w => rdec_small n c s w hcl hs he h4)
      · rcases c with _ | ⟨k, _ | ⟨f, _ | ⟨t, r⟩⟩⟩
        · simp at h4
        · simp at h4
        · simp at h4
        · exact dec_content n k f t r s hcl hs he (by simp at h4; omega)
    · exact err _ 4 6 (by decide) rfl (fun w1 a hS => read_sum n c s w1 hS hcl hs he) (fun w => rdec_sum n c s w hcl hs he)
  · have hne : ((c.toNat : Int) != 44) = true := by
      rw [bne_iff_ne]
      intro e
      apply hc
      have : c.toNat = 44 := by omega
      exact UInt8.toNat.inj this
    exact err _ 2 5 (by decide) rfl (fun w1 a hS => read_measure _ 2 w1 (fun w2 hb => measure_magic 44 c r w2 (hS.later hb) hne)) (fun w => rdec_magic c r w hne)
end Go.Proofs.YtfpojgljgbgkkaaDoor
