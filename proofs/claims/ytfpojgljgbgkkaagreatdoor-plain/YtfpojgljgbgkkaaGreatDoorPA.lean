import Derived.Laws.BitsAllLaws
import Derived.Test.YtfpojgljgbgkkaaGreatDoorRows
import Derived.WalkKit
import Derived.WalkSpells
import Derived.WalkLawsBesides
import Derived.LoopTactic
import Derived.Deep.RegionWith
import Derived.Deep.QuietTactic
import Derived.BigQuiet
import Derived.LaidEql
import Derived.Stop.Asserts
import Derived.RowKitTokens
/-
  Plain mathematics of the document's bytes: the sum of 32 bits, numbers in one byte or two, frames. No program in sight.
-/
namespace Go.Proofs.YtfpojgljgbgkkaaGreatDoor
namespace M

/-- One bit of the sum. -/
def bitStep (c : Nat) : Nat := (c / 2) ^^^ (c % 2 * 3988292384)
def iter : Nat → Nat → Nat
  | 0, c => c
  | n + 1, c => bitStep (iter n c)
def byteStep (c b : Nat) : Nat := iter 8 (c ^^^ b)
def crcFrom (c : Nat) (l : List UInt8) : Nat := l.foldl (fun c b => byteStep c b.toNat) c
def crc (l : List UInt8) : Nat := 4294967295 - crcFrom 4294967295 l

theorem xor_lt32 {a b : Nat} (ha : a < 4294967296) (hb : b < 4294967296) : a ^^^ b < 4294967296 :=
  Nat.xor_lt_two_pow (n := 32) ha hb
theorem bitStep_lt {c : Nat} (h : c < 4294967296) : bitStep c < 4294967296 := by
  unfold bitStep
  apply xor_lt32
  · omega
  · rcases Nat.mod_two_eq_zero_or_one c with e | e <;> rw [e] <;> decide
theorem iter_lt {c : Nat} (n : Nat) (h : c < 4294967296) : iter n c < 4294967296 := by
  induction n with
  | zero => exact h
  | succ n ih => exact bitStep_lt ih
theorem byteStep_lt {c : Nat} (b : UInt8) (h : c < 4294967296) : byteStep c b.toNat < 4294967296 :=
  iter_lt 8 (xor_lt32 h (by have := b.toNat_lt; omega))
theorem crcFrom_lt {c : Nat} (l : List UInt8) (h : c < 4294967296) : crcFrom c l < 4294967296 := by
  induction l generalizing c with
  | nil => exact h
  | cons b l ih => exact ih (byteStep_lt b h)
theorem crc_lt (l : List UInt8) : crc l < 4294967296 := by unfold crc; omega
theorem crcFrom_snoc (c : Nat) (l : List UInt8) (b : UInt8) : crcFrom c (l ++ [b]) = byteStep (crcFrom c l) b.toNat := by
  simp [crcFrom, List.foldl_append]
theorem xor_all (c : Nat) (h : c < 4294967296) : 4294967295 ^^^ c = 4294967295 - c := by
  have e : (4294967295 : Nat) = 2 ^ 32 - 1 := by decide
  rw [Nat.xor_comm, e]
  apply Nat.eq_of_testBit_eq
  intro i
  rw [Nat.testBit_xor, Nat.testBit_two_pow_sub_one]
  rw [show 2 ^ 32 - 1 - c = 2 ^ 32 - (c + 1) from by omega, Nat.testBit_two_pow_sub_succ (by simpa using h)]
  by_cases hi : i < 32
  · simp [hi]
  · simp [hi]
    exact Nat.testBit_lt_two_pow (Nat.lt_of_lt_of_le h (Nat.pow_le_pow_right (n := 2) (by decide) (by omega : 32 ≤ i)))

/-- The document's answer takes the bits of a byte one by one: what stands behind k of them. -/
def refStep (b : Nat) : Nat → Nat → Nat
  | 0, c => c
  | k + 1, c => (refStep b k c / 2) ^^^ ((refStep b k c + b / 2 ^ k) % 2 * 3988292384)
theorem iter_ref (b c k : Nat) : iter k (c ^^^ b) = refStep b k c ^^^ (b / 2 ^ k) := by
  induction k with
  | zero => simp [iter, refStep]
  | succ k ih =>
    simp only [iter, refStep, ih, bitStep]
    generalize refStep b k c = x
    have h2 : b / 2 ^ (k + 1) = b / 2 ^ k / 2 := by rw [Nat.pow_succ, Nat.div_div_eq_div_mul]
    rw [h2]
    generalize b / 2 ^ k = y
    have e1 : (x ^^^ y) / 2 = x / 2 ^^^ y / 2 := Nat.xor_div_two
    have e2 : (x ^^^ y) % 2 = (x + y) % 2 := by
      have h1 := @Nat.xor_mod_two_eq_one x y
      omega
    rw [e1, e2, Nat.xor_assoc, Nat.xor_assoc, Nat.xor_comm (y / 2)]
theorem refStep_lt {b c : Nat} (k : Nat) (h : c < 4294967296) : refStep b k c < 4294967296 := by
  induction k with
  | zero => exact h
  | succ k ih =>
    simp only [refStep]
    apply xor_lt32
    · omega
    · rcases Nat.mod_two_eq_zero_or_one (refStep b k c + b / 2 ^ k) with e | e <;> rw [e] <;> decide
theorem ref_eight (b : UInt8) (c : Nat) : refStep b.toNat 8 c = byteStep c b.toNat := by
  unfold byteStep
  rw [iter_ref]
  have := b.toNat_lt
  rw [Nat.div_eq_of_lt (by simpa using this)]
  simp

end M
end Go.Proofs.YtfpojgljgbgkkaaGreatDoor

/-
  The sums: wire.sum, wire.sumBytes, accordref.sum, each by its contract.
-/
namespace Go.Proofs.YtfpojgljgbgkkaaGreatDoor
open Go.RowKit

theorem ret_int {k : IntKind} {a b : Int} (h : a = b) : Ending.returned (.int k a) = .returned (.int k b) := by rw [h]
theorem ret_str {a b : ByteArray} (h : a = b) : Ending.returned (.string a) = .returned (.string b) := by rw [h]
theorem val_int {k : IntKind} {a b : Int} (h : a = b) : Value.int k a = .int k b := by rw [h]
theorem take_snoc (s : ByteArray) (k : Nat) (h : k < s.size) : s.data.toList.take (k + 1) = s.data.toList.take k ++ [s[k]] := by
  rw [List.take_succ_eq_append_getElem (by simpa using h)]; rfl

namespace M
/-- What the walk writes for one bit. -/
theorem bit_walk (c : Nat) (h : c < 4294967296) :
    bits BinOp.xor IntKind.u32 ((c : Int) / 2) (bits BinOp.and IntKind.u32 (c : Int) 1 * 3988292384 % 4294967296) = ((bitStep c : Nat) : Int) := by
  have e1 : bits BinOp.and IntKind.u32 (c : Int) 1 = ((c % 2 : Nat) : Int) := by
    have := u32_and_nat c 1 h (by decide)
    rw [Nat.and_one_is_mod] at this
    exact this
  rw [e1]
  have e2 : ((c % 2 : Nat) : Int) * 3988292384 % 4294967296 = ((c % 2 * 3988292384 : Nat) : Int) := by
    rcases Nat.mod_two_eq_zero_or_one c with e | e <;> rw [e] <;> decide
  rw [e2, show ((c : Int) / 2) = ((c / 2 : Nat) : Int) from by omega]
  exact u32_xor_nat _ _ (by omega) (by rcases Nat.mod_two_eq_zero_or_one c with e | e <;> rw [e] <;> decide)
theorem byte_walk (c : Nat) (b : UInt8) (h : c < 4294967296) : bits BinOp.xor IntKind.u32 (c : Int) ((b.toNat : Int) % 4294967296) = ((c ^^^ b.toNat : Nat) : Int) := by
  have := b.toNat_lt
  rw [show ((b.toNat : Int) % 4294967296) = ((b.toNat : Nat) : Int) from by omega]
  exact u32_xor_nat _ _ h (by omega)
theorem not_walk (c : Nat) (h : c < 4294967296) : bits BinOp.xor IntKind.u32 IntKind.u32.max (c : Int) = ((4294967295 - c : Nat) : Int) := by
  rw [← xor_all c h]
  exact u32_xor_nat 4294967295 c (by decide) h
theorem i64_xor (a b : Nat) (ha : a < 4294967296) (hb : b < 4294967296) : bits .xor .i64 (a : Int) (b : Int) = ((a ^^^ b : Nat) : Int) := by
  have hx := xor_lt32 ha hb
  have h1 : (BitVec.ofInt 64 (a : Int)).toNat = a := by
    rw [BitVec.ofInt_natCast, BitVec.toNat_ofNat]; exact Nat.mod_eq_of_lt (by omega)
  have h2 : (BitVec.ofInt 64 (b : Int)).toNat = b := by
    rw [BitVec.ofInt_natCast, BitVec.toNat_ofNat]; exact Nat.mod_eq_of_lt (by omega)
  show IntKind.i64.wrap ((BitVec.ofInt 64 (a : Int) ^^^ BitVec.ofInt 64 (b : Int)).toNat : Int) = _
  rw [BitVec.toNat_xor, h1, h2, IntKind.wrap_i64]
  omega
theorem ref_bit (b j : Nat) (hb : b < 256) : (wrap64 (b : Int) / 2 ^ j).tmod 2 = ((b / 2 ^ j % 2 : Nat) : Int) := by
  have e : wrap64 (b : Int) = (b : Int) := by unfold wrap64; omega
  rw [e, show ((b : Int) / 2 ^ j) = ((b / 2 ^ j : Nat) : Int) from by simp, Int.tmod_eq_emod_of_nonneg (Int.natCast_nonneg _)]
  omega
theorem ref_yes (b j c : Nat) (hb : b < 256) (hc : refStep b j c < 4294967296) (h : ((wrap64 (b : Int) / 2 ^ j).tmod 2 != ((refStep b j c : Nat) : Int) % 2) = true) :
    bits BinOp.xor IntKind.i64 (((refStep b j c : Nat) : Int) / 2) 3988292384 = ((refStep b (j + 1) c : Nat) : Int) := by
  rw [ref_bit b j hb, bne_iff_ne] at h
  have e : (refStep b j c + b / 2 ^ j) % 2 = 1 := by omega
  simp only [refStep, e]
  rw [show (((refStep b j c : Nat) : Int) / 2) = ((refStep b j c / 2 : Nat) : Int) from by omega]
  exact i64_xor _ 3988292384 (by omega) (by decide)
theorem ref_no (b j c : Nat) (hb : b < 256) (h : ((wrap64 (b : Int) / 2 ^ j).tmod 2 != ((refStep b j c : Nat) : Int) % 2) = false) :
    ((refStep b j c : Nat) : Int) / 2 = ((refStep b (j + 1) c : Nat) : Int) := by
  rw [ref_bit b j hb] at h
  have h' : ((b / 2 ^ j % 2 : Nat) : Int) = ((refStep b j c : Nat) : Int) % 2 := by simpa using h
  have e : (refStep b j c + b / 2 ^ j) % 2 = 0 := by omega
  simp only [refStep, e, Nat.zero_mul, Nat.xor_zero]
  omega
end M

set_option maxHeartbeats 400000 in
theorem sum_any (s : ByteArray) (w : World) (hs : s.size ≤ maxLen) :
    Calls Tryz.prog 165 #[.string s] w fun e w' => e = .returned (.int .u32 (M.crc s.data.toList : Nat)) ∧ w' = w := by
  unfold maxLen at hs
  go_enter Tryz.func165, Tryz.ntmps165
  go_wp2
  go_loop [3, 8] (fun n i => ∃ k : Nat, k ≤ s.size ∧ i = .int .i64 k ∧ n = .int .u32 (M.crcFrom 4294967295 (s.data.toList.take k) : Nat)) (fun _ i => s.size - (intOf i).toNat)
  case atStart => exact ⟨0, Nat.zero_le _, rfl, rfl⟩
  case round =>
    obtain ⟨k, hk, rfl, rfl⟩ := hrel
    have hc := M.crcFrom_lt (c := 4294967295) (s.data.toList.take k) (by decide)
    by_cases hlt : k < s.size
    · have hsn : M.crcFrom 4294967295 (s.data.toList.take (k + 1)) = M.byteStep (M.crcFrom 4294967295 (s.data.toList.take k)) s[k].toNat := by
        rw [take_snoc s k hlt, M.crcFrom_snoc]
      generalize M.crcFrom 4294967295 (s.data.toList.take k) = c at *
      have HS : Hid (M.crcFrom 4294967295 (s.data.toList.take (k + 1)) = M.byteStep c s[k].toNat) := hsn
      clear hsn
      have hx : c ^^^ s[k].toNat < 4294967296 := M.xor_lt32 hc (by have := s[k].toNat_lt; omega)
      go_wp2
      go_loop [3, 17] (fun n i => ∃ j : Nat, j ≤ 8 ∧ i = .int .i64 j ∧ n = .int .u32 (M.iter j (c ^^^ s[k].toNat) : Nat)) (fun _ i => 8 - (intOf i).toNat)
      case atStart => exact ⟨0, by omega, rfl, val_int (M.byte_walk c s[k] hc)⟩
      case round =>
        obtain ⟨j, hj, rfl, rfl⟩ := hrel
        have hi := M.iter_lt j hx
        by_cases hlt2 : j < 8
        · go_wp2
          go_round
          case rel => exact ⟨j + 1, by omega, by go_num, val_int (M.bit_walk _ hi)⟩
          case measure => simp [intOf]; omega
        · obtain rfl : j = 8 := by omega
          go_wp2
          go_round
          case rel => exact ⟨k + 1, by omega, by go_num, val_int (by rw [HS.out]; rfl)⟩
          case measure => simp [intOf]; omega
    · go_wp2
      go_ret
      refine ⟨ret_int ?_, rfl⟩
      rw [M.not_walk _ hc, List.take_of_length_le (by simp; omega)]
      rfl

/-- Bytes as a string. -/
def bs (l : List UInt8) : ByteArray := ⟨l.toArray⟩
theorem bs_list (l : List UInt8) : (bs l).data.toList = l := rfl
theorem bs_size (l : List UInt8) : (bs l).size = l.length := rfl
theorem bs_self (s : ByteArray) : bs s.data.toList = s := rfl
theorem bs_append (a b : List UInt8) : bs a ++ bs b = bs (a ++ b) := by
  apply ByteArray.ext; simp [bs]
theorem bs_inj {a b : List UInt8} (h : bs a = bs b) : a = b := by
  have := congrArg (fun s : ByteArray => s.data.toList) h; simpa [bs_list] using this
def nums (xs : List Int) : List UInt8 := xs.map fun n => UInt8.ofNat n.toNat

theorem conv_lits (w : World) (xs : List Int) (n : Nat) (hn : xs.length = n) :
    (convert 238 9 (.slice (some ⟨w.heap.size, 0, none⟩) n n)).run Tryz.prog (w.alloc (.cells (xs.map (Value.int .u8)).toArray 5)) = .ok (.string (bs (nums xs))) (w.alloc (.cells (xs.map (Value.int .u8)).toArray 5)) := by
  have h := run_convert_bytes_arg (P := Tryz.prog) (w.alloc (.cells (xs.map (Value.int .u8)).toArray 5)) 238 5 Tryz.underlying238 Tryz.underlying5 w.heap.size 0 n n xs hn
    (fun i hi => by
      rw [World.cell?_alloc_at _ _ _ _ rfl]
      simp [List.getElem?_eq_getElem (show i < xs.length by omega), List.getD]) 9 Tryz.underlying9
  exact h
theorem conv1 (w : World) (a : Int) : (convert 238 9 (.slice (some ⟨w.heap.size, 0, none⟩) 1 1)).run Tryz.prog (w.alloc (.cells #[.int .u8 a] 5)) = .ok (.string (bs (nums [a]))) (w.alloc (.cells #[.int .u8 a] 5)) := conv_lits w [a] 1 rfl
theorem conv2 (w : World) (a b : Int) : (convert 238 9 (.slice (some ⟨w.heap.size, 0, none⟩) 2 2)).run Tryz.prog (w.alloc (.cells #[.int .u8 a, .int .u8 b] 5)) = .ok (.string (bs (nums [a, b]))) (w.alloc (.cells #[.int .u8 a, .int .u8 b] 5)) := conv_lits w [a, b] 2 rfl
theorem conv3 (w : World) (a b c : Int) : (convert 238 9 (.slice (some ⟨w.heap.size, 0, none⟩) 3 3)).run Tryz.prog (w.alloc (.cells #[.int .u8 a, .int .u8 b, .int .u8 c] 5)) = .ok (.string (bs (nums [a, b, c]))) (w.alloc (.cells #[.int .u8 a, .int .u8 b, .int .u8 c] 5)) := conv_lits w [a, b, c] 3 rfl
theorem conv4 (w : World) (a b c d : Int) : (convert 238 9 (.slice (some ⟨w.heap.size, 0, none⟩) 4 4)).run Tryz.prog (w.alloc (.cells #[.int .u8 a, .int .u8 b, .int .u8 c, .int .u8 d] 5)) = .ok (.string (bs (nums [a, b, c, d]))) (w.alloc (.cells #[.int .u8 a, .int .u8 b, .int .u8 c, .int .u8 d] 5)) := conv_lits w [a, b, c, d] 4 rfl

/-- The sum in four bytes. -/
def sumL (l : List UInt8) : List UInt8 := nums [(M.crc l : Int) / 16777216, (M.crc l : Int) / 65536 % 256, (M.crc l : Int) / 256 % 256, (M.crc l : Int) % 256]
theorem sumL_len (l : List UInt8) : (sumL l).length = 4 := rfl

set_option maxRecDepth 100000 in
set_option maxHeartbeats 400000 in
theorem sumBytes_any (s : ByteArray) (w : World) (hs : s.size ≤ maxLen) :
    Calls Tryz.prog 142 #[.string s] w fun e w' => e = .returned (.string (bs (sumL s.data.toList))) ∧ Below w.heap.size w w' := by
  have hc := M.crc_lt s.data.toList
  have k4 := conv4
  go_enter Tryz.func142, Tryz.ntmps142
  go_wp2_with (go_at_call 165; refine (sum_any s _ hs).mono ?_; rintro e w' ⟨rfl, rfl⟩)
  go_ret
  exact ⟨rfl, (Below.refl _ _).alloc (Nat.le_refl _) _⟩

set_option maxRecDepth 100000 in
set_option maxHeartbeats 1000000 in
theorem refSum_any (s : ByteArray) (w : World) (hs : s.size ≤ maxLen) :
    Calls Tryz.prog 169 #[.string s] w fun e w' => e = .returned (.string (bs (sumL s.data.toList))) ∧ Below w.heap.size w w' := by
  unfold maxLen at hs
  have k4 := conv4
  go_enter Tryz.func169, Tryz.ntmps169
  go_wp2
  go_loop [3, 4] (fun n i => ∃ k : Nat, k ≤ s.size ∧ i = .int .i64 k ∧ n = .int .i64 (M.crcFrom 4294967295 (s.data.toList.take k) : Nat)) (fun _ i => s.size - (intOf i).toNat)
  case atStart => exact ⟨0, Nat.zero_le _, rfl, rfl⟩
  case round =>
    obtain ⟨k, hk, rfl, rfl⟩ := hrel
    have hc := M.crcFrom_lt (c := 4294967295) (s.data.toList.take k) (by decide)
    by_cases hlt : k < s.size
    · have hsn : M.crcFrom 4294967295 (s.data.toList.take (k + 1)) = M.byteStep (M.crcFrom 4294967295 (s.data.toList.take k)) s[k].toNat := by
        rw [take_snoc s k hlt, M.crcFrom_snoc]
      generalize M.crcFrom 4294967295 (s.data.toList.take k) = c at *
      have HS : Hid (M.crcFrom 4294967295 (s.data.toList.take (k + 1)) = M.byteStep c s[k].toNat) := hsn
      clear hsn
      go_wp2
      go_loop [3, 5] (fun n i => ∃ j : Nat, j ≤ 8 ∧ i = .int .i64 j ∧ n = .int .i64 (M.refStep s[k].toNat j c : Nat)) (fun _ i => 8 - (intOf i).toNat)
      case atStart => exact ⟨0, by omega, rfl, rfl⟩
      case round =>
        obtain ⟨j, hj, rfl, rfl⟩ := hrel
        have hi := M.refStep_lt (b := s[k].toNat) j hc
        by_cases hlt2 : j < 8
        · go_wp2
          · go_round
            case rel => exact ⟨j + 1, by omega, by go_num, val_int (M.ref_yes _ j c s[k].toNat_lt hi ‹_›)⟩
            case measure => simp [intOf]; omega
          · go_round
            case rel => exact ⟨j + 1, by omega, by go_num, val_int (M.ref_no _ j c s[k].toNat_lt ‹_›)⟩
            case measure => simp [intOf]; omega
        · obtain rfl : j = 8 := by omega
          go_wp2
          go_round
          case rel => exact ⟨k + 1, by omega, by go_num, val_int (by rw [HS.out, M.ref_eight])⟩
          case measure => simp [intOf]; omega
    · go_wp2
      go_ret
      have e : s.data.toList.take k = s.data.toList := List.take_of_length_le (by simp; omega)
      rw [e] at hc ⊢
      have e2 : (4294967295 : Int) - (M.crcFrom 4294967295 s.data.toList : Nat) = (M.crc s.data.toList : Nat) := by unfold M.crc; omega
      rw [e2]
      exact ⟨rfl, (Below.refl _ _).alloc (Nat.le_refl _) _⟩
end Go.Proofs.YtfpojgljgbgkkaaGreatDoor

/-
  The leaves: frames, numbers, errors with a place, tests of a message's parts.
-/
namespace Go.Proofs.YtfpojgljgbgkkaaGreatDoor
open Go.RowKit

theorem nums_len (xs : List Int) : (nums xs).length = xs.length := by simp [nums]
attribute [local go_sem] bs_append bs_size nums_len sumL_len List.length_append List.length_cons List.length_nil

theorem sumBytes_bs (l : List UInt8) (w : World) (hs : l.length ≤ maxLen) :
    Calls Tryz.prog 142 #[.string (bs l)] w fun e w' => e = .returned (.string (bs (sumL l))) ∧ Below w.heap.size w w' := sumBytes_any (bs l) w hs
theorem refSum_bs (l : List UInt8) (w : World) (hs : l.length ≤ maxLen) :
    Calls Tryz.prog 169 #[.string (bs l)] w fun e w' => e = .returned (.string (bs (sumL l))) ∧ Below w.heap.size w w' := refSum_any (bs l) w hs

/-- A content, with what begins it and its sum. -/
def frame (m : Int) (l : List UInt8) : List UInt8 := (nums [m, (l.length : Int)] ++ l) ++ sumL (nums [m, (l.length : Int)] ++ l)

set_option maxRecDepth 100000 in
set_option maxHeartbeats 400000 in
theorem seal_any (m : Int) (l : List UInt8) (w : World) (hm : 0 ≤ m ∧ m < 256) (hs : l.length < 256) :
    Calls Tryz.prog 140 #[.int .u8 m, .string (bs l)] w fun e w' => e = .returned (.string (bs (frame m l))) ∧ Below w.heap.size w w' := by
  have k2 := conv2
  obtain ⟨hm0, hm1⟩ := hm
  go_enter Tryz.func140, Tryz.ntmps140
  go_wp2_with (go_at_call 142; refine (sumBytes_bs _ _ (by simp [nums_len, maxLen]; omega)).mono ?_; rintro e w' ⟨rfl, hb⟩)
  go_ret
  exact ⟨rfl, ((Below.refl _ _).alloc (Nat.le_refl _) _).trans (hb.mono (by simp))⟩

set_option maxRecDepth 100000 in
set_option maxHeartbeats 400000 in
theorem framed_any (m : Int) (l : List UInt8) (w : World) (hm : 0 ≤ m ∧ m < 256) (hs : l.length < 256) :
    Calls Tryz.prog 167 #[.int .i64 m, .string (bs l)] w fun e w' => e = .returned (.string (bs (frame m l))) ∧ Below w.heap.size w w' := by
  have k2 := conv2
  obtain ⟨hm0, hm1⟩ := hm
  go_enter Tryz.func167, Tryz.ntmps167
  go_wp2_with (go_at_call 169; refine (refSum_bs _ _ (by simp [nums_len, maxLen]; omega)).mono ?_; rintro e w' ⟨rfl, hb⟩)
  go_ret
  exact ⟨rfl, ((Below.refl _ _).alloc (Nat.le_refl _) _).trans (hb.mono (by simp))⟩

theorem at_any (part : ByteArray) (off : Int) (u : TypeId) (v : Value) (w : World) :
    Calls Tryz.prog 100 #[.string part, .int .i64 off, .iface u v] w fun e w' => e = .returned (.iface 241 (.pointer (some ⟨w.heap.size, 0, none⟩))) ∧ w' = w.alloc (.cells #[.string part, .int .i64 off, .iface u v] 243) := by
  go_enter Tryz.func100, Tryz.ntmps100
  go_wp2
  go_ret
  exact ⟨rfl, rfl⟩

def rightTxB (x : Int) : Bool := decide (1 ≤ x ∧ x ≤ 16383)
def rightNodeB (x : Int) : Bool := decide (0 ≤ x ∧ x ≤ 6)
theorem rightTx_any (x : Int) (w : World) : Calls Tryz.prog 139 #[.int .i64 x] w fun e w' => e = .returned (.bool (rightTxB x)) ∧ w = w' := by
  by_cases h1 : 1 ≤ x
  · by_cases h2 : x ≤ 16383
    · go_enter Tryz.func139, Tryz.ntmps139
      go_wp2
      go_ret
      exact ⟨by simp [rightTxB, h1, h2], rfl⟩
    · go_enter Tryz.func139, Tryz.ntmps139
      go_wp2
      go_ret
      exact ⟨by simp [rightTxB, h1, h2], rfl⟩
  · go_enter Tryz.func139, Tryz.ntmps139
    go_wp2
    go_ret
    exact ⟨by simp [rightTxB]; omega, rfl⟩
theorem rightNode_any (x : Int) (w : World) : Calls Tryz.prog 164 #[.int .i64 x] w fun e w' => e = .returned (.bool (rightNodeB x)) ∧ w = w' := by
  by_cases h1 : 0 ≤ x
  · by_cases h2 : x ≤ 6
    · go_enter Tryz.func164, Tryz.ntmps164
      go_wp2
      go_ret
      exact ⟨by simp [rightNodeB, h1, h2], rfl⟩
    · go_enter Tryz.func164, Tryz.ntmps164
      go_wp2
      go_ret
      exact ⟨by simp [rightNodeB, h1, h2], rfl⟩
  · go_enter Tryz.func164, Tryz.ntmps164
    go_wp2
    go_ret
    exact ⟨by simp [rightNodeB]; omega, rfl⟩

theorem writeTx_small (x : Int) (w : World) (h0 : 1 ≤ x) (h1 : x < 128) :
    Calls Tryz.prog 141 #[.int .i64 x] w fun e w' => e = .returned (.string (bs (nums [x]))) ∧ Below w.heap.size w w' := by
  have k1 := conv1
  go_enter Tryz.func141, Tryz.ntmps141
  go_wp2
  go_ret
  exact ⟨rfl, (Below.refl _ _).alloc (Nat.le_refl _) _⟩
theorem writeTx_great (x : Int) (w : World) (h0 : 128 ≤ x) (h1 : x ≤ 16383) :
    Calls Tryz.prog 141 #[.int .i64 x] w fun e w' => e = .returned (.string (bs (nums [128 + x % 128, x / 128]))) ∧ Below w.heap.size w w' := by
  have k2 := conv2
  have hor : bits .or .i64 128 (x % 128) = 128 + x % 128 := bits_join .i64 8 (by decide) (fun n a b => by rw [IntKind.wrap_i64]; omega) 7 128 _ (by decide) (by decide) (by decide) (by omega) (by omega) (by omega)
  go_enter Tryz.func141, Tryz.ntmps141
  go_wp2
  go_ret
  exact ⟨rfl, (Below.refl _ _).alloc (Nat.le_refl _) _⟩
theorem number_small (x : Int) (w : World) (h0 : 1 ≤ x) (h1 : x < 128) :
    Calls Tryz.prog 168 #[.int .i64 x] w fun e w' => e = .returned (.string (bs (nums [x]))) ∧ Below w.heap.size w w' := by
  have k1 := conv1
  go_enter Tryz.func168, Tryz.ntmps168
  go_wp2
  go_ret
  exact ⟨rfl, (Below.refl _ _).alloc (Nat.le_refl _) _⟩
theorem number_great (x : Int) (w : World) (h0 : 128 ≤ x) (h1 : x ≤ 16383) :
    Calls Tryz.prog 168 #[.int .i64 x] w fun e w' => e = .returned (.string (bs (nums [128 + x % 128, x / 128]))) ∧ Below w.heap.size w w' := by
  have k2 := conv2
  go_enter Tryz.func168, Tryz.ntmps168
  go_wp2
  go_ret
  exact ⟨rfl, (Below.refl _ _).alloc (Nat.le_refl _) _⟩

/-- A transaction's number, in one byte or two. -/
def txL (x : Int) : List UInt8 := if x < 128 then nums [x] else nums [128 + x % 128, x / 128]
theorem txL_len (x : Int) : 1 ≤ (txL x).length ∧ (txL x).length ≤ 2 := by unfold txL; split <;> simp [nums_len]
theorem writeTx_any (x : Int) (w : World) (h0 : 1 ≤ x) (h1 : x ≤ 16383) :
    Calls Tryz.prog 141 #[.int .i64 x] w fun e w' => e = .returned (.string (bs (txL x))) ∧ Below w.heap.size w w' := by
  unfold txL
  by_cases h : x < 128
  · rw [if_pos h]; exact writeTx_small x w h0 h
  · rw [if_neg h]; exact writeTx_great x w (by omega) h1
theorem number_any (x : Int) (w : World) (h0 : 1 ≤ x) (h1 : x ≤ 16383) :
    Calls Tryz.prog 168 #[.int .i64 x] w fun e w' => e = .returned (.string (bs (txL x))) ∧ Below w.heap.size w w' := by
  unfold txL
  by_cases h : x < 128
  · rw [if_pos h]; exact number_small x w h0 h
  · rw [if_neg h]; exact number_great x w (by omega) h1

/-- At the block b lies an error with a place, around the sentinel at a. -/
def ErrAt (w : World) (b : Nat) (a : Addr) : Prop := w.cell? ⟨b, 2, none⟩ = some (.iface 268 (.pointer (some a)))
theorem cell_block {w : World} {p : Addr} {v : Value} (hc : w.cell? p = some v) : p.block < w.heap.size := by
  rcases Nat.lt_or_ge p.block w.heap.size with h | h
  · exact h
  · simp [World.cell?, Array.getElem?_eq_none h] at hc
theorem ErrAt.later {w w' : World} {b : Nat} {a : Addr} (h : ErrAt w b a) (hb : Below w.heap.size w w') : ErrAt w' b a := by
  have hl : b < w.heap.size := cell_block h
  unfold ErrAt at h ⊢
  rw [hb.cell (p := ⟨b, 2, none⟩) hl]
  exact h
theorem at_err (part : ByteArray) (off : Int) (a : Addr) (w : World) :
    Calls Tryz.prog 100 #[.string part, .int .i64 off, .iface 268 (.pointer (some a))] w fun e w' => ∃ b, e = .returned (.iface 241 (.pointer (some ⟨b, 0, none⟩))) ∧ ErrAt w' b a ∧ Below w.heap.size w w' := by
  refine (at_any part off _ _ w).mono ?_
  rintro e w' ⟨rfl, rfl⟩
  exact ⟨_, rfl, by unfold ErrAt; rw [World.cell?_alloc_at _ _ _ _ rfl]; rfl, (Below.refl _ _).alloc (Nat.le_refl _) _⟩

theorem bcell {W w1 : World} (hb : Below W.heap.size W w1) : (∀ b o, b < W.heap.size → w1.cell? ⟨b, o, none⟩ = W.cell? ⟨b, o, none⟩) ∧ (∀ b o, b < W.heap.size → w1.frozen? ⟨b, o, none⟩ = W.frozen? ⟨b, o, none⟩) :=
  ⟨fun b o h => hb.cell (p := ⟨b, o, none⟩) h, fun b o h => hb.frozen (p := ⟨b, o, none⟩) h⟩

def endsB (k f t : Int) : Bool := decide (1 ≤ k ∧ k ≤ 7) && rightNodeB f && rightNodeB t
def msgV (k f t x : Int) : Value := .agg #[.int .i64 k, .int .i64 f, .int .i64 t, .int .i64 x]

set_option maxHeartbeats 1000000 in
theorem checkEnds_yes (k f t x : Int) (a : Addr) (w : World) (h : endsB k f t = true) :
    Calls Tryz.prog 138 #[.agg #[.int .i64 k, .int .i64 f, .int .i64 t, .int .i64 x], .iface 268 (.pointer (some a))] w fun e w' => e = .returned .nilIface ∧ Below w.heap.size w w' := by
  simp only [endsB, Bool.and_eq_true, decide_eq_true_eq] at h
  obtain ⟨⟨⟨h1, h2⟩, hf⟩, ht⟩ := h
  go_enter Tryz.func138, Tryz.ntmps138
  go_wp2_with (go_at_call 164; refine (rightNode_any _ _).mono ?_; rintro e w' ⟨rfl, rfl⟩)
  go_ret
  exact ⟨rfl, (Below.refl _ _).alloc (Nat.le_refl _) _⟩

set_option maxHeartbeats 1000000 in
theorem checkEnds_no (k f t x : Int) (a : Addr) (w : World) (h : endsB k f t = false) :
    Calls Tryz.prog 138 #[.agg #[.int .i64 k, .int .i64 f, .int .i64 t, .int .i64 x], .iface 268 (.pointer (some a))] w fun e w' => ∃ b, e = .returned (.iface 241 (.pointer (some ⟨b, 0, none⟩))) ∧ ErrAt w' b a ∧ Below w.heap.size w w' := by
  by_cases h1 : 1 ≤ k
  · by_cases h2 : k ≤ 7
    · simp only [endsB, h1, h2, and_self, decide_true, Bool.true_and] at h
      cases hf : rightNodeB f
      · clear h
        go_enter Tryz.func138, Tryz.ntmps138
        go_wp2_with (first | (go_at_call 164; refine (rightNode_any _ _).mono ?_; rintro e w' ⟨rfl, rfl⟩) | (go_at_call 100; refine (at_err _ _ _ _).mono ?_; rintro e w' ⟨b, rfl, he, hb⟩))
        go_ret
        exact ⟨b, rfl, he, ((Below.refl _ _).alloc (Nat.le_refl _) _).trans (hb.mono (by simp))⟩
      · simp only [hf, Bool.true_and] at h
        go_enter Tryz.func138, Tryz.ntmps138
        go_wp2_with (first | (go_at_call 164; refine (rightNode_any _ _).mono ?_; rintro e w' ⟨rfl, rfl⟩) | (go_at_call 100; refine (at_err _ _ _ _).mono ?_; rintro e w' ⟨b, rfl, he, hb⟩))
        go_ret
        exact ⟨b, rfl, he, ((Below.refl _ _).alloc (Nat.le_refl _) _).trans (hb.mono (by simp))⟩
    · clear h
      go_enter Tryz.func138, Tryz.ntmps138
      go_wp2_with (first | (go_at_call 100; refine (at_err _ _ _ _).mono ?_; rintro e w' ⟨b, rfl, he, hb⟩))
      go_ret
      exact ⟨b, rfl, he, ((Below.refl _ _).alloc (Nat.le_refl _) _).trans (hb.mono (by simp))⟩
  · clear h
    go_enter Tryz.func138, Tryz.ntmps138
    go_wp2_with (first | (go_at_call 100; refine (at_err _ _ _ _).mono ?_; rintro e w' ⟨b, rfl, he, hb⟩))
    go_ret
    exact ⟨b, rfl, he, ((Below.refl _ _).alloc (Nat.le_refl _) _).trans (hb.mono (by simp))⟩

/-- A message in bytes. -/
def msgL (k f t x : Int) : List UInt8 := frame 44 (nums [k, f, t] ++ txL x)

set_option maxRecDepth 100000 in
set_option maxHeartbeats 1000000 in
theorem writeMessage_yes (k f t x : Int) (a : Addr) (w : World) (hv : w.cell? ⟨2, 0, none⟩ = some (.iface 268 (.pointer (some a)))) (h : endsB k f t = true) (hx : rightTxB x = true) :
    Calls Tryz.prog 98 #[.agg #[.int .i64 k, .int .i64 f, .int .i64 t, .int .i64 x]] w fun e w' => e = .returned (.tuple #[.string (bs (msgL k f t x)), .nilIface]) ∧ Below w.heap.size w w' := by
  have hg := cell_block hv
  simp at hg
  have k3 := conv3
  have hx' := hx
  simp only [rightTxB, decide_eq_true_eq] at hx'
  obtain ⟨hx1, hx2⟩ := hx'
  have h' := h
  simp only [endsB, rightNodeB, Bool.and_eq_true, decide_eq_true_eq] at h'
  obtain ⟨⟨⟨hk1, hk2⟩, hf1, hf2⟩, ht1, ht2⟩ := h'
  have hlen := (txL_len x).2
  have hfin : bs (msgL k f t x) = bs (frame 44 (nums [k, f, t] ++ txL x)) := rfl
  have HF : Hid (bs (msgL k f t x) = bs (frame 44 (nums [k, f, t] ++ txL x))) := hfin
  clear hfin
  go_enter Tryz.func98, Tryz.ntmps98
  go_wp2_with fail
  refine (checkEnds_yes k f t x a _ h).mono ?_
  rintro e w1 ⟨rfl, hb1⟩
  obtain ⟨hc1, hf1⟩ := bcell hb1
  have hz1 : w.heap.size < w1.heap.size := by have := hb1.size; simp at this; omega
  go_wp2_with (first | (go_at_call 139; refine (rightTx_any _ _).mono ?_; rintro e w' ⟨rfl, rfl⟩))
  refine (writeTx_any x _ hx1 hx2).mono ?_
  rintro e w2 ⟨rfl, hb2⟩
  go_wp2_with (first | (go_at_call 140; refine (seal_any 44 _ _ (by decide) (by simp [nums_len]; omega)).mono ?_; rintro e w3 ⟨rfl, hb3⟩))
  go_ret2
  refine ⟨by rw [HF.out]; rfl, ?_⟩
  exact ((((Below.refl _ _).alloc (Nat.le_refl _) _).trans (hb1.mono (by simp))).alloc (by omega) _).trans ((hb2.mono (by simp; omega)).trans (hb3.mono (by have := hb2.size; simp at this; omega)))

set_option maxRecDepth 100000 in
set_option maxHeartbeats 1000000 in
theorem writeMessage_no (k f t x : Int) (a : Addr) (w : World) (hv : w.cell? ⟨2, 0, none⟩ = some (.iface 268 (.pointer (some a)))) (h : (endsB k f t && rightTxB x) = false) :
    Calls Tryz.prog 98 #[.agg #[.int .i64 k, .int .i64 f, .int .i64 t, .int .i64 x]] w fun e w' => ∃ b, e = .returned (.tuple #[.string (bs []), .iface 241 (.pointer (some ⟨b, 0, none⟩))]) ∧ ErrAt w' b a ∧ Below w.heap.size w w' := by
  have hg := cell_block hv
  simp at hg
  cases he : endsB k f t
  · go_enter Tryz.func98, Tryz.ntmps98
    go_wp2_with fail
    refine (checkEnds_no k f t x a _ he).mono ?_
    rintro e w1 ⟨b, rfl, hr, hb1⟩
    go_wp2
    go_ret2
    exact ⟨b, rfl, hr, ((Below.refl _ _).alloc (Nat.le_refl _) _).trans (hb1.mono (by simp))⟩
  · simp only [he, Bool.true_and] at h
    go_enter Tryz.func98, Tryz.ntmps98
    go_wp2_with fail
    refine (checkEnds_yes k f t x a _ he).mono ?_
    rintro e w1 ⟨rfl, hb1⟩
    obtain ⟨hc1, hf1⟩ := bcell hb1
    have hz1 : w.heap.size < w1.heap.size := by have := hb1.size; simp at this; omega
    go_wp2_with (first | (go_at_call 139; refine (rightTx_any _ _).mono ?_; rintro e w' ⟨rfl, rfl⟩) | (go_at_call 100; refine (at_err _ _ _ _).mono ?_; rintro e w2 ⟨b, rfl, hr, hb2⟩))
    go_ret2
    exact ⟨b, rfl, hr, (((Below.refl _ _).alloc (Nat.le_refl _) _).trans (hb1.mono (by simp))).trans (hb2.mono (by omega))⟩
end Go.Proofs.YtfpojgljgbgkkaaGreatDoor

/-
  errors.Is at an error with a place (one Unwrap) and at nil, the target a sentinel; accord.errno out of it.
-/
namespace Go.Proofs.YtfpojgljgbgkkaaGreatDoor
open Go.RowKit Go.Extern.Stop Go.Stop Go.Extern

theorem isTypeOf (v : Value) (w : World) : (callFunc 128 #[.iface 268 v]).run Tryz.prog w = .ok (.value (.iface 218 (.agg #[.pointer (some ⟨7, 268, none⟩)]))) w :=
  (@run_callFunc_extern Tryz.prog 128 _ Extern.ReflectliteType.typeOf Tryz.func128 (by kernel_rfl) (by kernel_rfl) (by kernel_rfl) (by kernel_rfl) _ w).trans (by kernel_rfl)
theorem isComparable (w : World) : (callFunc 261 #[.agg #[.pointer (some ⟨7, 268, none⟩)]]).run Tryz.prog w = .ok (.value (.bool true)) w :=
  (@run_callFunc_extern Tryz.prog 261 _ (Extern.ReflectliteType.method fun t => do Extern.Rtype.noPackHeld "Comparable" t; pure (.bool (← typeInfo t).comparable)) Tryz.func261 (by kernel_rfl) (by kernel_rfl) (by kernel_rfl) (by kernel_rfl) _ w).trans (by kernel_rfl)
theorem isMethodComparable (v : Value) (w : World) : (Go.method 432 218 v "Comparable").run Tryz.prog w = .ok (261, v) w := by kernel_rfl
theorem isComp : (Tryz.prog.info? 268).map (·.comparable) = some true := by kernel_rfl
theorem isSize : (Tryz.prog.info? 320).map (·.size) = some 1 := by kernel_rfl
theorem noIsE (v : Value) (xT : TypeId) (w : World) : (Instr.typeAssert (.iface 268 v) xT 264 true).run Tryz.prog w = .ok (.tuple #[.nilIface, .bool false]) w := run_typeAssert_lacksB Tryz.underlying264 (by kernel_rfl) (by kernel_rfl) v xT w
theorem noUnwrapE (v : Value) (xT : TypeId) (w : World) : (Instr.typeAssert (.iface 268 v) xT 226 true).run Tryz.prog w = .ok (.tuple #[.nilIface, .bool false]) w := run_typeAssert_lacksB Tryz.underlying226 (by kernel_rfl) (by kernel_rfl) v xT w
theorem noUnwrapsE (v : Value) (xT : TypeId) (w : World) : (Instr.typeAssert (.iface 268 v) xT 228 true).run Tryz.prog w = .ok (.tuple #[.nilIface, .bool false]) w := run_typeAssert_lacksB Tryz.underlying228 (by kernel_rfl) (by kernel_rfl) v xT w
theorem noIsW (v : Value) (xT : TypeId) (w : World) : (Instr.typeAssert (.iface 241 v) xT 264 true).run Tryz.prog w = .ok (.tuple #[.nilIface, .bool false]) w := run_typeAssert_lacksB Tryz.underlying264 (by kernel_rfl) (by kernel_rfl) v xT w
theorem hasUnwrapW (v : Value) (xT : TypeId) (w : World) : (Instr.typeAssert (.iface 241 v) xT 226 true).run Tryz.prog w = .ok (.tuple #[.iface 241 v, .bool true]) w := run_typeAssert_hasB Tryz.underlying226 (by kernel_rfl) v xT w
theorem methodUnwrap (v : Value) (w : World) : (Go.method 432 241 v "Unwrap").run Tryz.prog w = .ok (271, v) w := by kernel_rfl

/-- errors.Is(e, x), e an error with a place around x itself. -/
theorem is_wrap_same (pb : Nat) (b : Addr) (w : World) (h1 : w.cell? ⟨pb, 2, none⟩ = some (.iface 268 (.pointer (some b)))) :
    Calls Tryz.prog 103 #[.iface 241 (.pointer (some ⟨pb, 0, none⟩)), .iface 268 (.pointer (some b))] w fun e w' => e = .returned (.bool true) ∧ w = w' := by
  obtain ⟨i, hi, hcmp⟩ := Option.map_eq_some_iff.1 isComp
  obtain ⟨j, hj, hjs⟩ := Option.map_eq_some_iff.1 isSize
  have tT := isTypeOf
  have cT := isComparable
  have mR := isMethodComparable
  have nE := noIsE
  have uE := noUnwrapE
  have vE := noUnwrapsE
  have nW := noIsW
  have uW := hasUnwrapW
  have mU := methodUnwrap
  have heq := run_eql_iface_ptr_same (P := Tryz.prog) w b Tryz.underlying114 Tryz.underlying268 hi hcmp hj
  have hty := run_eql_iface_types (P := Tryz.prog) 241 268 (.pointer (some ⟨pb, 0, none⟩)) (.pointer (some b)) Tryz.underlying114 (by decide) w
  go_enter Tryz.func103, Tryz.ntmps103
  go_wp2
  refine wp_loop_rounds 2 ?_
  rw [rounds_succ]
  go_wp2
  rw [rounds_succ]
  go_wp2
  go_ret
  exact ⟨rfl, rfl⟩

/-- errors.Is(e, x), e an error with a place around another sentinel. -/
theorem is_wrap_other (pb : Nat) (b a : Addr) (ca cb : Array Value) (ta tb : TypeId) (w : World) (h1 : w.cell? ⟨pb, 2, none⟩ = some (.iface 268 (.pointer (some a)))) (hne : a ≠ b) (ha : w.heap[a.block]? = some (.cells ca ta (0, 0))) (hb : w.heap[b.block]? = some (.cells cb tb (0, 0))) :
    Calls Tryz.prog 103 #[.iface 241 (.pointer (some ⟨pb, 0, none⟩)), .iface 268 (.pointer (some b))] w fun e w' => e = .returned (.bool false) ∧ w = w' := by
  obtain ⟨i, hi, hcmp⟩ := Option.map_eq_some_iff.1 isComp
  obtain ⟨j, hj, hjs⟩ := Option.map_eq_some_iff.1 isSize
  have tT := isTypeOf
  have cT := isComparable
  have mR := isMethodComparable
  have nE := noIsE
  have uE := noUnwrapE
  have vE := noUnwrapsE
  have nW := noIsW
  have uW := hasUnwrapW
  have mU := methodUnwrap
  have heq := run_eql_iface_ptr_other (P := Tryz.prog) w Tryz.underlying114 Tryz.underlying268 hi hcmp hj (by rw [hjs]; decide) hne ha hb
  have hty := run_eql_iface_types (P := Tryz.prog) 241 268 (.pointer (some ⟨pb, 0, none⟩)) (.pointer (some b)) Tryz.underlying114 (by decide) w
  go_enter Tryz.func103, Tryz.ntmps103
  go_wp2
  refine wp_loop_rounds 2 ?_
  rw [rounds_succ]
  go_wp2
  rw [rounds_succ]
  go_wp2
  go_ret
  exact ⟨rfl, rfl⟩

/-- The six sentinels of package wire, as they lie: each variable holds a pointer of its own. -/
structure Sent (w : World) (a : Nat → Addr) : Prop where
  v0 : w.cell? ⟨2, 0, none⟩ = some (.iface 268 (.pointer (some (a 0))))
  v1 : w.cell? ⟨3, 0, none⟩ = some (.iface 268 (.pointer (some (a 1))))
  v2 : w.cell? ⟨4, 0, none⟩ = some (.iface 268 (.pointer (some (a 2))))
  v3 : w.cell? ⟨1, 0, none⟩ = some (.iface 268 (.pointer (some (a 3))))
  v4 : w.cell? ⟨5, 0, none⟩ = some (.iface 268 (.pointer (some (a 4))))
  v5 : w.cell? ⟨6, 0, none⟩ = some (.iface 268 (.pointer (some (a 5))))
  row : ∀ i, i < 6 → ∃ c t, w.heap[(a i).block]? = some (.cells c t (0, 0))
  ne : ∀ i j, i < 6 → j < 6 → i ≠ j → a i ≠ a j

theorem Sent.later {w w' : World} {a : Nat → Addr} (h : Sent w a) (hb : Below w.heap.size w w') : Sent w' a where
  v0 := by rw [hb.cell (p := ⟨2, 0, none⟩) (cell_block h.v0)]; exact h.v0
  v1 := by rw [hb.cell (p := ⟨3, 0, none⟩) (cell_block h.v1)]; exact h.v1
  v2 := by rw [hb.cell (p := ⟨4, 0, none⟩) (cell_block h.v2)]; exact h.v2
  v3 := by rw [hb.cell (p := ⟨1, 0, none⟩) (cell_block h.v3)]; exact h.v3
  v4 := by rw [hb.cell (p := ⟨5, 0, none⟩) (cell_block h.v4)]; exact h.v4
  v5 := by rw [hb.cell (p := ⟨6, 0, none⟩) (cell_block h.v5)]; exact h.v5
  row := fun i hi => by
    obtain ⟨c, t, hr⟩ := h.row i hi
    refine ⟨c, t, ?_⟩
    rw [hb.block _ ?_]
    · exact hr
    · rcases Nat.lt_or_ge (a i).block w.heap.size with h | h
      · exact h
      · rw [Array.getElem?_eq_none h] at hr; cases hr
  ne := h.ne

/-- errors.Is at the i-th sentinel, with a place, against the j-th. -/
theorem is_any {w : World} {a : Nat → Addr} (hS : Sent w a) (i j : Nat) (hi : i < 6) (hj : j < 6) (pb : Nat) (h1 : ErrAt w pb (a i)) :
    Calls Tryz.prog 103 #[.iface 241 (.pointer (some ⟨pb, 0, none⟩)), .iface 268 (.pointer (some (a j)))] w fun e w' => e = .returned (.bool (decide (i = j))) ∧ w = w' := by
  by_cases hij : i = j
  · subst hij
    simpa using is_wrap_same pb (a i) w h1
  · obtain ⟨ci, ti, hri⟩ := hS.row i hi
    obtain ⟨cj, tj, hrj⟩ := hS.row j hj
    simpa [hij] using is_wrap_other pb (a j) (a i) ci cj ti tj w h1 (hS.ne i j hi hj hij) hri hrj

/-- The number under which the i-th sentinel is told. -/
def errnoOf : Nat → Int
  | 0 => 3
  | 1 => 4
  | 2 => 5
  | 3 => 8
  | 4 => 6
  | _ => 7

theorem errno_nil (w : World) : Calls Tryz.prog 54 #[.nilIface] w fun e w' => e = .returned (.int .i64 0) ∧ w = w' := by
  go_enter Tryz.func54, Tryz.ntmps54
  go_wp2
  go_ret
  exact ⟨rfl, rfl⟩

set_option maxHeartbeats 1000000 in
theorem errno_any {w : World} {a : Nat → Addr} (hS : Sent w a) (i : Nat) (hi : i < 6) (pb : Nat) (h1 : ErrAt w pb (a i)) :
    Calls Tryz.prog 54 #[.iface 241 (.pointer (some ⟨pb, 0, none⟩))] w fun e w' => e = .returned (.int .i64 (errnoOf i)) ∧ w = w' := by
  have k0 := is_any hS i 0 hi (by decide) pb h1
  have k1 := is_any hS i 1 hi (by decide) pb h1
  have k2 := is_any hS i 2 hi (by decide) pb h1
  have k3 := is_any hS i 3 hi (by decide) pb h1
  have k4 := is_any hS i 4 hi (by decide) pb h1
  have H0 : Hid (Calls Tryz.prog 103 #[.iface 241 (.pointer (some ⟨pb, 0, none⟩)), .iface 268 (.pointer (some (a 0)))] w fun e w' => e = .returned (.bool (decide (i = 0))) ∧ w = w') := k0
  have H1 : Hid (Calls Tryz.prog 103 #[.iface 241 (.pointer (some ⟨pb, 0, none⟩)), .iface 268 (.pointer (some (a 1)))] w fun e w' => e = .returned (.bool (decide (i = 1))) ∧ w = w') := k1
  have H2 : Hid (Calls Tryz.prog 103 #[.iface 241 (.pointer (some ⟨pb, 0, none⟩)), .iface 268 (.pointer (some (a 2)))] w fun e w' => e = .returned (.bool (decide (i = 2))) ∧ w = w') := k2
  have H3 : Hid (Calls Tryz.prog 103 #[.iface 241 (.pointer (some ⟨pb, 0, none⟩)), .iface 268 (.pointer (some (a 3)))] w fun e w' => e = .returned (.bool (decide (i = 3))) ∧ w = w') := k3
  have H4 : Hid (Calls Tryz.prog 103 #[.iface 241 (.pointer (some ⟨pb, 0, none⟩)), .iface 268 (.pointer (some (a 4)))] w fun e w' => e = .returned (.bool (decide (i = 4))) ∧ w = w') := k4
  clear k0 k1 k2 k3 k4
  have v0 := hS.v0
  have v1 := hS.v1
  have v2 := hS.v2
  have v3 := hS.v3
  have v4 := hS.v4
  clear hS h1
  match i, hi with
  | 0, _ =>
    go_enter Tryz.func54, Tryz.ntmps54
    go_wp2_with fail
    refine H0.out.mono ?_; rintro e w' ⟨rfl, rfl⟩
    go_wp2_with fail
    go_ret
    exact ⟨rfl, rfl⟩
  | 1, _ =>
    go_enter Tryz.func54, Tryz.ntmps54
    go_wp2_with fail
    refine H0.out.mono ?_; rintro e w' ⟨rfl, rfl⟩
    go_wp2_with fail
    refine H1.out.mono ?_; rintro e w' ⟨rfl, rfl⟩
    go_wp2_with fail
    go_ret
    exact ⟨rfl, rfl⟩
  | 2, _ =>
    go_enter Tryz.func54, Tryz.ntmps54
    go_wp2_with fail
    refine H0.out.mono ?_; rintro e w' ⟨rfl, rfl⟩
    go_wp2_with fail
    refine H1.out.mono ?_; rintro e w' ⟨rfl, rfl⟩
    go_wp2_with fail
    refine H2.out.mono ?_; rintro e w' ⟨rfl, rfl⟩
    go_wp2_with fail
    go_ret
    exact ⟨rfl, rfl⟩
  | 3, _ =>
    go_enter Tryz.func54, Tryz.ntmps54
    go_wp2_with fail
    refine H0.out.mono ?_; rintro e w' ⟨rfl, rfl⟩
    go_wp2_with fail
    refine H1.out.mono ?_; rintro e w' ⟨rfl, rfl⟩
    go_wp2_with fail
    refine H2.out.mono ?_; rintro e w' ⟨rfl, rfl⟩
    go_wp2_with fail
    refine H3.out.mono ?_; rintro e w' ⟨rfl, rfl⟩
    go_wp2_with fail
    go_ret
    exact ⟨rfl, rfl⟩
  | 4, _ =>
    go_enter Tryz.func54, Tryz.ntmps54
    go_wp2_with fail
    refine H0.out.mono ?_; rintro e w' ⟨rfl, rfl⟩
    go_wp2_with fail
    refine H1.out.mono ?_; rintro e w' ⟨rfl, rfl⟩
    go_wp2_with fail
    refine H2.out.mono ?_; rintro e w' ⟨rfl, rfl⟩
    go_wp2_with fail
    refine H3.out.mono ?_; rintro e w' ⟨rfl, rfl⟩
    go_wp2_with fail
    refine H4.out.mono ?_; rintro e w' ⟨rfl, rfl⟩
    go_wp2_with fail
    go_ret
    exact ⟨rfl, rfl⟩
  | 5, _ =>
    go_enter Tryz.func54, Tryz.ntmps54
    go_wp2_with fail
    refine H0.out.mono ?_; rintro e w' ⟨rfl, rfl⟩
    go_wp2_with fail
    refine H1.out.mono ?_; rintro e w' ⟨rfl, rfl⟩
    go_wp2_with fail
    refine H2.out.mono ?_; rintro e w' ⟨rfl, rfl⟩
    go_wp2_with fail
    refine H3.out.mono ?_; rintro e w' ⟨rfl, rfl⟩
    go_wp2_with fail
    refine H4.out.mono ?_; rintro e w' ⟨rfl, rfl⟩
    go_wp2_with fail
    go_ret
    exact ⟨rfl, rfl⟩
end Go.Proofs.YtfpojgljgbgkkaaGreatDoor
