/-
  The sums: wire.sum, wire.sumBytes, accordref.sum, each by its contract.
-/
import Derived.Test.YtfpojgljgbgkkaaDoorRows
import Derived.Test.YtfpojgljgbgkkaaDoorMath
import Derived.WalkKit
import Derived.WalkSpells
import Derived.WalkLawsBesides
import Derived.LoopTactic
namespace Go.Proofs.YtfpojgljgbgkkaaDoor
open Go.RowKit

theorem ret_int {k : IntKind} {a b : Int} (h : a = b) : Ending.returned (.int k a) = .returned (.int k b) := by rw [h]
theorem ret_str {a b : ByteArray} (h : a = b) : Ending.returned (.string a) = .returned (.string b) := by rw [h]
theorem val_int {k : IntKind} {a b : Int} (h : a = b) : Value.int k a = .int k b := by rw [h]
theorem take_snoc (s : ByteArray) (k : Nat) (h : k < s.size) : s.data.toList.take (k + 1) = s.data.toList.take k ++ [s[k]] := by
  rw [List.take_succ_eq_append_getElem (by simpa using h)]; rfl

namespace M
/-- What the walk writes for one bit. -/
theorem bit_walk (c : Nat) (h : c < 4294967296) :
    bits BinOp.xor IntKind.u32 ((c : Int) / 2) (bits BinOp.and IntKind.u32 (c : Int) 1 * 3988292384 % 4294967296) = ((bitStep c : Nat) : Int) := by
  have e1 : bits BinOp.and IntKind.u32 (c : Int) 1 = ((c % 2 : Nat) : Int) := by
    have := u32_and_nat c 1 h (by decide)
    rw [Nat.and_one_is_mod] at this
    exact this
  rw [e1]
  have e2 : ((c % 2 : Nat) : Int) * 3988292384 % 4294967296 = ((c % 2 * 3988292384 : Nat) : Int) := by
    rcases Nat.mod_two_eq_zero_or_one c with e | e <;> rw [e] <;> decide
  rw [e2, show ((c : Int) / 2) = ((c / 2 : Nat) : Int) from by omega]
  exact u32_xor_nat _ _ (by omega) (by rcases Nat.mod_two_eq_zero_or_one c with e | e <;> rw [e] <;> decide)
theorem byte_walk (c : Nat) (b : UInt8) (h : c < 4294967296) : bits BinOp.xor IntKind.u32 (c : Int) ((b.toNat : Int) % 4294967296) = ((c ^^^ b.toNat : Nat) : Int) := by
  have := b.toNat_lt
  rw [show ((b.toNat : Int) % 4294967296) = ((b.toNat : Nat) : Int) from by omega]
  exact u32_xor_nat _ _ h (by omega)
theorem not_walk (c : Nat) (h : c < 4294967296) : bits BinOp.xor IntKind.u32 IntKind.u32.max (c : Int) = ((4294967295 - c : Nat) : Int) := by
  rw [← xor_all c h]
  exact u32_xor_nat 4294967295 c (by decide) h
theorem i64_xor (a b : Nat) (ha : a < 4294967296) (hb : b < 4294967296) : bits .xor .i64 (a : Int) (b : Int) = ((a ^^^ b : Nat) : Int) := by
  have hx := xor_lt32 ha hb
  have h1 : (BitVec.ofInt 64 (a : Int)).toNat = a := by
    rw [BitVec.ofInt_natCast, BitVec.toNat_ofNat]; exact Nat.mod_eq_of_lt (by omega)
  have h2 : (BitVec.ofInt 64 (b : Int)).toNat = b := by
    rw [BitVec.ofInt_natCast, BitVec.toNat_ofNat]; exact Nat.mod_eq_of_lt (by omega)
  show IntKind.i64.wrap ((BitVec.ofInt 64 (a : Int) ^^^ BitVec.ofInt 64 (b : Int)).toNat : Int) = _
  rw [BitVec.toNat_xor, h1, h2, IntKind.wrap_i64]
  omega
theorem ref_bit (b j : Nat) (hb : b < 256) : (wrap64 (b : Int) / 2 ^ j).tmod 2 = ((b / 2 ^ j % 2 : Nat) : Int) := by
  have e : wrap64 (b : Int) = (b : Int) := by unfold wrap64; omega
  rw [e, show ((b : Int) / 2 ^ j) = ((b / 2 ^ j : Nat) : Int) from by simp, Int.tmod_eq_emod_of_nonneg (Int.natCast_nonneg _)]
  omega
theorem ref_yes (b j c : Nat) (hb : b < 256) (hc : refStep b j c < 4294967296) (h : ((wrap64 (b : Int) / 2 ^ j).tmod 2 != ((refStep b j c : Nat) : Int) % 2) = true) :
    bits BinOp.xor IntKind.i64 (((refStep b j c : Nat) : Int) / 2) 3988292384 = ((refStep b (j + 1) c : Nat) : Int) := by
  rw [ref_bit b j hb, bne_iff_ne] at h
  have e : (refStep b j c + b / 2 ^ j) % 2 = 1 := by omega
  simp only [refStep, e]
  rw [show (((refStep b j c : Nat) : Int) / 2) = ((refStep b j c / 2 : Nat) : Int) from by omega]
  exact i64_xor _ 3988292384 (by omega) (by decide)
theorem ref_no (b j c : Nat) (hb : b < 256) (h : ((wrap64 (b : Int) / 2 ^ j).tmod 2 != ((refStep b j c : Nat) : Int) % 2) = false) :
    ((refStep b j c : Nat) : Int) / 2 = ((refStep b (j + 1) c : Nat) : Int) := by
  rw [ref_bit b j hb] at h
  have h' : ((b / 2 ^ j % 2 : Nat) : Int) = ((refStep b j c : Nat) : Int) % 2 := by simpa using h
  have e : (refStep b j c + b / 2 ^ j) % 2 = 0 := by omega
  simp only [refStep, e, Nat.zero_mul, Nat.xor_zero]
  omega
end M

set_option maxHeartbeats 400000 in
theorem sum_any (s : ByteArray) (w : World) (hs : s.size ≤ maxLen) :
    Calls Tryd.prog 51 #[.string s] w fun e w' => e = .returned (.int .u32 (M.crc s.data.toList : Nat)) ∧ w' = w := by
  unfold maxLen at hs
  go_enter Tryd.func51, Tryd.ntmps51
  go_wp2
  go_loop [3, 8] (fun n i => ∃ k : Nat, k ≤ s.size ∧ i = .int .i64 k ∧ n = .int .u32 (M.crcFrom 4294967295 (s.data.toList.take k) : Nat)) (fun _ i => s.size - (intOf i).toNat)
  case atStart => exact ⟨0, Nat.zero_le _, rfl, rfl⟩
  case round =>
    obtain ⟨k, hk, rfl, rfl⟩ := hrel
    have hc := M.crcFrom_lt (c := 4294967295) (s.data.toList.take k) (by decide)
    by_cases hlt : k < s.size
    · have hsn : M.crcFrom 4294967295 (s.data.toList.take (k + 1)) = M.byteStep (M.crcFrom 4294967295 (s.data.toList.take k)) s[k].toNat := by
        rw [take_snoc s k hlt, M.crcFrom_snoc]
      generalize M.crcFrom 4294967295 (s.data.toList.take k) = c at *
      have HS : Hid (M.crcFrom 4294967295 (s.data.toList.take (k + 1)) = M.byteStep c s[k].toNat) := hsn
      clear hsn
      have hx : c ^^^ s[k].toNat < 4294967296 := M.xor_lt32 hc (by have := s[k].toNat_lt; omega)
      go_wp2
      go_loop [3, 17] (fun n i => ∃ j : Nat, j ≤ 8 ∧ i = .int .i64 j ∧ n = .int .u32 (M.iter j (c ^^^ s[k].toNat) : Nat)) (fun _ i => 8 - (intOf i).toNat)
      case atStart => exact ⟨0, by omega, rfl, val_int (M.byte_walk c s[k] hc)⟩
      case round =>
        obtain ⟨j, hj, rfl, rfl⟩ := hrel
        have hi := M.iter_lt j hx
        by_cases hlt2 : j < 8
        · go_wp2
          go_round
          case rel => exact ⟨j + 1, by omega, by go_num, val_int (M.bit_walk _ hi)⟩
          case measure => simp [intOf]; omega
        · obtain rfl : j = 8 := by omega
          go_wp2
          go_round
          case rel => exact ⟨k + 1, by omega, by go_num, val_int (by rw [HS.out]; rfl)⟩
          case measure => simp [intOf]; omega
    · go_wp2
      go_ret
      refine ⟨ret_int ?_, rfl⟩
      rw [M.not_walk _ hc, List.take_of_length_le (by simp; omega)]
      rfl

/-- Bytes as a string. -/
def bs (l : List UInt8) : ByteArray := ⟨l.toArray⟩
theorem bs_list (l : List UInt8) : (bs l).data.toList = l := rfl
theorem bs_size (l : List UInt8) : (bs l).size = l.length := rfl
theorem bs_self (s : ByteArray) : bs s.data.toList = s := rfl
theorem bs_append (a b : List UInt8) : bs a ++ bs b = bs (a ++ b) := by
  apply ByteArray.ext; simp [bs]
theorem bs_inj {a b : List UInt8} (h : bs a = bs b) : a = b := by
  have := congrArg (fun s : ByteArray => s.data.toList) h; simpa [bs_list] using this
def nums (xs : List Int) : List UInt8 := xs.map fun n => UInt8.ofNat n.toNat

theorem conv_lits (w : World) (xs : List Int) (n : Nat) (hn : xs.length = n) :
    (convert 45 9 (.slice (some ⟨w.heap.size, 0, none⟩) n n)).run Tryd.prog (w.alloc (.cells (xs.map (Value.int .u8)).toArray 5)) = .ok (.string (bs (nums xs))) (w.alloc (.cells (xs.map (Value.int .u8)).toArray 5)) := by
  have h := run_convert_bytes_arg (P := Tryd.prog) (w.alloc (.cells (xs.map (Value.int .u8)).toArray 5)) 45 5 Tryd.underlying45 Tryd.underlying5 w.heap.size 0 n n xs hn
    (fun i hi => by
      rw [World.cell?_alloc_at _ _ _ _ rfl]
      simp [List.getElem?_eq_getElem (show i < xs.length by omega), List.getD]) 9 Tryd.underlying9
  exact h
theorem conv1 (w : World) (a : Int) : (convert 45 9 (.slice (some ⟨w.heap.size, 0, none⟩) 1 1)).run Tryd.prog (w.alloc (.cells #[.int .u8 a] 5)) = .ok (.string (bs (nums [a]))) (w.alloc (.cells #[.int .u8 a] 5)) := conv_lits w [a] 1 rfl
theorem conv2 (w : World) (a b : Int) : (convert 45 9 (.slice (some ⟨w.heap.size, 0, none⟩) 2 2)).run Tryd.prog (w.alloc (.cells #[.int .u8 a, .int .u8 b] 5)) = .ok (.string (bs (nums [a, b]))) (w.alloc (.cells #[.int .u8 a, .int .u8 b] 5)) := conv_lits w [a, b] 2 rfl
theorem conv3 (w : World) (a b c : Int) : (convert 45 9 (.slice (some ⟨w.heap.size, 0, none⟩) 3 3)).run Tryd.prog (w.alloc (.cells #[.int .u8 a, .int .u8 b, .int .u8 c] 5)) = .ok (.string (bs (nums [a, b, c]))) (w.alloc (.cells #[.int .u8 a, .int .u8 b, .int .u8 c] 5)) := conv_lits w [a, b, c] 3 rfl
theorem conv4 (w : World) (a b c d : Int) : (convert 45 9 (.slice (some ⟨w.heap.size, 0, none⟩) 4 4)).run Tryd.prog (w.alloc (.cells #[.int .u8 a, .int .u8 b, .int .u8 c, .int .u8 d] 5)) = .ok (.string (bs (nums [a, b, c, d]))) (w.alloc (.cells #[.int .u8 a, .int .u8 b, .int .u8 c, .int .u8 d] 5)) := conv_lits w [a, b, c, d] 4 rfl

/-- The sum in four bytes. -/
def sumL (l : List UInt8) : List UInt8 := nums [(M.crc l : Int) / 16777216, (M.crc l : Int) / 65536 % 256, (M.crc l : Int) / 256 % 256, (M.crc l : Int) % 256]
theorem sumL_len (l : List UInt8) : (sumL l).length = 4 := rfl

set_option maxRecDepth 100000 in
set_option maxHeartbeats 400000 in
theorem sumBytes_any (s : ByteArray) (w : World) (hs : s.size ≤ maxLen) :
    Calls Tryd.prog 44 #[.string s] w fun e w' => e = .returned (.string (bs (sumL s.data.toList))) ∧ Below w.heap.size w w' := by
  have hc := M.crc_lt s.data.toList
  have k4 := conv4
  go_enter Tryd.func44, Tryd.ntmps44
  go_wp2_with (go_at_call 51; refine (sum_any s _ hs).mono ?_; rintro e w' ⟨rfl, rfl⟩)
  go_ret
  exact ⟨rfl, (Below.refl _ _).alloc (Nat.le_refl _) _⟩

set_option maxRecDepth 100000 in
set_option maxHeartbeats 1000000 in
theorem refSum_any (s : ByteArray) (w : World) (hs : s.size ≤ maxLen) :
    Calls Tryd.prog 23 #[.string s] w fun e w' => e = .returned (.string (bs (sumL s.data.toList))) ∧ Below w.heap.size w w' := by
  unfold maxLen at hs
  have k4 := conv4
  go_enter Tryd.func23, Tryd.ntmps23
  go_wp2
  go_loop [3, 4] (fun n i => ∃ k : Nat, k ≤ s.size ∧ i = .int .i64 k ∧ n = .int .i64 (M.crcFrom 4294967295 (s.data.toList.take k) : Nat)) (fun _ i => s.size - (intOf i).toNat)
  case atStart => exact ⟨0, Nat.zero_le _, rfl, rfl⟩
  case round =>
    obtain ⟨k, hk, rfl, rfl⟩ := hrel
    have hc := M.crcFrom_lt (c := 4294967295) (s.data.toList.take k) (by decide)
    by_cases hlt : k < s.size
    · have hsn : M.crcFrom 4294967295 (s.data.toList.take (k + 1)) = M.byteStep (M.crcFrom 4294967295 (s.data.toList.take k)) s[k].toNat := by
        rw [take_snoc s k hlt, M.crcFrom_snoc]
      generalize M.crcFrom 4294967295 (s.data.toList.take k) = c at *
      have HS : Hid (M.crcFrom 4294967295 (s.data.toList.take (k + 1)) = M.byteStep c s[k].toNat) := hsn
      clear hsn
      go_wp2
      go_loop [3, 5] (fun n i => ∃ j : Nat, j ≤ 8 ∧ i = .int .i64 j ∧ n = .int .i64 (M.refStep s[k].toNat j c : Nat)) (fun _ i => 8 - (intOf i).toNat)
      case atStart => exact ⟨0, by omega, rfl, rfl⟩
      case round =>
        obtain ⟨j, hj, rfl, rfl⟩ := hrel
        have hi := M.refStep_lt (b := s[k].toNat) j hc
        by_cases hlt2 : j < 8
        · go_wp2
          · go_round
            case rel => exact ⟨j + 1, by omega, by go_num, val_int (M.ref_yes _ j c s[k].toNat_lt hi ‹_›)⟩
            case measure => simp [intOf]; omega
          · go_round
            case rel => exact ⟨j + 1, by omega, by go_num, val_int (M.ref_no _ j c s[k].toNat_lt ‹_›)⟩
            case measure => simp [intOf]; omega
        · obtain rfl : j = 8 := by omega
          go_wp2
          go_round
          case rel => exact ⟨k + 1, by omega, by go_num, val_int (by rw [HS.out, M.ref_eight])⟩
          case measure => simp [intOf]; omega
    · go_wp2
      go_ret
      have e : s.data.toList.take k = s.data.toList := List.take_of_length_le (by simp; omega)
      rw [e] at hc ⊢
      have e2 : (4294967295 : Int) - (M.crcFrom 4294967295 s.data.toList : Nat) = (M.crc s.data.toList : Nat) := by unfold M.crc; omega
      rw [e2]
      exact ⟨rfl, (Below.refl _ _).alloc (Nat.le_refl _) _⟩
end Go.Proofs.YtfpojgljgbgkkaaDoor
