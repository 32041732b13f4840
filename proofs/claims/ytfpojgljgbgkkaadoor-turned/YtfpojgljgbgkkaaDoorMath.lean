/-
  Plain mathematics of the document's bytes: the sum of 32 bits, numbers in one byte or two, frames. No program in sight.
-/
import Derived.Laws.BitsAllLaws
namespace Go.Proofs.YtfpojgljgbgkkaaDoor
namespace M

/-- One bit of the sum. -/
def bitStep (c : Nat) : Nat := (c / 2) ^^^ (c % 2 * 3988292384)
def iter : Nat → Nat → Nat
  | 0, c => c
  | n + 1, c => bitStep (iter n c)
def byteStep (c b : Nat) : Nat := iter 8 (c ^^^ b)
def crcFrom (c : Nat) (l : List UInt8) : Nat := l.foldl (fun c b => byteStep c b.toNat) c
def crc (l : List UInt8) : Nat := 4294967295 - crcFrom 4294967295 l

theorem xor_lt32 {a b : Nat} (ha : a < 4294967296) (hb : b < 4294967296) : a ^^^ b < 4294967296 :=
  Nat.xor_lt_two_pow (n := 32) ha hb
theorem bitStep_lt {c : Nat} (h : c < 4294967296) : bitStep c < 4294967296 := by
  unfold bitStep
  apply xor_lt32
  · omega
  · rcases Nat.mod_two_eq_zero_or_one c with e | e <;> rw [e] <;> decide
theorem iter_lt {c : Nat} (n : Nat) (h : c < 4294967296) : iter n c < 4294967296 := by
  induction n with
  | zero => exact h
  | succ n ih => exact bitStep_lt ih
theorem byteStep_lt {c : Nat} (b : UInt8) (h : c < 4294967296) : byteStep c b.toNat < 4294967296 :=
  iter_lt 8 (xor_lt32 h (by have := b.toNat_lt; omega))
theorem crcFrom_lt {c : Nat} (l : List UInt8) (h : c < 4294967296) : crcFrom c l < 4294967296 := by
  induction l generalizing c with
  | nil => exact h
  | cons b l ih => exact ih (byteStep_lt b h)
theorem crc_lt (l : List UInt8) : crc l < 4294967296 := by unfold crc; omega
theorem crcFrom_snoc (c : Nat) (l : List UInt8) (b : UInt8) : crcFrom c (l ++ [b]) = byteStep (crcFrom c l) b.toNat := by
  simp [crcFrom, List.foldl_append]
theorem xor_all (c : Nat) (h : c < 4294967296) : 4294967295 ^^^ c = 4294967295 - c := by
  have e : (4294967295 : Nat) = 2 ^ 32 - 1 := by decide
  rw [Nat.xor_comm, e]
  apply Nat.eq_of_testBit_eq
  intro i
  rw [Nat.testBit_xor, Nat.testBit_two_pow_sub_one]
  rw [show 2 ^ 32 - 1 - c = 2 ^ 32 - (c + 1) from by omega, Nat.testBit_two_pow_sub_succ (by simpa using h)]
  by_cases hi : i < 32
  · simp [hi]
  · simp [hi]
    exact Nat.testBit_lt_two_pow (Nat.lt_of_lt_of_le h (Nat.pow_le_pow_right (n := 2) (by decide) (by omega : 32 ≤ i)))

/-- The document's answer takes the bits of a byte one by one: what stands behind k of them. -/
def refStep (b : Nat) : Nat → Nat → Nat
  | 0, c => c
  | k + 1, c => (refStep b k c / 2) ^^^ ((refStep b k c + b / 2 ^ k) % 2 * 3988292384)
theorem iter_ref (b c k : Nat) : iter k (c ^^^ b) = refStep b k c ^^^ (b / 2 ^ k) := by
  induction k with
  | zero => simp [iter, refStep]
  | succ k ih =>
    simp only [iter, refStep, ih, bitStep]
    generalize refStep b k c = x
    have h2 : b / 2 ^ (k + 1) = b / 2 ^ k / 2 := by rw [Nat.pow_succ, Nat.div_div_eq_div_mul]
    rw [h2]
    generalize b / 2 ^ k = y
    have e1 : (x ^^^ y) / 2 = x / 2 ^^^ y / 2 := Nat.xor_div_two
    have e2 : (x ^^^ y) % 2 = (x + y) % 2 := by
      have h1 := @Nat.xor_mod_two_eq_one x y
      omega
    rw [e1, e2, Nat.xor_assoc, Nat.xor_assoc, Nat.xor_comm (y / 2)]
theorem refStep_lt {b c : Nat} (k : Nat) (h : c < 4294967296) : refStep b k c < 4294967296 := by
  induction k with
  | zero => exact h
  | succ k ih =>
    simp only [refStep]
    apply xor_lt32
    · omega
    · rcases Nat.mod_two_eq_zero_or_one (refStep b k c + b / 2 ^ k) with e | e <;> rw [e] <;> decide
theorem ref_eight (b : UInt8) (c : Nat) : refStep b.toNat 8 c = byteStep c b.toNat := by
  unfold byteStep
  rw [iter_ref]
  have := b.toNat_lt
  rw [Nat.div_eq_of_lt (by simpa using this)]
  simp

end M
end Go.Proofs.YtfpojgljgbgkkaaDoor
