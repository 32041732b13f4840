/-
  Plain mathematics of the sum: up to four bytes that stand together can't be turned unseen.
-/
import Derived.Test.YtfpojgljgbgkkaaDoorSame
namespace Go.Proofs.YtfpojgljgbgkkaaDoor
namespace M

theorem bitStep_xor (x y : Nat) : bitStep (x ^^^ y) = bitStep x ^^^ bitStep y := by
  unfold bitStep
  have e1 : (x ^^^ y) / 2 = x / 2 ^^^ y / 2 := Nat.xor_div_two
  have e2 : (x ^^^ y) % 2 * 3988292384 = (x % 2 * 3988292384) ^^^ (y % 2 * 3988292384) := by
    have h1 := @Nat.xor_mod_two_eq_one x y
    rcases Nat.mod_two_eq_zero_or_one x with hx | hx <;> rcases Nat.mod_two_eq_zero_or_one y with hy | hy <;> rcases Nat.mod_two_eq_zero_or_one (x ^^^ y) with hz | hz <;> simp [hx, hy, hz] at h1 ⊢
  rw [e1, e2]
  rw [Nat.xor_assoc, Nat.xor_assoc]
  congr 1
  rw [← Nat.xor_assoc, Nat.xor_comm (y / 2), Nat.xor_assoc]
theorem iter_xor (n x y : Nat) : iter n (x ^^^ y) = iter n x ^^^ iter n y := by
  induction n with
  | zero => rfl
  | succ n ih => simp only [iter, ih, bitStep_xor]
theorem bitStep_even (z : Nat) : bitStep (2 * z) = z := by
  unfold bitStep
  rw [show 2 * z / 2 = z from by omega, show 2 * z % 2 = 0 from by omega]
  simp
theorem iter_shift (n z : Nat) : iter n (2 ^ n * z) = z := by
  induction n generalizing z with
  | zero => simp [iter]
  | succ n ih =>
    have : 2 ^ (n + 1) * z = 2 ^ n * (2 * z) := by rw [Nat.pow_succ]; simp [Nat.mul_assoc]
    rw [iter, this, ih, bitStep_even]
theorem iter_add (m n x : Nat) : iter m (iter n x) = iter (m + n) x := by
  induction m with
  | zero => simp [iter]
  | succ m ih => rw [show m + 1 + n = (m + n) + 1 from by omega]; simp only [iter, ih]
theorem bitStep_inj {a b : Nat} (ha : a < 4294967296) (hb : b < 4294967296) (h : bitStep a = bitStep b) : a = b := by
  have key : ∀ c : Nat, c < 4294967296 → (bitStep c).testBit 31 = decide (c % 2 = 1) := by
    intro c hc
    unfold bitStep
    rw [Nat.testBit_xor, Nat.testBit_lt_two_pow (show c / 2 < 2 ^ 31 by omega)]
    rcases Nat.mod_two_eq_zero_or_one c with e | e <;> rw [e] <;> decide
  have h31 := congrArg (fun n => Nat.testBit n 31) h
  simp only [key a ha, key b hb] at h31
  have hm : a % 2 = b % 2 := by
    rcases Nat.mod_two_eq_zero_or_one a with e | e <;> rcases Nat.mod_two_eq_zero_or_one b with e' | e' <;> simp [e, e'] at h31 ⊢
  unfold bitStep at h
  rw [hm] at h
  have : a / 2 = b / 2 := by
    have h2 := congrArg (fun n => n ^^^ (b % 2 * 3988292384)) h
    simpa [Nat.xor_assoc] using h2
  omega
theorem iter_inj (n : Nat) {a b : Nat} (ha : a < 4294967296) (hb : b < 4294967296) (h : iter n a = iter n b) : a = b := by
  induction n with
  | zero => exact h
  | succ n ih => exact ih (bitStep_inj (iter_lt n ha) (iter_lt n hb) h)
theorem crcFrom_inj (l : List UInt8) {a b : Nat} (ha : a < 4294967296) (hb : b < 4294967296) (h : crcFrom a l = crcFrom b l) : a = b := by
  induction l generalizing a b with
  | nil => exact h
  | cons c l ih =>
    have h1 : byteStep a c.toNat = byteStep b c.toNat := ih (byteStep_lt c ha) (byteStep_lt c hb) h
    have hc : c.toNat < 4294967296 := by have := c.toNat_lt; omega
    have h2 := iter_inj 8 (xor_lt32 ha hc) (xor_lt32 hb hc) h1
    have h3 := congrArg (fun n => n ^^^ c.toNat) h2
    simpa [Nat.xor_assoc] using h3

/-- The bytes as one number, the first one lowest. -/
def word : List UInt8 → Nat
  | [] => 0
  | b :: l => b.toNat ^^^ (2 ^ 8 * word l)
theorem crc_word (c : Nat) (l : List UInt8) : crcFrom c l = iter (8 * l.length) (c ^^^ word l) := by
  induction l generalizing c with
  | nil => simp [crcFrom, word, iter]
  | cons b l ih =>
    show crcFrom (byteStep c b.toNat) l = _
    rw [ih]
    have e : byteStep c b.toNat ^^^ word l = iter 8 (c ^^^ word (b :: l)) := by
      rw [word, ← Nat.xor_assoc, iter_xor, iter_shift]
      rfl
    rw [e, iter_add, List.length_cons, Nat.mul_add]
theorem word_add (b : UInt8) (l : List UInt8) : word (b :: l) = b.toNat + 256 * word l := by
  rw [word, Nat.xor_comm]
  have h := Nat.two_pow_add_eq_or_of_lt (i := 8) (b := b.toNat) b.toNat_lt (word l)
  rw [show b.toNat + 256 * word l = 2 ^ 8 * word l + b.toNat from by omega, h]
  apply Nat.eq_of_testBit_eq
  intro i
  rw [Nat.testBit_xor, Nat.testBit_or, Nat.testBit_two_pow_mul]
  by_cases hi : 8 ≤ i
  · have : b.toNat.testBit i = false := Nat.testBit_lt_two_pow (Nat.lt_of_lt_of_le b.toNat_lt (Nat.pow_le_pow_right (n := 2) (by decide) hi))
    simp [this]
  · simp [hi]
theorem word_lt (l : List UInt8) : word l < 256 ^ l.length := by
  induction l with
  | nil => decide
  | cons b l ih =>
    have := b.toNat_lt
    rw [word_add, List.length_cons, Nat.pow_succ]
    omega
theorem word_inj : ∀ (l m : List UInt8), l.length = m.length → word l = word m → l = m
  | [], [], _, _ => rfl
  | [], _ :: _, h, _ => by simp at h
  | _ :: _, [], h, _ => by simp at h
  | b :: l, c :: m, h, e => by
    rw [word_add, word_add] at e
    have hb := b.toNat_lt
    have hc := c.toNat_lt
    have e1 : b.toNat = c.toNat := by omega
    have e2 : word l = word m := by omega
    rw [UInt8.toNat.inj e1, word_inj l m (by simpa using h) e2]
/-- Up to four bytes, behind one beginning and ahead of one end. -/
theorem burst (p u v s : List UInt8) (h4 : u.length ≤ 4) (huv : u.length = v.length) (h : crc (p ++ u ++ s) = crc (p ++ v ++ s)) : u = v := by
  have hp : crcFrom 4294967295 p < 4294967296 := crcFrom_lt p (by decide)
  have e : crcFrom 4294967295 (p ++ u ++ s) = crcFrom 4294967295 (p ++ v ++ s) := by
    have h1 := crcFrom_lt (c := 4294967295) (p ++ u ++ s) (by decide)
    have h2 := crcFrom_lt (c := 4294967295) (p ++ v ++ s) (by decide)
    unfold crc at h
    omega
  have app : ∀ a b : List UInt8, ∀ c, crcFrom c (a ++ b) = crcFrom (crcFrom c a) b := fun a b c => by simp [crcFrom, List.foldl_append]
  rw [app, app, app, app] at e
  have e2 := crcFrom_inj s (crcFrom_lt u hp) (crcFrom_lt v hp) e
  generalize crcFrom 4294967295 p = c0 at *
  rw [crc_word c0 u, crc_word c0 v, ← huv] at e2
  have hw : ∀ l : List UInt8, l.length ≤ 4 → word l < 4294967296 := fun l hl => Nat.lt_of_lt_of_le (word_lt l) (by
    have := Nat.pow_le_pow_right (n := 256) (by decide) hl
    simpa using this)
  have e3 := iter_inj _ (xor_lt32 hp (hw u h4)) (xor_lt32 hp (hw v (by omega))) e2
  have e4 := congrArg (fun n => c0 ^^^ n) e3
  simp only [← Nat.xor_assoc, Nat.xor_self, Nat.zero_xor] at e4
  exact word_inj u v huv e4
end M
/-- Four bytes tell the whole sum. -/
theorem sumL_inj (l m : List UInt8) (h : sumL l = sumL m) : M.crc l = M.crc m := by
  have h1 := M.crc_lt l
  have h2 := M.crc_lt m
  simp only [sumL, nums, List.map_cons, List.map_nil, List.cons.injEq, and_true] at h
  obtain ⟨a, b, c, d⟩ := h
  have a' := congrArg UInt8.toNat a
  have b' := congrArg UInt8.toNat b
  have c' := congrArg UInt8.toNat c
  have d' := congrArg UInt8.toNat d
  simp only [UInt8.toNat_ofNat'] at a' b' c' d'
  omega
end Go.Proofs.YtfpojgljgbgkkaaDoor
