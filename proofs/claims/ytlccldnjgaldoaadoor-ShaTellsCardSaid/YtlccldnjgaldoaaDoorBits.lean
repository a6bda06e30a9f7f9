/- Plain facts on words of 32 bits: the reference's ways of reckoning are the program's. -/
import Derived.Test.YtlccldnjgaldoaaDoorMem
import Derived.Laws.BitsAllLaws
namespace Go.Proofs.YtlccldnjgaldoaaDoor
open Go
def InW (x : Int) : Prop := 0 ≤ x ∧ x < 4294967296
theorem InW.mod (x : Int) : InW (x % 4294967296) := ⟨by omega, by omega⟩
theorem InW.bits (op : BinOp) (x y : Int) : InW (bits op .u32 x y) := by
  unfold Go.bits
  rw [IntKind.wrap_u32]
  exact InW.mod _
theorem InW.rot (x n : Int) : InW (rotI x n) := InW.bits _ _ _
theorem InW.nat {x : Int} (h : InW x) : ∃ a : Nat, x = (a : Int) ∧ a < 4294967296 := ⟨x.toNat, by have := h.1; omega, by have := h.2; omega⟩
theorem rot_eq (x : Int) (n : Nat) (h1 : 1 ≤ n) (h2 : n ≤ 31) (hx : InW x) : (x / 2 ^ n + x * 2 ^ (32 - n)) % 4294967296 = rotI x n := by
  obtain ⟨a, rfl, ha⟩ := hx.nat
  unfold rotI
  have e1 : ((n : Int)).toNat = n := by omega
  have e2 : (32 - (n : Int)).toNat = 32 - n := by omega
  rw [e1, e2]
  have hp : 2 ^ (32 - n) * 2 ^ n = 4294967296 := by rw [← Nat.pow_add, show 32 - n + n = 32 by omega]
  have hpos : 0 < 2 ^ n := Nat.two_pow_pos n
  have hpos' : 0 < 2 ^ (32 - n) := Nat.two_pow_pos _
  have hlt : a / 2 ^ n < 2 ^ (32 - n) := by
    rw [Nat.div_lt_iff_lt_mul hpos, hp]
    exact ha
  have hmod : a * 2 ^ (32 - n) % 4294967296 = (a % 2 ^ n) <<< (32 - n) := by
    rw [Nat.shiftLeft_eq, ← hp, Nat.mul_comm a, Nat.mul_mod_mul_left, Nat.mul_comm]
  have hbig : (a % 2 ^ n) <<< (32 - n) + a / 2 ^ n < 4294967296 := by
    rw [Nat.shiftLeft_eq]
    have hm : a % 2 ^ n + 1 ≤ 2 ^ n := Nat.mod_lt _ hpos
    calc a % 2 ^ n * 2 ^ (32 - n) + a / 2 ^ n < a % 2 ^ n * 2 ^ (32 - n) + 2 ^ (32 - n) := by omega
      _ = (a % 2 ^ n + 1) * 2 ^ (32 - n) := by rw [Nat.add_mul, Nat.one_mul]
      _ ≤ 2 ^ n * 2 ^ (32 - n) := Nat.mul_le_mul_right _ hm
      _ = 4294967296 := by rw [Nat.mul_comm, hp]
  have c1 : ((a : Int) / 2 ^ n) = ((a / 2 ^ n : Nat) : Int) := by simp
  have c2 : ((a : Int) * 2 ^ (32 - n)) = ((a * 2 ^ (32 - n) : Nat) : Int) := by simp
  have c3 : ((a * 2 ^ (32 - n) : Nat) : Int) % 4294967296 = (((a % 2 ^ n) <<< (32 - n) : Nat) : Int) := by
    rw [← hmod]; simp
  rw [c1, c2, c3, u32_or_nat _ _ (by omega) (by omega), Nat.or_comm, ← Nat.shiftLeft_add_eq_or_of_lt hlt]
  clear c1 c2 c3 hlt hpos hpos' hp e1 e2
  generalize a * 2 ^ (32 - n) = M at *
  generalize (a % 2 ^ n) <<< (32 - n) = R at *
  generalize a / 2 ^ n = Q at *
  omega
theorem not_eq (x : Int) (hx : InW x) : bits BinOp.xor IntKind.u32 IntKind.u32.max x = 4294967295 - x := by
  obtain ⟨a, rfl, ha⟩ := hx.nat
  have hm : IntKind.u32.max = ((4294967295 : Nat) : Int) := by decide
  rw [hm, u32_xor_nat _ _ (by omega) ha]
  have h : 4294967295 ^^^ a = 4294967295 - a := by
    have h2 : (4294967295 : Nat) = 2 ^ 32 - 1 := by decide
    apply Nat.eq_of_testBit_eq
    intro i
    rw [Nat.testBit_xor, h2, Nat.testBit_two_pow_sub_one, show 2 ^ 32 - 1 - a = 2 ^ 32 - (a + 1) by omega, Nat.testBit_two_pow_sub_succ (by omega)]
    by_cases hi : i < 32
    · simp [hi]
    · have : a.testBit i = false := Nat.testBit_lt_two_pow (Nat.lt_of_lt_of_le ha (by rw [show (4294967296 : Nat) = 2 ^ 32 by decide]; exact Nat.pow_le_pow_right (by omega) (by omega)))
      simp [hi, this]
  rw [h]
  omega
theorem ch_eq (e f g : Int) (he : InW e) : bits BinOp.xor IntKind.u32 (bits BinOp.and IntKind.u32 e f) (bits BinOp.and IntKind.u32 (4294967295 - e) g) = chI e f g := by
  unfold chI
  rw [not_eq e he]
theorem maj_eq (a b c : Int) (ha : InW a) (hb : InW b) (hc : InW c) : bits BinOp.or IntKind.u32 (bits BinOp.or IntKind.u32 (bits BinOp.and IntKind.u32 a b) (bits BinOp.and IntKind.u32 a c)) (bits BinOp.and IntKind.u32 b c) = majI a b c := by
  obtain ⟨x, rfl, hx⟩ := ha.nat
  obtain ⟨y, rfl, hy⟩ := hb.nat
  obtain ⟨z, rfl, hz⟩ := hc.nat
  have l1 : x &&& y < 4294967296 := Nat.lt_of_le_of_lt Nat.and_le_left hx
  have l2 : x &&& z < 4294967296 := Nat.lt_of_le_of_lt Nat.and_le_left hx
  have l3 : y &&& z < 4294967296 := Nat.lt_of_le_of_lt Nat.and_le_left hy
  have l4 : (x &&& y) ||| (x &&& z) < 2 ^ 32 := Nat.or_lt_two_pow l1 l2
  have l5 : (x &&& y) ^^^ (x &&& z) < 2 ^ 32 := Nat.xor_lt_two_pow l1 l2
  unfold majI
  rw [u32_and_nat x y hx hy, u32_and_nat x z hx hz, u32_and_nat y z hy hz, u32_or_nat _ _ l1 l2, u32_or_nat _ _ l4 l3, u32_xor_nat _ _ l1 l2, u32_xor_nat _ _ l5 l3]
  congr 1
  apply Nat.eq_of_testBit_eq
  intro i
  simp only [Nat.testBit_or, Nat.testBit_and, Nat.testBit_xor]
  cases x.testBit i <;> cases y.testBit i <;> cases z.testBit i <;> rfl
theorem mul_two (a b : Nat) : (a * 256 + b) * 65536 = a * 16777216 + b * 65536 := by omega
theorem mul_three (a b c : Nat) : (a * 65536 + b * 256 + c) * 256 = a * 16777216 + b * 65536 + c * 256 := by omega
theorem word_eq (a b c d : Int) (ha : 0 ≤ a ∧ a ≤ 255) (hb : 0 ≤ b ∧ b ≤ 255) (hc : 0 ≤ c ∧ c ≤ 255) (hd : 0 ≤ d ∧ d ≤ 255) : 16777216 * a + 65536 * b + 256 * c + d = wordI a b c d := by
  obtain ⟨a, rfl⟩ := Int.eq_ofNat_of_zero_le ha.1
  obtain ⟨b, rfl⟩ := Int.eq_ofNat_of_zero_le hb.1
  obtain ⟨c, rfl⟩ := Int.eq_ofNat_of_zero_le hc.1
  obtain ⟨d, rfl⟩ := Int.eq_ofNat_of_zero_le hd.1
  have ha' : a ≤ 255 := by omega
  have hb' : b ≤ 255 := by omega
  have hc' : c ≤ 255 := by omega
  have hd' : d ≤ 255 := by omega
  unfold wordI
  have c1 : ((a : Int) * 16777216) = ((a * 16777216 : Nat) : Int) := by simp
  have c2 : ((b : Int) * 65536) = ((b * 65536 : Nat) : Int) := by simp
  have c3 : ((c : Int) * 256) = ((c * 256 : Nat) : Int) := by simp
  have o1 : a * 16777216 ||| b * 65536 = a * 16777216 + b * 65536 := by
    have h := Nat.shiftLeft_add_eq_or_of_lt (a := a) (b := b * 65536) (i := 24) (by omega)
    rw [Nat.shiftLeft_eq] at h
    exact h.symm
  have o2 : a * 16777216 + b * 65536 ||| c * 256 = a * 16777216 + b * 65536 + c * 256 := by
    have h := Nat.shiftLeft_add_eq_or_of_lt (a := a * 256 + b) (b := c * 256) (i := 16) (by omega)
    rw [Nat.shiftLeft_eq] at h
    rw [show (2 : Nat) ^ 16 = 65536 from rfl, mul_two] at h
    exact h.symm
  have o3 : a * 16777216 + b * 65536 + c * 256 ||| d = a * 16777216 + b * 65536 + c * 256 + d := by
    have h := Nat.shiftLeft_add_eq_or_of_lt (a := a * 65536 + b * 256 + c) (b := d) (i := 8) (by omega)
    rw [Nat.shiftLeft_eq] at h
    rw [show (2 : Nat) ^ 8 = 256 from rfl, mul_three] at h
    exact h.symm
  rw [c1, c2, c3, u32_or_nat _ _ (by omega) (by omega), o1, u32_or_nat _ _ (by omega) (by omega), o2, u32_or_nat _ _ (by omega) (by omega), o3]
  omega
theorem InW.word (a b c d : Int) : InW (wordI a b c d) := InW.bits _ _ _
end Go.Proofs.YtlccldnjgaldoaaDoor
