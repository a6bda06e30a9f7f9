/- The walks of the reference: pow and turn. -/
import Derived.Test.YtlccldnjgaldoaaDoorWalk9
import Derived.Test.YtlccldnjgaldoaaDoorBits
import Derived.WalkKit
import Derived.ProofKit
import Derived.Handy
import Derived.Deep.RegionHeld
import Derived.Maps.AppendAt
import Derived.Laws.BytesArg
import Derived.OpenShut
import Derived.ChangeKeysEq
import Derived.Lib.SlBytesConst
import Derived.Deep.MidRow
import Derived.Laws.CopyOwn
import Derived.Laws.MakeOwn
import Derived.Deep.WholeRow
import Derived.Deep.Cut
import Derived.Deep.QuietTactic
import Derived.BigQuiet
import Derived.StillTailTactics
import Derived.Lib.Hide
namespace Go.Proofs.YtlccldnjgaldoaaDoor
open Go.RowKit













theorem pow_nat (k : Nat) : (2 : Int) * ((2 : Int) ^ k % 4294967296) % 4294967296 = (2 : Int) ^ (k + 1) % 4294967296 := by
  rw [Int.pow_succ]
  generalize (2 : Int) ^ k = y
  omega
set_option maxHeartbeats 1000000 in
theorem pow_any (n : Nat) (w : World) (h : n ≤ 32) : Calls Tryd.prog 29 #[.int .i64 (n : Int)] w fun e w' => e = .returned (.int .u32 ((2 : Int) ^ n % 4294967296)) ∧ w' = w := by
  go_enter Tryd.func29, Tryd.ntmps29
  go_wp2
  go_loop [3, 4] (fun t i => ∃ k : Nat, k ≤ n ∧ i = .int .i64 k ∧ t = .int .u32 ((2 : Int) ^ k % 4294967296)) (fun _ i => n - (intOf i).toNat)
  case atStart => exact ⟨0, by omega, rfl, by simp⟩
  case round =>
    obtain ⟨k, hk, rfl, rfl⟩ := hrel
    have hp := Lib.hid (pow_nat k)
    have r := InW.mod ((2 : Int) ^ k)
    generalize hY : (2 : Int) ^ k % 4294967296 = y at *
    have HY := Lib.hid hY
    clear hY
    obtain ⟨r0, r1⟩ := r
    by_cases hlt : k < n
    · go_wp2
      go_round
      case rel => exact ⟨k + 1, by omega, by go_num, by rw [← hp.out]⟩
      case measure => simp [intOf]; omega
    · obtain rfl : k = n := by omega
      go_wp2
      go_ret
      exact ⟨by rw [HY.out]; rfl, rfl⟩
set_option maxHeartbeats 1000000 in
theorem rturn_any (x : Int) (n : Nat) (w : World) (h1 : 1 ≤ n) (h2 : n ≤ 31) (hx : InW x) :
    Calls Tryd.prog 26 #[.int .u32 x, .int .i64 (n : Int)] w fun e w' => e = .returned (.int .u32 (rotI x n)) ∧ ∃ q, w' = w.drewN q := by
  have hr := rot_eq x n h1 h2 hx
  obtain ⟨x0, x1⟩ := hx
  have q1 : (2 : Int) ^ n % 4294967296 = 2 ^ n := by
    have h : (2 : Nat) ^ n < 2 ^ 32 := Nat.pow_lt_pow_right (by omega) (by omega)
    have h' : ((2 ^ n : Nat) : Int) < 4294967296 := by have e : (2 : Nat) ^ 32 = 4294967296 := rfl; omega
    have e : ((2 ^ n : Nat) : Int) = (2 : Int) ^ n := by simp
    rw [← e]
    exact Int.emod_eq_of_lt (Int.natCast_nonneg _) h'
  have q2 : (2 : Int) ^ (32 - n) % 4294967296 = 2 ^ (32 - n) := by
    have h : (2 : Nat) ^ (32 - n) < 2 ^ 32 := Nat.pow_lt_pow_right (by omega) (by omega)
    have h' : ((2 ^ (32 - n) : Nat) : Int) < 4294967296 := by have e : (2 : Nat) ^ 32 = 4294967296 := rfl; omega
    have e : ((2 ^ (32 - n) : Nat) : Int) = (2 : Int) ^ (32 - n) := by simp
    rw [← e]
    exact Int.emod_eq_of_lt (Int.natCast_nonneg _) h'
  have p0 : 0 < (2 : Int) ^ n := by
    have h : 0 < (2 : Nat) ^ n := Nat.two_pow_pos n
    have e : ((2 ^ n : Nat) : Int) = (2 : Int) ^ n := by simp
    omega
  have c1 := fun u : World => pow_any n u (by omega)
  have c2 := fun u : World => pow_any (32 - n) u (by omega)
  rw [q1] at c1
  rw [q2] at c2
  generalize (2 : Int) ^ n = p1 at *
  generalize (2 : Int) ^ (32 - n) = p2 at *
  have C1 := Lib.hid c1
  have C2 := Lib.hid c2
  have HR := Lib.hid hr
  have r1 : InW (x / p1) := ⟨Int.ediv_nonneg x0 (by omega), Int.lt_of_le_of_lt (Int.ediv_le_self p1 x0) x1⟩
  obtain ⟨r10, r11⟩ := r1
  clear c1 c2 hr q1 q2
  have s1 : IntKind.i64.wrap (32 - (n : Int)) = ((32 - n : Nat) : Int) := by rw [IntWalk.i64_in _ (by omega)]; omega
  have s2 : (p1 == 0) = false := by simp; omega
  have s3 : ¬ p1 = 0 := by omega
  have s4 : x.tdiv p1 = x / p1 := Int.tdiv_eq_ediv_of_nonneg x0
  have s5 : IntKind.u32.wrap (x / p1) = x / p1 := by rw [IntKind.wrap_u32]; omega
  go_enter Tryd.func26, Tryd.ntmps26
  go_wp2_with fail
  go_quiet ((go_at_call 29; first | (with_reducible exact Calls.quiet_of_same (C1.out _)) | (with_reducible exact Calls.quiet_of_same (C2.out _))))
  have e : (x / p1 + x * p2 % 4294967296) % 4294967296 = rotI x n := by
    rw [← HR.out]
    generalize x / p1 = A
    generalize x * p2 = B
    omega
  have E := Lib.hid e
  clear e s1 s2 s3 s4 s5
  go_wp2
  go_ret
  exact ⟨by show Ending.returned (.int .u32 ((x / p1 + x * p2 % 4294967296) % 4294967296)) = _; rw [E.out], nq, rfl⟩
end Go.Proofs.YtlccldnjgaldoaaDoor
