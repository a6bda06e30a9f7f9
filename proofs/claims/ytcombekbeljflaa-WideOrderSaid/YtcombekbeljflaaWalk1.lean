/- The walks of the leaves of package wide: Add64 and Sub64 as the model has them, part, bit, partOfByte, Of. -/
import Derived.Test.YtcombekbeljflaaMem
import Derived.Test.YtcombekbeljflaaProg
import Derived.WalkKit
import Derived.ProofKit
import Derived.Handy
import Derived.Laws.Externs
import Derived.Laws.BitsAllLaws
import Derived.Deep.WholeRow
import Derived.Deep.Cut
import Derived.Deep.QuietTactic
import Derived.BigQuiet
import Derived.StillTailTactics
import Derived.Lib.Hide
namespace Go.Proofs.Ytcombekbeljflaa
open Go.RowKit

def adc (x y c : Int) : Int := (x + y + c) % 18446744073709551616
def adk (x y c : Int) : Int := (x + y + c) / 18446744073709551616
def sbc (x y c : Int) : Int := (x - y - c) % 18446744073709551616
def sbk (x y c : Int) : Int := if x < y + c then 1 else 0

theorem add64 (x y c : Int) (hx : 0 ≤ x) (hy : 0 ≤ y) (hc0 : 0 ≤ c) (hc : c ≤ 1) (w : World) : (callFunc 29 #[.int .u64 x, .int .u64 y, .int .u64 c]).run Try.prog w =
    .ok (.value (.tuple #[.int .u64 (adc x y c), .int .u64 (adk x y c)])) w := by
  rw [run_callFunc_extern Try.func29 (by kernel_rfl) (by kernel_rfl) (by kernel_rfl) (e := add64Entry) (by kernel_rfl), run_add64 x y c hx hy hc0 hc]
  rfl
theorem sub64_nat (x y c : Nat) (hc : c ≤ 1) (w : World) : (callFunc 30 #[.int .u64 x, .int .u64 y, .int .u64 c]).run Try.prog w =
    .ok (.value (.tuple #[.int .u64 (((x + 18446744073709551616 - y - c) % 18446744073709551616 : Nat) : Int), .int .u64 ((if x < y + c then 1 else 0 : Nat) : Int)])) w := by
  rw [run_callFunc_extern Try.func30 (by kernel_rfl) (by kernel_rfl) (by kernel_rfl) (e := (Extern.MathBitsCarry.rows[1]'(by decide)).2) (by kernel_rfl)]
  have : c = 0 ∨ c = 1 := by omega
  rcases this with rfl | rfl <;> rfl
theorem sub64 (x y c : Int) (hx : 0 ≤ x) (hy : 0 ≤ y) (hy' : y < 18446744073709551616) (hc0 : 0 ≤ c) (hc : c ≤ 1) (w : World) : (callFunc 30 #[.int .u64 x, .int .u64 y, .int .u64 c]).run Try.prog w =
    .ok (.value (.tuple #[.int .u64 (sbc x y c), .int .u64 (sbk x y c)])) w := by
  obtain ⟨x, rfl⟩ := Int.eq_ofNat_of_zero_le hx
  obtain ⟨y, rfl⟩ := Int.eq_ofNat_of_zero_le hy
  obtain ⟨c, rfl⟩ := Int.eq_ofNat_of_zero_le hc0
  have e1 : (((x + 18446744073709551616 - y - c) % 18446744073709551616 : Nat) : Int) = sbc x y c := by unfold sbc; omega
  have e2 : ((if x < y + c then 1 else 0 : Nat) : Int) = sbk x y c := by unfold sbk; split <;> split <;> omega
  rw [← e1, ← e2]
  exact sub64_nat x y c (by omega) w
theorem ofbyte_any (i : Int) (w : World) (h0 : 0 ≤ i) (h1 : i < 32) :
    Calls Try.prog 33 #[.int .i64 i] w fun e w' => e = .returned (.int .i64 (3 - i / 8)) ∧ w = w' := by
  go_enter Try.func33, Try.ntmps33
  go_wp2
  go_ret
  exact ⟨rfl, rfl⟩
theorem part_any (xs : List Int) (i : Int) (w : World) (hx : xs.length = 4) (h0 : 0 ≤ i) (h1 : i < 4) :
    Calls Try.prog 31 #[.agg (arrW 4 xs), .int .i64 i] w fun e w' => e = .returned (.int .u64 (xs.getD i.toNat 0)) ∧ w' = w.alloc (.cells (arrW 4 xs) 24) := by
  have e0 : (w.alloc (.cells (arrW 4 xs) 24)).cell? ⟨w.heap.size, i.toNat, none⟩ = some (.int .u64 (xs.getD i.toNat 0)) := ((Row.new w 24 _).cell i.toNat).trans (arrW_get 4 _ _ (by omega) (by omega))
  have HX := Lib.hid hx
  clear hx
  go_enter Try.func31, Try.ntmps31
  go_wp2
  go_ret
  exact ⟨rfl, rfl⟩
theorem part_out (xs : List Int) (i : Int) (w : World) (h : i < 0 ∨ 4 ≤ i) :
    Calls Try.prog 31 #[.agg (arrW 4 xs), .int .i64 i] w fun e w' => e = .returned (.int .u64 0) ∧ w' = w.alloc (.cells (arrW 4 xs) 24) := by
  by_cases h0 : i < 0
  · clear h
    go_enter Try.func31, Try.ntmps31
    go_wp2
    go_ret
    exact ⟨rfl, rfl⟩
  · have h1 : 4 ≤ i := by omega
    have h2 : 0 ≤ i := by omega
    clear h h0
    go_enter Try.func31, Try.ntmps31
    go_wp2
    go_ret
    exact ⟨rfl, rfl⟩
theorem bit_any (xs : List Int) (i : Int) (w : World) (hx : xs.length = 4) (h0 : 0 ≤ i) (h1 : i < 256) :
    Calls Try.prog 34 #[.agg (arrW 4 xs), .int .i64 i] w fun e w' => e = .returned (.int .u64 (bits .and .u64 (xs.getD (i / 64).toNat 0 / 2 ^ (i % 64).toNat) 1)) ∧ w' = w.alloc (.cells (arrW 4 xs) 24) := by
  have e0 : (w.alloc (.cells (arrW 4 xs) 24)).cell? ⟨w.heap.size, (i / 64).toNat, none⟩ = some (.int .u64 (xs.getD (i / 64).toNat 0)) := ((Row.new w 24 _).cell _).trans (arrW_get 4 _ _ (by omega) (by omega))
  have q0 : 0 ≤ i / 64 := by omega
  have q1 : i / 64 < 4 := by omega
  have q2 : 0 ≤ i % 64 := by omega
  have q3 : i % 64 < 64 := by omega
  have HX := Lib.hid hx
  clear hx
  go_enter Try.func34, Try.ntmps34
  go_wp2
  go_ret
  exact ⟨rfl, rfl⟩
theorem of_any (n : Int) (w : World) :
    Calls Try.prog 25 #[.int .u64 n] w fun e w' => e = .returned (.agg (arrW 4 [n, 0, 0, 0])) ∧ Below w.heap.size w w' := by
  go_enter Try.func25, Try.ntmps25
  go_wp2
  go_returns
  exact ⟨rfl, by go_grown⟩
theorem rof_any (n : Int) (w : World) :
    Calls Try.prog 26 #[.int .u64 n] w fun e w' => e = .returned (.agg (arrW 4 [n, 0, 0, 0])) ∧ Below w.heap.size w w' := by
  go_enter Try.func26, Try.ntmps26
  go_wp2
  go_returns
  exact ⟨rfl, by go_grown⟩
end Go.Proofs.Ytcombekbeljflaa
