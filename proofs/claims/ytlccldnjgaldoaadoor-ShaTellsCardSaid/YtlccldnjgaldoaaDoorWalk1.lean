/- The walks of the leaves of package sha: turn, round, wordOf, lengthBytes. -/
import Derived.Test.YtlccldnjgaldoaaDoorPure
import Derived.Test.YtlccldnjgaldoaaDoorMem
import Derived.Test.YtlccldnjgaldoaaDoorProg
import Derived.WalkKit
import Derived.ProofKit
import Derived.Handy
import Derived.Deep.QuietTactic
import Derived.BigQuiet
import Derived.StillTailTactics
import Derived.Lib.Hide
namespace Go.Proofs.YtlccldnjgaldoaaDoor
open Go.RowKit

theorem turn_any (x n : Int) (w : World) (h0 : 0 ≤ n) (h1 : n ≤ 31) :
    Calls Tryd.prog 28 #[.int .u32 x, .int .u64 n] w fun e w' => e = .returned (.int .u32 (rotI x n)) ∧ w = w' := by
  go_enter Tryd.func28, Tryd.ntmps28
  go_wp2
  go_ret
  exact ⟨rfl, rfl⟩

set_option maxHeartbeats 1000000 in
set_option maxRecDepth 100000 in
theorem round_any (s : S8) (k x : Int) (w : World) :
    Calls Tryd.prog 24 #[.agg s.cells, .int .u32 k, .int .u32 x] w fun r w' => r = .returned (.agg (s.step k x).cells) ∧ Below w.heap.size w w' := by
  obtain ⟨a, b, c, d, e, f, g, h⟩ := s
  unfold S8.cells
  go_enter Tryd.func24, Tryd.ntmps24
  go_wp2_with fail
  go_quiet (fail)
  go_wp2_with (go_at_call 28; refine (turn_any _ _ _ (by omega) (by omega)).mono ?_; rintro e w' ⟨rfl, rfl⟩)
  go_returns
  refine ⟨rfl, ?_⟩
  repeat' (first | (with_reducible exact Below.refl _ _) | (with_reducible refine below_drewN ?_ _) | (with_reducible refine Below.alloc ?_ ?_ _) | (with_reducible refine Below.setCell ?_ ?_ _) | go_size)

set_option maxHeartbeats 1000000 in
theorem word_any (b : Nat) (o : Nat) (c : Nat) (x0 x1 x2 x3 : Int) (w : World)
    (g0 : w.cell? ⟨b, o, none⟩ = some (.int .u8 x0)) (g1 : w.cell? ⟨b, o + 1, none⟩ = some (.int .u8 x1)) (g2 : w.cell? ⟨b, o + 2, none⟩ = some (.int .u8 x2)) (g3 : w.cell? ⟨b, o + 3, none⟩ = some (.int .u8 x3))
    (b00 : 0 ≤ x0) (b01 : x0 ≤ 255) (b10 : 0 ≤ x1) (b11 : x1 ≤ 255) (b20 : 0 ≤ x2) (b21 : x2 ≤ 255) (b30 : 0 ≤ x3) (b31 : x3 ≤ 255) :
    Calls Tryd.prog 27 #[.slice (some ⟨b, o, none⟩) 4 c] w fun e w' => e = .returned (.int .u32 (wordI x0 x1 x2 x3)) ∧ ∃ n, w' = w.drewN n := by
  go_enter Tryd.func27, Tryd.ntmps27
  go_wp2_with fail
  go_quiet (fail)
  go_wp2
  go_returns
  exact ⟨rfl, nq, rfl⟩

set_option maxHeartbeats 1000000 in
theorem len_any (n : Int) (w : World) (h0 : 0 ≤ n) (h1 : n ≤ 140737488355328) :
    Calls Tryd.prog 17 #[.int .i64 n] w fun e w' => e = .returned (.agg ((lenL n).map u8v).toArray) ∧ Below w.heap.size w w' := by
  go_enter Tryd.func17, Tryd.ntmps17
  go_wp2
  go_rounds 9
  go_returns
  exact ⟨rfl, by go_grown⟩
end Go.Proofs.YtlccldnjgaldoaaDoor
