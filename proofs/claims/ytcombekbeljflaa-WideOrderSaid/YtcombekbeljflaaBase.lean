/- Small facts on numbers in boxes. -/
import Derived.Test.YtcombekbeljflaaEnv
namespace Go.Proofs.Ytcombekbeljflaa
open Go.RowKit

theorem cells_of_env {w u : World} {l : List (Nat × Nat)} (h : Env w u l) {g n : Nat} (hm : (g, n) ∈ l) :
    u.cell? ⟨g, 0, none⟩ = some (.int .u64 (W n 0)) ∧ u.cell? ⟨g, 1, none⟩ = some (.int .u64 (W n 1)) ∧ u.cell? ⟨g, 2, none⟩ = some (.int .u64 (W n 2)) ∧ u.cell? ⟨g, 3, none⟩ = some (.int .u64 (W n 3)) :=
  ⟨h.cell hm 0 (by decide), h.cell hm 1 (by decide), h.cell hm 2 (by decide), h.cell hm 3 (by decide)⟩
theorem up_255 (m : Nat) (w : World) (hm : m < Big) :
    Calls Try.prog 15 #[.agg (wcs m), .int .i64 255] w fun e w' => e = .returned (.agg (wcs (m * 2 ^ 255 % Big))) ∧ Below w.heap.size w w' := up_any m 255 w hm (by decide)
theorem small_big {n : Nat} (h : n < 18446744073709551616) : n < Big := by unfold Big; omega

end Go.Proofs.Ytcombekbeljflaa
