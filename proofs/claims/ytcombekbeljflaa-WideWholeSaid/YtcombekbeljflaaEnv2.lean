/- A number's words, whatever was written into another block. -/
import Derived.Test.YtcombekbeljflaaEnv
namespace Go.Proofs.Ytcombekbeljflaa
open Go.RowKit

/-- a number's words, whatever was written into another block -/
theorem cells_far {w u : World} {l : List (Nat × Nat)} (h : Env w u l) {g n b : Nat} (hm : (g, n) ∈ l) (hne : g ≠ b) (v0 v1 v2 v3 : Value) :
    ((((u.setCell ⟨b, 0, none⟩ v0).setCell ⟨b, 1, none⟩ v1).setCell ⟨b, 2, none⟩ v2).setCell ⟨b, 3, none⟩ v3).cell? ⟨g, 0, none⟩ = some (.int .u64 (W n 0)) ∧
    ((((u.setCell ⟨b, 0, none⟩ v0).setCell ⟨b, 1, none⟩ v1).setCell ⟨b, 2, none⟩ v2).setCell ⟨b, 3, none⟩ v3).cell? ⟨g, 1, none⟩ = some (.int .u64 (W n 1)) ∧
    ((((u.setCell ⟨b, 0, none⟩ v0).setCell ⟨b, 1, none⟩ v1).setCell ⟨b, 2, none⟩ v2).setCell ⟨b, 3, none⟩ v3).cell? ⟨g, 2, none⟩ = some (.int .u64 (W n 2)) ∧
    ((((u.setCell ⟨b, 0, none⟩ v0).setCell ⟨b, 1, none⟩ v1).setCell ⟨b, 2, none⟩ v2).setCell ⟨b, 3, none⟩ v3).cell? ⟨g, 3, none⟩ = some (.int .u64 (W n 3)) := by
  have r : Row u g 24 (wcs n) := h.box g n hm
  have r' := (((r.farAt (i := 0) hne v0).farAt (i := 1) hne v1).farAt (i := 2) hne v2).farAt (i := 3) hne v3
  exact ⟨(r'.cell 0).trans (wc_get n 0 (by decide)), (r'.cell 1).trans (wc_get n 1 (by decide)), (r'.cell 2).trans (wc_get n 2 (by decide)), (r'.cell 3).trans (wc_get n 3 (by decide))⟩
theorem cells_of {w u : World} {l : List (Nat × Nat)} (h : Env w u l) {g n : Nat} (hm : (g, n) ∈ l) :
    u.cell? ⟨g, 0, none⟩ = some (.int .u64 (W n 0)) ∧ u.cell? ⟨g, 1, none⟩ = some (.int .u64 (W n 1)) ∧ u.cell? ⟨g, 2, none⟩ = some (.int .u64 (W n 2)) ∧ u.cell? ⟨g, 3, none⟩ = some (.int .u64 (W n 3)) :=
  ⟨h.cell hm 0 (by decide), h.cell hm 1 (by decide), h.cell hm 2 (by decide), h.cell hm 3 (by decide)⟩
theorem row_of {w u : World} {l : List (Nat × Nat)} (h : Env w u l) {g n : Nat} (hm : (g, n) ∈ l) : Row u g 24 (wcs n) := h.box g n hm
end Go.Proofs.Ytcombekbeljflaa
