/- New variables that are numbers. -/
import Derived.Test.YtcombekbeljflaaG
namespace Go.Proofs.Ytcombekbeljflaa
open Go.RowKit

theorem wcs_zero : wcs 0 = #[.int .u64 0, .int .u64 0, .int .u64 0, .int .u64 0] := rfl
theorem new_wide {dst : Option Tmp} {ty : TypeId} {pos : String} {after : Array Edge} {gd : Option (Nat × Bool)} (a : Act) : NewAt Try.prog ⟨dst, .alloc 24, ty, pos, after, gd⟩ a (wo 0) := fun u => by
  have h := wcs_zero
  unfold wo
  rw [h]
  go_simp
theorem load_word (u : World) {g i : Nat} {v : Int} (h : u.cell? ⟨g, i, none⟩ = some (.int .u64 v)) {a : Act} {dst : Option Tmp} {t : Tmp} {ty : TypeId} {pos : String} {after : Array Edge} {gd : Option (Nat × Bool)} (hx : a.eval (.tmp t) = .pointer (some ⟨g, i, none⟩)) :
    (execOp a.eval ⟨dst, .load 22 (.tmp t), ty, pos, after, gd⟩).run Try.prog u = .ok (.value (.int .u64 v)) u := by
  unfold execOp
  simp only [hx]
  go_simp
theorem eql_op {m n : Nat} (hm : m < Big) (hn : n < Big) {b : Bool} (hb : eqN m n = b) {a : Act} {dst : Option Tmp} {x y : Operand} {ty : TypeId} {pos : String} {after : Array Edge} {gd : Option (Nat × Bool)} (hx : a.eval x = .agg (wcs m)) (hy : a.eval y = .agg (wcs n)) (u : World) :
    (execOp a.eval ⟨dst, .binOp .eql 24 x y 24, ty, pos, after, gd⟩).run Try.prog u = .ok (.value (.bool b)) u := by
  have h : (Op.equalIn 10000 24 (.agg (wcs m)) (.agg (wcs n))).run Try.prog u = .ok (eqN m n) u := run_equal_wide m n hm hn u
  rw [hb] at h
  unfold execOp
  simp only [hx, hy]
  generalize wcs m = cm at *
  generalize wcs n = cn at *
  go_simp
theorem neq_op {m n : Nat} (hm : m < Big) (hn : n < Big) {b : Bool} (hb : (!eqN m n) = b) {a : Act} {dst : Option Tmp} {x y : Operand} {ty : TypeId} {pos : String} {after : Array Edge} {gd : Option (Nat × Bool)} (hx : a.eval x = .agg (wcs m)) (hy : a.eval y = .agg (wcs n)) (u : World) :
    (execOp a.eval ⟨dst, .binOp .neq 24 x y 24, ty, pos, after, gd⟩).run Try.prog u = .ok (.value (.bool b)) u := by
  have h : (Op.equalIn 10000 24 (.agg (wcs m)) (.agg (wcs n))).run Try.prog u = .ok (eqN m n) u := run_equal_wide m n hm hn u
  subst hb
  generalize eqN m n = b at *
  unfold execOp
  simp only [hx, hy]
  generalize wcs m = cm at *
  generalize wcs n = cn at *
  go_simp
end Go.Proofs.Ytcombekbeljflaa
