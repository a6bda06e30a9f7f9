/- Part of a proof. -/
import Derived.Test.YtcodmedgkboohaaDoorCn
namespace Go.Proofs.YtcodmedgkboohaaDoor
set_option maxRecDepth 8000
open Go.RowKit

section
variable {a : Act} {dst : Option Tmp} {x l h : Operand} {ty : TypeId} {pos : String} {after : Array Edge} {gd : Option (Nat × Bool)}
theorem eqs_op {s s' : ByteArray} {b : Bool} (u : World) (hb : (s.toList == s'.toList) = b) (hx : a.eval x = .string s) (hy : a.eval l = .string s') :
    (execOp a.eval ⟨dst, .binOp .eql 9 x l 9, ty, pos, after, gd⟩).run Tryd.prog u = .ok (.value (.bool b)) u := by
  subst hb
  unfold execOp
  simp only [hx, hy]
  go_simp
end
end Go.Proofs.YtcodmedgkboohaaDoor

namespace Go.Proofs.YtcodmedgkboohaaDoor
set_option maxRecDepth 8000

theorem read_okX {b : List Int} (hb : isB b) (h : mayReadX b = true) : okX (parseX b) ∧ mayX (parseX b) = true ∧ bodyX (parseX b) = b := by
  unfold mayReadX at h
  rw [Bool.and_eq_true] at h
  have := body_parse hb h.1
  exact ⟨this.1, h.2, this.2⟩
end Go.Proofs.YtcodmedgkboohaaDoor
