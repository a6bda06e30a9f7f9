/- Bytes in regions that are walked over boxes: conversions, cuts; calls that hand back new bytes. -/
import Derived.Test.YthgjfmdbipmhoaaH
import Derived.Test.YthgjfmdbipmhoaaBy2
namespace Go.Proofs.Ythgjfmdbipmhoaa
open Go.RowKit

section
variable {a : Act} {dst : Option Tmp} {x l h : Operand} {ty : TypeId} {pos : String} {after : Array Edge} {gd : Option (Nat × Bool)}
theorem conv_op {A : Option Addr} {n c B : Nat} {xs : List Int} {s : ByteArray} (u : World) (hl : xs.length = n) (h : Bytes u B A xs) (hs : strOfNums xs = s) (hx : a.eval x = .slice A n c) :
    (execOp a.eval ⟨dst, .convert 23 9 x, ty, pos, after, gd⟩).run Try.prog u = .ok (.value (.string s)) u := by
  subst hs
  unfold execOp
  simp only [hx, Sem.run_bind, Sem.run_pure, Result.andThen_ok, conv_bytes A n c B xs u hl h]
theorem cut2_op {A : Option Addr} {n c i j : Nat} (u : World) (h1 : i ≤ j) (h2 : j ≤ c) (hx : a.eval x = .slice A n c) (hl : a.eval l = .int .i64 (i : Int)) (hh : a.eval h = .int .i64 (j : Int)) :
    (execOp a.eval ⟨dst, .slice 23 x (some l) (some h) none, ty, pos, after, gd⟩).run Try.prog u = .ok (.value (.slice (cutA A i c) (j - i) (c - i))) u := by
  unfold execOp
  simp only [hx, hl, hh, Option.map_some, Option.map_none, Sem.run_bind, Sem.run_pure, Result.andThen_ok, run_cut2 A n c i j u h1 h2]
theorem eqs_op {s s' : ByteArray} {b : Bool} (u : World) (hb : (s.toList == s'.toList) = b) (hx : a.eval x = .string s) (hy : a.eval l = .string s') :
    (execOp a.eval ⟨dst, .binOp .eql 9 x l 9, ty, pos, after, gd⟩).run Try.prog u = .ok (.value (.bool b)) u := by
  subst hb
  unfold execOp
  simp only [hx, hy]
  go_simp
theorem nes_op {s s' : ByteArray} {b : Bool} (u : World) (hb : (!(s.toList == s'.toList)) = b) (hx : a.eval x = .string s) (hy : a.eval l = .string s') :
    (execOp a.eval ⟨dst, .binOp .neq 9 x l 9, ty, pos, after, gd⟩).run Try.prog u = .ok (.value (.bool b)) u := by
  subst hb
  unfold execOp
  simp only [hx, hy]
  go_simp
end
/-- new bytes, as boxes -/
def FreshB (xs : List Int) (x : Value) (N : Boxes) : Prop := ∃ g cap cur, x = .slice (some ⟨g, 0, none⟩) xs.length cap ∧ N = [(g, Obj.cells cur 5 (0, 0))] ∧ xs.length ≤ cap ∧ cap ≤ maxLen ∧ cur.size = cap * 1 ∧ cur.toList.take (xs.length * 1) = xs.map u8v
theorem OwnB.fresh {w : World} {B : Nat} {v : Value} {xs : List Int} (h : OwnB w B v xs) (hp : 0 < xs.length) : ∃ N, FreshB xs v N ∧ ∀ y ∈ N, B ≤ y.1 ∧ w.heap[y.1]? = some y.2 := by
  rcases h.2 with ⟨_, e⟩ | ⟨g, cap, cur, rfl, h1, h2, h3, h4, h5, h6⟩
  · omega
  · refine ⟨_, ⟨g, cap, cur, rfl, rfl, h3, h4, h5, h6⟩, fun y hy => ?_⟩
    cases List.mem_singleton.1 hy
    exact ⟨h1, h2⟩
/-- a call that hands back new bytes -/
theorem calls_fresh {f : FuncId} {args : Array Value} {u : World} {xs : List Int} (hp : 0 < xs.length) (h : Calls Try.prog f args u fun e w' => (∃ v, e = .returned v ∧ OwnB w' u.heap.size v xs) ∧ Below u.heap.size u w') :
    Calls Try.prog f args u fun e w'' => ∃ x N, e = .returned x ∧ FreshB xs x N ∧ Below u.heap.size u w'' ∧ ∀ y ∈ N, u.heap.size ≤ y.1 ∧ w''.heap[y.1]? = some y.2 :=
  h.mono fun e w'' ⟨⟨v, he, ho⟩, hb⟩ => by
    obtain ⟨N, hN, hm⟩ := ho.fresh hp
    exact ⟨v, N, he, hN, hb, hm⟩
/-- the bytes of a box -/
theorem box_bytes {w0 u : World} {M : Boxes} {g cap : Nat} {cur : Array Value} {xs : List Int} (hu : EnvC w0 M u) (hm : (g, Obj.cells cur 5 (0, 0)) ∈ M) (h : xs.length ≤ cap ∧ cap ≤ maxLen ∧ cur.size = cap * 1 ∧ cur.toList.take (xs.length * 1) = xs.map u8v) : Bytes u u.heap.size (some ⟨g, 0, none⟩) xs := by
  have : OwnB u 0 (.slice (some ⟨g, 0, none⟩) xs.length cap) xs := ⟨by simp, .inr ⟨g, cap, cur, rfl, Nat.zero_le _, EnvX.box hu g _ hm, h.1, h.2.1, h.2.2.1, h.2.2.2⟩⟩
  exact this.bytes.2
end Go.Proofs.Ythgjfmdbipmhoaa
