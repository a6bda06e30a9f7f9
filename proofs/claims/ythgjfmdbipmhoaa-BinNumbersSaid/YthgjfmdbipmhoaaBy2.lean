/- Slices of bytes that are cut: [l:h], [l:h:m]; their laws for the walk. -/
import Derived.Test.YthgjfmdbipmhoaaBy
namespace Go.Proofs.Ythgjfmdbipmhoaa
open Go.RowKit

theorem elemB : Try.prog.elem 23 = 5 := by simp [Program.elem, Try.underlying23]
theorem sizeB (w : World) : (Go.sizeOf 5).run Try.prog w = .ok 1 w := by
  have h := infoB
  cases hq : Try.prog.info? 5 with
  | none => rw [hq] at h; cases h
  | some i =>
    rw [hq] at h
    simp only [Option.map_some, Option.some.injEq, Prod.mk.injEq] at h
    simp [Go.sizeOf, typeInfo, hq, h.2.1]
/-- where a cut slice begins -/
def cutA (A : Option Addr) (l m : Nat) : Option Addr := if m = l then A else A.map (·.add (l * 1))
theorem add_add (a : Addr) (l j : Nat) : (a.add (l * 1)).add j = a.add (l + j) := by
  unfold Addr.add
  by_cases h : l = 0
  · simp [h]
  · by_cases h2 : j = 0
    · simp [h, h2]
    · simp [h, h2, Nat.add_assoc]
theorem Bytes.cut {w : World} {B : Nat} {A : Option Addr} {xs : List Int} (h : Bytes w B A xs) (l k m : Nat) (hm : l + k ≤ m) : Bytes w B (cutA A l m) ((xs.drop l).take k) := by
  intro hp
  rw [List.length_take, List.length_drop] at hp
  obtain ⟨ad, rfl, hlt, hc⟩ := h (by omega)
  have hne : ¬ m = l := by omega
  refine ⟨ad.add (l * 1), by simp [cutA, hne], by rw [block_of_add]; exact hlt, fun j v hv => ?_⟩
  rw [add_add]
  refine hc (l + j) v ?_
  rw [List.map_take, List.getElem?_take] at hv
  split at hv
  · rw [List.map_drop, List.getElem?_drop] at hv
    exact hv
  · cases hv
theorem run_cut2 (A : Option Addr) (n c l h : Nat) (w : World) (h1 : l ≤ h) (h2 : h ≤ c) :
    (Instr.sliceAt 23 (.slice A n c) (some (.int .i64 (l : Int))) (some (.int .i64 (h : Int))) none).run Try.prog w = .ok (.slice (cutA A l c) (h - l) (c - l)) w := by
  have ht' : Try.prog.underlying 23 = some (.slice (Try.prog.elem 23)) := by rw [elemB]; exact Try.underlying23
  rw [run_sliceAt_slice w _ _ _ _ _ ht', run_slice_lh w 23 _ _ _ ht' .i64 .i64 _ _ (by omega) (by omega) (by omega), elemB, sizeB]
  simp [Result.andThen, sliced, cutA]
theorem run_cut3 (A : Option Addr) (n c l h m : Nat) (w : World) (h1 : l ≤ h) (h2 : h ≤ m) (h3 : m ≤ c) :
    (Instr.sliceAt 23 (.slice A n c) (some (.int .i64 (l : Int))) (some (.int .i64 (h : Int))) (some (.int .i64 (m : Int)))).run Try.prog w = .ok (.slice (cutA A l m) (h - l) (m - l)) w := by
  have ht' : Try.prog.underlying 23 = some (.slice (Try.prog.elem 23)) := by rw [elemB]; exact Try.underlying23
  rw [run_sliceAt_slice w _ _ _ _ _ ht', run_slice_lhm w 23 _ _ _ ht' .i64 .i64 .i64 _ _ _ (by omega) (by omega) (by omega) (by omega), elemB, sizeB]
  simp [Result.andThen, sliced, cutA]
theorem wpList_cut2 {P : Program} {ops : Array Oper} {rest : List Oper} {o : Oper} {a : Act} {w : World} {Q : Exit → Act → World → Prop} {v lv hv v' : Value} {t : TypeId} (hgd : o.guard = none) (x l h : Operand)
    (ho : o.op = .slice t x (some l) (some h) none) (hx : a.eval x = v) (hl : a.eval l = lv) (hh : a.eval h = hv)
    (hrun : (Instr.sliceAt t v (some lv) (some hv) none).run P w = .ok v' w) (hk : wpList P ops Q rest (a.put o.dst v') w) : wpList P ops Q (o :: rest) a w :=
  wpList_plain hgd fun _ hK => by
    unfold Oper.wp execOp
    simp only [ho, hx, hl, hh, Option.map_some, Option.map_none, Sem.run_bind, Sem.run_pure, Result.andThen_ok, hrun]
    exact hK _ _ hk
theorem wpList_cut3 {P : Program} {ops : Array Oper} {rest : List Oper} {o : Oper} {a : Act} {w : World} {Q : Exit → Act → World → Prop} {v lv hv mv v' : Value} {t : TypeId} (hgd : o.guard = none) (x l h m : Operand)
    (ho : o.op = .slice t x (some l) (some h) (some m)) (hx : a.eval x = v) (hl : a.eval l = lv) (hh : a.eval h = hv) (hm : a.eval m = mv)
    (hrun : (Instr.sliceAt t v (some lv) (some hv) (some mv)).run P w = .ok v' w) (hk : wpList P ops Q rest (a.put o.dst v') w) : wpList P ops Q (o :: rest) a w :=
  wpList_plain hgd fun _ hK => by
    unfold Oper.wp execOp
    simp only [ho, hx, hl, hh, hm, Option.map_some, Option.map_none, Sem.run_bind, Sem.run_pure, Result.andThen_ok, hrun]
    exact hK _ _ hk
end Go.Proofs.Ythgjfmdbipmhoaa
