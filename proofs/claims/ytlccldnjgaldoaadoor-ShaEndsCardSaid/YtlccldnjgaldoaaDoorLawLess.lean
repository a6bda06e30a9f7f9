/- The walk of the law ShaLess. -/
import Derived.Test.YtlccldnjgaldoaaDoorIdEq
import Derived.WalkKit
import Derived.ProofKit
import Derived.Handy
import Derived.ChangeKeysEq
import Derived.Lib.SlBytesConst
import Derived.Deep.MidRow
import Derived.Laws.CopyOwn
import Derived.Laws.MakeOwn
import Derived.Deep.WholeRow
import Derived.Deep.Cut
import Derived.Deep.QuietTactic
import Derived.BigQuiet
import Derived.StillTailTactics
import Derived.Lib.Hide
namespace Go.Proofs.YtlccldnjgaldoaaDoor
open Go.RowKit









theorem wpList_load_guarded {P : Program} {ops : Array Oper} {rest : List Oper} {o : Oper} {a : Act} {w : World} {Q : Exit → Act → World → Prop} (hw : Region.wanted o (yielded ops a.tmps) = true) (ty : TypeId) (x : Operand) (ho : o.op = .load ty x)
    (g : Nat) (hx : a.eval x = .pointer (some ⟨g, 0, none⟩)) (t : TypeId) (cs : Array Value) (fr : Nat × Nat) (d : TypeDesc) (hg : w.heap[g]? = some (.cells cs t fr))
    (hu : P.underlying ty = some d) (hd : (match d with | .struct _ | .array _ _ => true | _ => false) = true) (hi : (P.info? ty).map (·.size) = some cs.size)
    (h : wpList P ops Q rest (a.put o.dst (.agg cs)) w) : wpList P ops Q (o :: rest) a w := by
  simp only [wpList, hw, if_true]
  exact .inl (wp_load_row ty x ho g hx t cs fr d hg hu hd hi h)
/-- the three ids in their boxes -/
structure Boxes (w : World) (g : Nat) (xs ys zs : List Int) : Prop where
  x : w.heap[g]? = some (.cells (arrB 32 xs) 26 (0, 0))
  y : w.heap[g + 1]? = some (.cells (arrB 32 ys) 26 (0, 0))
  z : w.heap[g + 1 + 1]? = some (.cells (arrB 32 zs) 26 (0, 0))
  lt : g + 1 + 1 < w.heap.size
theorem Boxes.below {w w' : World} {g : Nat} {xs ys zs : List Int} (h : Boxes w g xs ys zs) (hb : Below w.heap.size w w') : Boxes w' g xs ys zs := by
  have := h.lt
  exact ⟨(hb.block _ (by omega)).trans h.x, (hb.block _ (by omega)).trans h.y, (hb.block _ (by omega)).trans h.z, Nat.lt_of_lt_of_le h.lt hb.size⟩
set_option maxHeartbeats 4000000 in
theorem law_less (xs ys zs : List Int) (w : World) (hx : xs.length = 32) (hy : ys.length = 32) (hz : zs.length = 32) (ht : Tables w) :
    Calls Tryd.prog 6 #[.agg (arrB 32 xs), .agg (arrB 32 ys), .agg (arrB 32 zs)] w fun e w' => e = .returned (.bool true) ∧ Below w.heap.size w w' := by
  have HX := Lib.hid hx
  have HY := Lib.hid hy
  have HZ := Lib.hid hz
  have hszxs := Lib.hid (arrB_size 32 xs (by omega))
  have hszys := Lib.hid (arrB_size 32 ys (by omega))
  have hszzs := Lib.hid (arrB_size 32 zs (by omega))
  have h3 := Lib.hid (less_three 32 xs ys hx hy)
  have htr := Lib.hid (less_trans 32 xs ys zs hx hy hz)
  have heq := run_eql_id xs ys hx hy
  clear hx hy hz
  go_enter Tryd.func6, Tryd.ntmps6
  go_wp2_with fail
  have b0 : Below w.heap.size w (((w.alloc (.cells (arrB 32 xs) 26)).alloc (.cells (arrB 32 ys) 26)).alloc (.cells (arrB 32 zs) 26)) := by go_grown
  have k0 : Boxes (((w.alloc (.cells (arrB 32 xs) 26)).alloc (.cells (arrB 32 ys) 26)).alloc (.cells (arrB 32 zs) 26)) w.heap.size xs ys zs :=
    ⟨((Row.new w 26 _).alloc _).alloc _, (Row.newAt (by simp) 26 _).alloc _, Row.newAt (by simp) 26 _, by simp⟩
  generalize ((w.alloc (.cells (arrB 32 xs) 26)).alloc (.cells (arrB 32 ys) 26)).alloc (.cells (arrB 32 zs) 26) = w0 at *
  refine (awake_any w0 (ht.below b0)).mono ?_
  rintro e w1 ⟨rfl, hb⟩
  have k1 := Lib.hid (k0.below hb)
  have b1 := Lib.hid (b0.trans (hb.mono b0.size))
  clear hb k0 b0
  go_wp2_with (first
    | ((with_reducible refine wpList_load_row (o := ⟨some 12, _, _, _, _, _⟩) ?_ 26 (.tmp 3) ?_ w.heap.size ?_ 26 (arrB 32 xs) (0, 0) _ k1.out.x Tryd.underlying26 ?_ (info26 _ (hszxs.out)) ?_); (rfl); (rfl); (rfl); (rfl))
    | ((with_reducible refine wpList_load_row (o := ⟨some 13, _, _, _, _, _⟩) ?_ 26 (.tmp 4) ?_ (w.heap.size + 1) ?_ 26 (arrB 32 ys) (0, 0) _ k1.out.y Tryd.underlying26 ?_ (info26 _ (hszys.out)) ?_); (rfl); (rfl); (rfl); (rfl)))
  refine (less_any xs ys w1 HX.out HY.out).mono ?_
  rintro e w2 ⟨rfl, hb⟩
  have k2 := Lib.hid (k1.out.below hb)
  have b2 := Lib.hid (b1.out.trans (hb.mono b1.out.size))
  clear hb k1 b1
  go_wp2_with (first
    | ((with_reducible refine wpList_load_row (o := ⟨some 15, _, _, _, _, _⟩) ?_ 26 (.tmp 4) ?_ (w.heap.size + 1) ?_ 26 (arrB 32 ys) (0, 0) _ k2.out.y Tryd.underlying26 ?_ (info26 _ (hszys.out)) ?_); (rfl); (rfl); (rfl); (rfl))
    | ((with_reducible refine wpList_load_row (o := ⟨some 16, _, _, _, _, _⟩) ?_ 26 (.tmp 3) ?_ w.heap.size ?_ 26 (arrB 32 xs) (0, 0) _ k2.out.x Tryd.underlying26 ?_ (info26 _ (hszxs.out)) ?_); (rfl); (rfl); (rfl); (rfl)))
  refine (less_any ys xs w2 HY.out HX.out).mono ?_
  rintro e w3 ⟨rfl, hb⟩
  have k3 := Lib.hid (k2.out.below hb)
  have b3 := Lib.hid (b2.out.trans (hb.mono b2.out.size))
  clear hb k2 b2
  go_wp2_with (first
    | ((with_reducible refine wpList_load_row (o := ⟨some 18, _, _, _, _, _⟩) ?_ 26 (.tmp 3) ?_ w.heap.size ?_ 26 (arrB 32 xs) (0, 0) _ k3.out.x Tryd.underlying26 ?_ (info26 _ (hszxs.out)) ?_); (rfl); (rfl); (rfl); (rfl))
    | ((with_reducible refine wpList_load_row (o := ⟨some 19, _, _, _, _, _⟩) ?_ 26 (.tmp 4) ?_ (w.heap.size + 1) ?_ 26 (arrB 32 ys) (0, 0) _ k3.out.y Tryd.underlying26 ?_ (info26 _ (hszys.out)) ?_); (rfl); (rfl); (rfl); (rfl)))
  refine (rless_any xs ys w3 HX.out HY.out).mono ?_
  rintro e w4 ⟨rfl, hb⟩
  have k4 := Lib.hid (k3.out.below hb)
  have b4 := Lib.hid (b3.out.trans (hb.mono b3.out.size))
  clear hb k3 b3
  rcases h3.out with ⟨q1, q2, q3⟩ | ⟨q1, q2, q3⟩ | ⟨q1, q2, q3⟩
  · rw [q1, q2]
    rw [q3] at heq
    clear q2 q3 h3
    have Q1 := Lib.hid q1
    clear q1
    go_wp2_with (first
      | ((with_reducible refine wpList_load_guarded (o := ⟨some 39, _, _, _, _, _⟩) ?_ 26 (.tmp 3) ?_ w.heap.size ?_ 26 (arrB 32 xs) (0, 0) _ k4.out.x Tryd.underlying26 ?_ (info26 _ (hszxs.out)) ?_); (rfl); (rfl); (rfl); (rfl))
      | ((with_reducible refine wpList_load_guarded (o := ⟨some 40, _, _, _, _, _⟩) ?_ 26 (.tmp 4) ?_ (w.heap.size + 1) ?_ 26 (arrB 32 ys) (0, 0) _ k4.out.y Tryd.underlying26 ?_ (info26 _ (hszys.out)) ?_); (rfl); (rfl); (rfl); (rfl))
      | ((with_reducible refine wpList_load_guarded (o := ⟨some 47, _, _, _, _, _⟩) ?_ 26 (.tmp 4) ?_ (w.heap.size + 1) ?_ 26 (arrB 32 ys) (0, 0) _ k4.out.y Tryd.underlying26 ?_ (info26 _ (hszys.out)) ?_); (rfl); (rfl); (rfl); (rfl))
      | ((with_reducible refine wpList_load_guarded (o := ⟨some 48, _, _, _, _, _⟩) ?_ 26 (.tmp 5) ?_ (w.heap.size + 1 + 1) ?_ 26 (arrB 32 zs) (0, 0) _ k4.out.z Tryd.underlying26 ?_ (info26 _ (hszzs.out)) ?_); (rfl); (rfl); (rfl); (rfl)))
    refine (less_any ys zs w4 HY.out HZ.out).mono ?_
    rintro e w5 ⟨rfl, hb⟩
    have k5 := Lib.hid (k4.out.below hb)
    have b5 := Lib.hid (b4.out.trans (hb.mono b4.out.size))
    clear hb k4 b4
    cases h5 : lessL ys zs
    · clear h5
      go_wp2
      go_ret
      exact ⟨rfl, b5.out⟩
    · have h6 := Lib.hid (htr.out Q1.out h5)
      clear h5
      go_wp2_with (first
        | ((with_reducible refine wpList_load_guarded (o := ⟨some 53, _, _, _, _, _⟩) ?_ 26 (.tmp 3) ?_ w.heap.size ?_ 26 (arrB 32 xs) (0, 0) _ k5.out.x Tryd.underlying26 ?_ (info26 _ (hszxs.out)) ?_); (rfl); (rfl); (rfl); (rfl))
        | ((with_reducible refine wpList_load_guarded (o := ⟨some 54, _, _, _, _, _⟩) ?_ 26 (.tmp 5) ?_ (w.heap.size + 1 + 1) ?_ 26 (arrB 32 zs) (0, 0) _ k5.out.z Tryd.underlying26 ?_ (info26 _ (hszzs.out)) ?_); (rfl); (rfl); (rfl); (rfl)))
      refine (less_any xs zs w5 HX.out HZ.out).mono ?_
      rintro e w6 ⟨rfl, hb⟩
      rw [h6.out]
      have b6 := Lib.hid (b5.out.trans (hb.mono b5.out.size))
      clear hb
      go_wp2
      go_ret
      exact ⟨rfl, b6.out⟩
  all_goals
    rw [q1, q2]
    rw [q3] at heq
    clear q1 q2 q3 h3 htr
    go_wp2_with (first
      | ((with_reducible refine wpList_load_guarded (o := ⟨some 39, _, _, _, _, _⟩) ?_ 26 (.tmp 3) ?_ w.heap.size ?_ 26 (arrB 32 xs) (0, 0) _ k4.out.x Tryd.underlying26 ?_ (info26 _ (hszxs.out)) ?_); (rfl); (rfl); (rfl); (rfl))
      | ((with_reducible refine wpList_load_guarded (o := ⟨some 40, _, _, _, _, _⟩) ?_ 26 (.tmp 4) ?_ (w.heap.size + 1) ?_ 26 (arrB 32 ys) (0, 0) _ k4.out.y Tryd.underlying26 ?_ (info26 _ (hszys.out)) ?_); (rfl); (rfl); (rfl); (rfl)))
    go_ret
    exact ⟨rfl, b4.out⟩
end Go.Proofs.YtlccldnjgaldoaaDoor
