/- The walk of idOf: the 32 bytes of eight words. -/
import Derived.Test.YtlccldnjgaldoaaDoorWalk3
import Derived.WalkKit
import Derived.ProofKit
import Derived.Handy
import Derived.Deep.WholeRow
import Derived.Deep.Cut
import Derived.Deep.QuietTactic
import Derived.BigQuiet
import Derived.StillTailTactics
import Derived.Lib.Hide
namespace Go.Proofs.YtlccldnjgaldoaaDoor
open Go.RowKit



theorem info26 (cs : Array Value) (h : cs.size = 32) : (Tryd.prog.info? 26).map (·.size) = some cs.size := by rw [h]; kernel_rfl
theorem index_cells (s : S8) (k : Nat) (h : k < 8) (w : World) : (Instr.index 40 (.agg s.cells) (.int .i64 (k : Int))).run Tryd.prog w = .ok (.int .u32 (s.get k)) w := by
  rcases k with _ | _ | _ | _ | _ | _ | _ | _ | k
  all_goals first | omega | kernel_rfl
set_option maxHeartbeats 4000000 in
theorem id_any (s : S8) (w : World) :
    Calls Tryd.prog 19 #[.agg s.cells] w fun e w' => e = .returned (.agg (arrB 32 (idPre s 8))) ∧ Below w.heap.size w w' := by
  have a0 : Hid ((w.alloc (.cells s.cells 40)).heap[w.heap.size]? = some (.cells s.cells 40 (0, 0))) := heap_alloc_last w _
  have a1 : Hid ((((w.alloc (.cells s.cells 40)).alloc (.cells (arrB 32 []) 26)).alloc (.cells (arrB 32 []) 26)).heap[w.heap.size]? = some (.cells s.cells 40 (0, 0))) := ((Row.new w 40 _).alloc _).alloc _
  go_enter Tryd.func19, Tryd.ntmps19
  go_wp2_with ((with_reducible refine wpList_load_row (o := ⟨some 6, _, _, _, _, _⟩) ?_ 40 (.tmp 1) ?_ w.heap.size ?_ 40 s.cells (0, 0) _ ?_ Tryd.underlying40 ?_ (info40 s) ?_); (rfl); (rfl); (rfl); (exact a1.out); (rfl))
  go_loopw [7] (fun i u => ∃ k : Nat, k ≤ 8 ∧ i = .int .i64 k ∧ Below w.heap.size w u ∧ Hid (Row u (w.heap.size + 1) 26 (arrB 32 []) ∧ Row u (w.heap.size + 1 + 1) 26 (arrB 32 (idPre s k)))) (fun i _ => 8 - (intOf i).toNat)
  case atStart => exact ⟨0, by omega, rfl, by go_grown, (Row.newAt (by simp) 26 _).alloc _, Row.newAt (by simp) 26 _⟩
  case round =>
    clear a0 a1
    obtain ⟨k, hk, rfl, hbl, hrows⟩ := hrel
    obtain ⟨r0, r1⟩ := hrows.out
    by_cases hlt : k < 8
    · have hix := index_cells s k hlt
      have e0 := (r1.cell (4 * k)).trans (arrB_get 32 _ (4 * k) (by rw [idPre_len]; omega) (by omega))
      have e1 := (r1.cell (4 * k + 1)).trans (arrB_get 32 _ (4 * k + 1) (by rw [idPre_len]; omega) (by omega))
      have e2 := (r1.cell (4 * k + 2)).trans (arrB_get 32 _ (4 * k + 2) (by rw [idPre_len]; omega) (by omega))
      have e3 := (r1.cell (4 * k + 3)).trans (arrB_get 32 _ (4 * k + 3) (by rw [idPre_len]; omega) (by omega))
      have f0 := r1.frozen (4 * k)
      have f1 := r1.frozen (4 * k + 1)
      have f2 := r1.frozen (4 * k + 2)
      have f3 := r1.frozen (4 * k + 3)
      have R0 := Lib.hid r0
      have R1 := Lib.hid r1
      have HP := Lib.hid (idPre_put s k hlt)
      clear r0 r1 hrows
      go_wp2
      go_roundw
      case rel =>
        refine ⟨k + 1, by omega, by go_num, (((hbl.setCell (by simp; omega) _).setCell (by simp; omega) _).setCell (by simp; omega) _).setCell (by simp; omega) _, (((R0.out.far (by simp) _).far (by simp) _).far (by simp) _).far (by simp) _, ?_⟩
        rw [← HP.out]
        exact (((R1.out.put _ _).put _ _).put _ _).put _ _
      case measure => simp [intOf]; omega
    · obtain rfl : k = 8 := by omega
      have hsz : Hid ((arrB 32 (idPre s 8)).size = 32 ∧ (arrB 32 []).size = (arrB 32 (idPre s 8)).size ∧ (arrB 32 (idPre s 8)).all (·.oneCell') = true) :=
        Lib.hid ⟨arrB_size _ _ (by rw [idPre_len]; omega), by rw [arrB_size 32 (idPre s 8) (by rw [idPre_len]; omega), arrB_size 32 [] (by simp)], arrB_one _ _⟩
      generalize hE : arrB 32 (idPre s 8) = cs at *
      have HE := Lib.hid hE
      clear hE
      generalize arrB 32 [] = zs at *
      have R0 : Hid (wr.heap[w.heap.size + 1]? = some (.cells zs 26 (0, 0))) := r0
      have R1 : Hid (wr.heap[w.heap.size + 1 + 1]? = some (.cells cs 26 (0, 0))) := r1
      clear r0 r1 hrows
      go_wp2_with (first
        | ((with_reducible refine wpList_load_row (o := ⟨some 38, _, _, _, _, _⟩) ?_ 26 (.tmp 3) ?_ (w.heap.size + 1 + 1) ?_ 26 cs (0, 0) _ R1.out Tryd.underlying26 ?_ (info26 cs hsz.out.1) ?_); (rfl); (rfl); (rfl); (rfl))
        | ((with_reducible refine wpList_store_row (o := ⟨none, .store 26 _ _, _, _, _, _⟩) ?_ 26 (.tmp 2) (.tmp 38) ?_ (w.heap.size + 1) cs ?_ ?_ 26 zs R0.out (info26 cs hsz.out.1) hsz.out.2.1 hsz.out.2.2 ?_); (rfl); (rfl); (rfl); (rfl))
        | ((with_reducible refine bodyPost_ret (v := .agg cs) ?_ ?_ ?_); (exact results_cell_row (p := 2) (ty := 26) Tryd.results19 _ _ (w.heap.size + 1) 26 cs (0, 0) _ rfl (setRow_heap _ _ zs cs 26 (0, 0) R0.out) Tryd.underlying26 rfl (info26 cs hsz.out.1)); (rfl)))
      exact ⟨by rw [HE.out], below_setRow hbl (by omega) _⟩
end Go.Proofs.YtlccldnjgaldoaaDoor
