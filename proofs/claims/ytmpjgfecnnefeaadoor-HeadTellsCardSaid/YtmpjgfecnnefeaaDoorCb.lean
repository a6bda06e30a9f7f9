/- Part of a proof. -/
import Derived.Test.YtmpjgfecnnefeaaDoorCa
import Derived.WalkKit
import Derived.ProofKit
import Derived.Handy
import Derived.Deep.WholeRow
import Derived.Deep.Cut
import Derived.Deep.QuietTactic
import Derived.BigQuiet
import Derived.StillTailTactics
import Derived.Lib.Hide
import Derived.Deep.MidRow
import Derived.Laws.CopyOwn
import Derived.Laws.MakeOwn
import Derived.Test.YtmpjgfecnnefeaaDoorCards
import Derived.Test.YtmpjgfecnnefeaaDoorTie
import Derived.OpenShut
import Derived.ChangeOld
import Derived.Below
import Derived.Deep.DeepHandedRow
import Derived.Lib.LaidTab
import Derived.Maps.AppendAt
import Derived.Laws.BytesArg
import Derived.ChangeKeysEq
import Derived.Lib.SlBytesConst
import Derived.Laws.BitsAllLaws
import Derived.Deep.RegionHeld3
import Derived.Deep.RegionLaw
import Derived.Deep.RegionHeld
namespace Go.Proofs.YtmpjgfecnnefeaaDoor
set_option maxRecDepth 8000
open Go.RowKit


theorem info40 (s : S8) : (Tryd.prog.info? 67).map (·.size) = some s.cells.size := by rw [s.cells_size]; kernel_rfl
set_option maxRecDepth 20000 in
set_option maxHeartbeats 4000000 in
theorem mix_any (s : S8) (b o n c : Nat) (xs : List Int) (w : World) (hn : 64 ≤ n) (hnc : n ≤ c) (hm : c ≤ 140737488355328) (hb : b < w.heap.size)
    (hx : ∀ i, i < 64 → w.cell? ⟨b, o + i, none⟩ = some (.int .u8 (xs.getD i 0))) (hr : ∀ i, 0 ≤ xs.getD i 0 ∧ xs.getD i 0 ≤ 255)
    (h1 : 1 < w.heap.size) (hk : ∀ i, i < 64 → w.cell? ⟨1, i, none⟩ = some (.int .u32 (roundNs.getD i 0))) :
    Calls Tryd.prog 48 #[.agg s.cells, .slice (some ⟨b, o, none⟩) n c] w fun e w' => e = .returned (.agg (mixS s xs).cells) ∧ Below w.heap.size w w' := by
  have HX := Lib.hid hx
  clear hx
  have HR := Lib.hid hr
  clear hr
  have HK := Lib.hid hk
  clear hk
  go_enter Tryd.func48, Tryd.ntmps48
  go_wp2_with fail
  refine (sched_any b o n c xs _ hn hnc hm ?_ ?_ HR.out).mono ?_
  · simp; omega
  · intro i hi
    rw [World.cell?_alloc_lt _ _ _ (by simp; omega), World.cell?_alloc_lt _ _ _ hb]
    exact HX.out i hi
  rintro e w1 ⟨rfl, hb1⟩
  have bw : Below w.heap.size w w1 := (((Below.refl _ _).alloc (Nat.le_refl _) _).alloc (by simp) _).trans (hb1.mono (by simp; omega))
  have sz : w.heap.size + 2 ≤ w1.heap.size := by have := hb1.size; simp at this; omega
  have r0 : Hid (Row w1 w.heap.size 67 s.cells) := ((Row.new w 67 _).alloc _).below hb1 (by simp; omega)
  have r1 : Hid (Row w1 (w.heap.size + 1) 67 zero8.cells) := (Row.newAt (by simp) 67 _).below hb1 (by simp)
  clear hb1
  have hcs : Hid ((Tryd.prog.info? 81).map (·.size) = some (arr64 (moreL xs 48)).size ∧ 64 = (arr64 (moreL xs 48)).size ∧ (arr64 (moreL xs 48)).all (·.oneCell') = true ∧ ∀ i, i < 64 → (arr64 (moreL xs 48))[i]? = some (.int .u32 ((moreL xs 48).getD i 0))) :=
    Lib.hid ⟨by rw [arr64_size _ (by rw [moreL_len]; omega)]; exact info48, by rw [arr64_size (moreL xs 48) (by rw [moreL_len]; omega)], arr64_one _, fun i hi => arr64_get _ i (by rw [moreL_len]; omega) hi⟩
  generalize hcsE : arr64 (moreL xs 48) = cs at *
  clear hcsE
  have hrun : Hid (mixS s xs = s.add (runL s (moreL xs 48) 64)) := rfl
  generalize moreL xs 48 = ws at *
  have a0 : Hid ((w1.alloc (.cells cs 81)).heap[w.heap.size]? = some (.cells s.cells 67 (0, 0))) := r0.out.alloc _
  have a1 : Hid (((w1.alloc (.cells cs 81)).alloc (.cells zero8.cells 67)).heap[w1.heap.size + 1]? = some (.cells zero8.cells 67 (0, 0))) := Row.newAt (by simp) 67 _
  go_wp2_with (first
    | ((with_reducible refine wpList_store_row (o := ⟨none, .store 81 _ _, _, _, _, _⟩) ?_ 81 (.tmp 5) (.tmp 10) ?_ w1.heap.size cs ?_ ?_ 81 _ (heap_alloc_last w1 _) hcs.out.1 ?_ hcs.out.2.2.1 ?_); (rfl); (rfl); (rfl); (rfl); (exact hcs.out.2.1); rw [World.setRow_alloc_new])
    | ((with_reducible refine wpList_load_row (o := ⟨some 11, _, _, _, _, _⟩) ?_ 67 (.tmp 2) ?_ w.heap.size ?_ 67 s.cells (0, 0) _ a0.out Tryd.underlying67 ?_ (info40 s) ?_); (rfl); (rfl); (rfl); (rfl))
    | ((with_reducible refine wpList_store_row (o := ⟨none, .store 67 _ _, _, _, _, _⟩) ?_ 67 (.tmp 6) (.tmp 11) ?_ (w1.heap.size + 1) s.cells ?_ ?_ 67 zero8.cells ?_ (info40 s) ?_ s.cells_one ?_); (rfl); (rfl); (rfl); (rfl); (exact a1.out); (rfl)))
  have z8 : Hid (Row ((w1.alloc (.cells cs 81)).alloc (.cells zero8.cells 67)) (w1.heap.size + 1) 67 zero8.cells) := a1
  have zc : Hid (Row (w1.alloc (.cells cs 81)) w1.heap.size 81 cs) := Row.new w1 81 cs
  go_loopw [12] (fun i u => ∃ k : Nat, k ≤ 64 ∧ i = .int .i64 k ∧ Below w.heap.size w u ∧ Hid (Row u w.heap.size 67 s.cells ∧ Row u (w.heap.size + 1) 67 zero8.cells ∧ Row u w1.heap.size 81 cs ∧ Row u (w1.heap.size + 1) 67 (runL s ws k).cells)) (fun i _ => 64 - (intOf i).toNat)
  case atStart =>
    refine ⟨0, by omega, rfl, below_setRow ((bw.alloc (by omega) _).alloc (by simp; omega) _) (by omega) _, ?_, ?_, ?_, ?_⟩
    · exact ((r0.out.alloc _).alloc _).setRowFar (by omega)
    · exact ((r1.out.alloc _).alloc _).setRowFar (by omega)
    · exact (zc.out.alloc _).setRowFar (by omega)
    · exact z8.out.setRow
  case round =>
    clear a0 a1 z8 zc r0 r1
    obtain ⟨k, hk, rfl, hbl, hrows⟩ := hrel
    obtain ⟨r0, r1, r2, r3⟩ := hrows.out
    by_cases hlt : k < 64
    · have kk : wr.cell? ⟨1, k, none⟩ = some (.int .u32 (roundNs.getD k 0)) := (hbl.cell (p := ⟨1, k, none⟩) h1).trans (HK.out k hlt)
      have wk : wr.cell? ⟨w1.heap.size, k, none⟩ = some (.int .u32 (ws.getD k 0)) := (r2.cell k).trans (hcs.out.2.2.2 k hlt)
      have hst : Hid (runL s ws (k + 1) = (runL s ws k).step (roundNs.getD k 0) (ws.getD k 0)) := rfl
      generalize roundNs.getD k 0 = kv at *
      generalize ws.getD k 0 = wv at *
      generalize runL s ws k = st at *
      have e0 : wr.cell? ⟨w1.heap.size + 1, 0, none⟩ = some (.int .u32 st.a) := r3.cell 0
      have e1 : wr.cell? ⟨w1.heap.size + 1, 1, none⟩ = some (.int .u32 st.b) := r3.cell 1
      have e2 : wr.cell? ⟨w1.heap.size + 1, 2, none⟩ = some (.int .u32 st.c) := r3.cell 2
      have e3 : wr.cell? ⟨w1.heap.size + 1, 3, none⟩ = some (.int .u32 st.d) := r3.cell 3
      have e4 : wr.cell? ⟨w1.heap.size + 1, 4, none⟩ = some (.int .u32 st.e) := r3.cell 4
      have e5 : wr.cell? ⟨w1.heap.size + 1, 5, none⟩ = some (.int .u32 st.f) := r3.cell 5
      have e6 : wr.cell? ⟨w1.heap.size + 1, 6, none⟩ = some (.int .u32 st.g) := r3.cell 6
      have e7 : wr.cell? ⟨w1.heap.size + 1, 7, none⟩ = some (.int .u32 st.h) := r3.cell 7
      have R3 : Hid (Row wr.drew (w1.heap.size + 1) 67 st.cells) := r3
      have R2 : Hid (Row wr.drew w1.heap.size 81 cs) := r2
      have R1 : Hid (Row wr.drew (w.heap.size + 1) 67 zero8.cells) := r1
      have R0 : Hid (Row wr.drew w.heap.size 67 s.cells) := r0
      clear r0 r1 r2 r3 hrows
      have hl2 : (k : Int) < 64 := by omega
      go_wp2_with fail
      go_still_tail 7, (by kernel_rfl)
      change wpList _ _ _ _ _ wr.drew
      go_wp2_with fail
      change Calls Tryd.prog 70 #[Value.agg st.cells, Value.int IntKind.u32 kv, Value.int IntKind.u32 wv] _ _
      refine (round_any st kv wv _).mono ?_
      rintro e w3 ⟨rfl, hb3⟩
      have s3 : w1.heap.size + 2 ≤ wr.drew.heap.size := by have := R3.out.lt; omega
      have Q3 : Hid (w3.heap[w1.heap.size + 1]? = some (.cells st.cells 67 (0, 0))) := R3.out.below hb3 (by omega)
      have Q2 : Hid (Row w3 w1.heap.size 81 cs) := R2.out.below hb3 (by omega)
      have Q1 : Hid (Row w3 (w.heap.size + 1) 67 zero8.cells) := R1.out.below hb3 (by omega)
      have Q0 : Hid (Row w3 w.heap.size 67 s.cells) := R0.out.below hb3 (by omega)
      have bl3 : Below w.heap.size w w3 := hbl.drew.trans (hb3.mono (by omega))
      clear hb3 e0 e1 e2 e3 e4 e5 e6 e7 kk wk
      generalize st.step kv wv = st2 at *
      go_wp2_with ((with_reducible refine wpList_store_row (o := ⟨none, .store 67 _ _, _, _, _, _⟩) ?_ 67 (.tmp 6) (.tmp 22) ?_ (w1.heap.size + 1) st2.cells ?_ ?_ 67 st.cells Q3.out (info40 st2) ?_ st2.cells_one ?_); (rfl); (rfl); (rfl); (rfl); (rfl))
      go_roundw
      case rel =>
        refine ⟨k + 1, by omega, by go_num, below_setRow bl3 (by omega) _, Q0.out.setRowFar (by omega), Q1.out.setRowFar (by omega), Q2.out.setRowFar (by omega), ?_⟩
        rw [hst.out]
        exact Row.setRow Q3.out
      case measure => simp [intOf]; omega
    · obtain rfl : k = 64 := by omega
      generalize runL s ws 64 = tt at *
      obtain ⟨r0, r1, r2, r3⟩ := hrows.out
      have R3 : Hid (Row wr (w1.heap.size + 1) 67 tt.cells) := r3
      have R1 : Hid (Row wr (w.heap.size + 1) 67 zero8.cells) := r1
      have R0 : Hid (Row wr w.heap.size 67 s.cells) := r0
      clear r0 r1 r2 r3 hrows
      go_wp2_with fail
      go_loopw [24] (fun i u => ∃ k : Nat, k ≤ 8 ∧ i = .int .i64 k ∧ Below w.heap.size w u ∧ Hid (Row u w.heap.size 67 (s.addTo tt k).cells ∧ Row u (w.heap.size + 1) 67 zero8.cells ∧ Row u (w1.heap.size + 1) 67 tt.cells)) (fun i _ => 8 - (intOf i).toNat)
      case atStart => exact ⟨0, by omega, rfl, hbl, R0.out, R1.out, R3.out⟩
      case round =>
        clear R0 R1 R3 hbl
        obtain ⟨k, hk, rfl, hbl, hrows⟩ := hrel
        obtain ⟨r0, r1, r3⟩ := hrows.out
        by_cases hlt : k < 8
        · have e0 : wr.cell? ⟨w.heap.size, k, none⟩ = some (.int .u32 (s.get k)) := by rw [r0.cell k, S8.cells_get _ k hlt, S8.addTo_get s tt k hlt]
          have e1 : wr.cell? ⟨w1.heap.size + 1, k, none⟩ = some (.int .u32 (tt.get k)) := by rw [r3.cell k, S8.cells_get _ k hlt]
          have f0 := r0.frozen k
          have R0 : Hid (Row wr w.heap.size 67 (s.addTo tt k).cells) := r0
          have R1 : Hid (Row wr (w.heap.size + 1) 67 zero8.cells) := r1
          have R3 : Hid (Row wr (w1.heap.size + 1) 67 tt.cells) := r3
          have HP := Lib.hid (S8.addTo_put s tt k hlt)
          clear r0 r1 r3 hrows
          have hl2 : (k : Int) < 8 := by omega
          go_wp2_with fail
          go_still_tail 7, (by kernel_rfl)
          change wpList _ _ _ _ _ wr.drew
          go_wp2
          go_roundw
          case rel =>
            repeat apply Exists.intro
            refine ⟨⟨k + 1, by omega, by go_num, hbl.drew.setCell (Nat.le_refl _) _, ?_, R1.out.drew.far (by simp) _, R3.out.drew.far (by simp; omega) _⟩, rfl⟩
            rw [← HP.out]
            exact R0.out.drew.put k _
          case measure => simp [intOf]; omega
        · obtain rfl : k = 8 := by omega
          rw [S8.addTo_all] at r0
          have hfin : Hid (mixS s xs = s.add tt) := hrun
          generalize s.add tt = ss at *
          have R0 : Hid (wr.heap[w.heap.size]? = some (.cells ss.cells 67 (0, 0))) := r0
          have R1 : Hid (wr.heap[w.heap.size + 1]? = some (.cells zero8.cells 67 (0, 0))) := r1
          clear r0 r1 r3 hrows
          go_wp2_with (first
            | ((with_reducible refine wpList_load_row (o := ⟨some 36, _, _, _, _, _⟩) ?_ 67 (.tmp 2) ?_ w.heap.size ?_ 67 ss.cells (0, 0) _ R0.out Tryd.underlying67 ?_ (info40 ss) ?_); (rfl); (rfl); (rfl); (rfl))
            | ((with_reducible refine wpList_store_row (o := ⟨none, .store 67 _ _, _, _, _, _⟩) ?_ 67 (.tmp 4) (.tmp 36) ?_ (w.heap.size + 1) ss.cells ?_ ?_ 67 zero8.cells R1.out (info40 ss) ?_ ss.cells_one ?_); (rfl); (rfl); (rfl); (rfl); (rfl))
            | ((with_reducible refine bodyPost_ret (v := .agg ss.cells) ?_ ?_ ?_); (exact results_cell_row (p := 4) (ty := 67) Tryd.results48 _ _ (w.heap.size + 1) 67 ss.cells (0, 0) _ rfl (setRow_heap _ _ zero8.cells ss.cells 67 (0, 0) R1.out) Tryd.underlying67 rfl (info40 ss)); (rfl)))
          exact ⟨by rw [hfin.out], below_setRow hbl (by omega) _⟩
end Go.Proofs.YtmpjgfecnnefeaaDoor

namespace Go.Proofs.YtmpjgfecnnefeaaDoor
set_option maxRecDepth 8000
open Go.RowKit



theorem info26 (cs : Array Value) (h : cs.size = 32) : (Tryd.prog.info? 23).map (·.size) = some cs.size := by rw [h]; kernel_rfl
theorem index_cells (s : S8) (k : Nat) (h : k < 8) (w : World) : (Instr.index 67 (.agg s.cells) (.int .i64 (k : Int))).run Tryd.prog w = .ok (.int .u32 (s.get k)) w := by
  rcases k with _ | _ | _ | _ | _ | _ | _ | _ | k
  all_goals first | omega | kernel_rfl
set_option maxRecDepth 20000 in
set_option maxHeartbeats 4000000 in
theorem id_any (s : S8) (w : World) :
    Calls Tryd.prog 49 #[.agg s.cells] w fun e w' => e = .returned (.agg (arrB 32 (idPre s 8))) ∧ Below w.heap.size w w' := by
  have a0 : Hid ((w.alloc (.cells s.cells 67)).heap[w.heap.size]? = some (.cells s.cells 67 (0, 0))) := heap_alloc_last w _
  have a1 : Hid ((((w.alloc (.cells s.cells 67)).alloc (.cells (arrB 32 []) 23)).alloc (.cells (arrB 32 []) 23)).heap[w.heap.size]? = some (.cells s.cells 67 (0, 0))) := ((Row.new w 67 _).alloc _).alloc _
  go_enter Tryd.func49, Tryd.ntmps49
  go_wp2_with ((with_reducible refine wpList_load_row (o := ⟨some 6, _, _, _, _, _⟩) ?_ 67 (.tmp 1) ?_ w.heap.size ?_ 67 s.cells (0, 0) _ ?_ Tryd.underlying67 ?_ (info40 s) ?_); (rfl); (rfl); (rfl); (exact a1.out); (rfl))
  go_loopw [7] (fun i u => ∃ k : Nat, k ≤ 8 ∧ i = .int .i64 k ∧ Below w.heap.size w u ∧ Hid (Row u (w.heap.size + 1) 23 (arrB 32 []) ∧ Row u (w.heap.size + 1 + 1) 23 (arrB 32 (idPre s k)))) (fun i _ => 8 - (intOf i).toNat)
  case atStart => exact ⟨0, by omega, rfl, by go_grown, (Row.newAt (by simp) 23 _).alloc _, Row.newAt (by simp) 23 _⟩
  case round =>
    clear a0 a1
    obtain ⟨k, hk, rfl, hbl, hrows⟩ := hrel
    obtain ⟨r0, r1⟩ := hrows.out
    by_cases hlt : k < 8
    · have hix := index_cells s k hlt
      have e0 := (r1.cell (4 * k)).trans (arrB_get 32 _ (4 * k) (by rw [idPre_len]; omega) (by omega))
      have e1 := (r1.cell (4 * k + 1)).trans (arrB_get 32 _ (4 * k + 1) (by rw [idPre_len]; omega) (by omega))
      have e2 := (r1.cell (4 * k + 2)).trans (arrB_get 32 _ (4 * k + 2) (by rw [idPre_len]; omega) (by omega))
      have e3 := (r1.cell (4 * k + 3)).trans (arrB_get 32 _ (4 * k + 3) (by rw [idPre_len]; omega) (by omega))
      have f0 := r1.frozen (4 * k)
      have f1 := r1.frozen (4 * k + 1)
      have f2 := r1.frozen (4 * k + 2)
      have f3 := r1.frozen (4 * k + 3)
      have R0 := Lib.hid r0
      have R1 := Lib.hid r1
      have HP := Lib.hid (idPre_put s k hlt)
      clear r0 r1 hrows
      go_wp2
      go_roundw
      case rel =>
        refine ⟨k + 1, by omega, by go_num, (((hbl.setCell (by simp; omega) _).setCell (by simp; omega) _).setCell (by simp; omega) _).setCell (by simp; omega) _, (((R0.out.far (by simp) _).far (by simp) _).far (by simp) _).far (by simp) _, ?_⟩
        rw [← HP.out]
        exact (((R1.out.put _ _).put _ _).put _ _).put _ _
      case measure => simp [intOf]; omega
    · obtain rfl : k = 8 := by omega
      have hsz : Hid ((arrB 32 (idPre s 8)).size = 32 ∧ (arrB 32 []).size = (arrB 32 (idPre s 8)).size ∧ (arrB 32 (idPre s 8)).all (·.oneCell') = true) :=
        Lib.hid ⟨arrB_size _ _ (by rw [idPre_len]; omega), by rw [arrB_size 32 (idPre s 8) (by rw [idPre_len]; omega), arrB_size 32 [] (by simp)], arrB_one _ _⟩
      generalize hE : arrB 32 (idPre s 8) = cs at *
      have HE := Lib.hid hE
      clear hE
      generalize arrB 32 [] = zs at *
      have R0 : Hid (wr.heap[w.heap.size + 1]? = some (.cells zs 23 (0, 0))) := r0
      have R1 : Hid (wr.heap[w.heap.size + 1 + 1]? = some (.cells cs 23 (0, 0))) := r1
      clear r0 r1 hrows
      go_wp2_with (first
        | ((with_reducible refine wpList_load_row (o := ⟨some 38, _, _, _, _, _⟩) ?_ 23 (.tmp 3) ?_ (w.heap.size + 1 + 1) ?_ 23 cs (0, 0) _ R1.out Tryd.underlying23 ?_ (info26 cs hsz.out.1) ?_); (rfl); (rfl); (rfl); (rfl))
        | ((with_reducible refine wpList_store_row (o := ⟨none, .store 23 _ _, _, _, _, _⟩) ?_ 23 (.tmp 2) (.tmp 38) ?_ (w.heap.size + 1) cs ?_ ?_ 23 zs R0.out (info26 cs hsz.out.1) hsz.out.2.1 hsz.out.2.2 ?_); (rfl); (rfl); (rfl); (rfl))
        | ((with_reducible refine bodyPost_ret (v := .agg cs) ?_ ?_ ?_); (exact results_cell_row (p := 2) (ty := 23) Tryd.results49 _ _ (w.heap.size + 1) 23 cs (0, 0) _ rfl (setRow_heap _ _ zs cs 23 (0, 0) R0.out) Tryd.underlying23 rfl (info26 cs hsz.out.1)); (rfl)))
      exact ⟨by rw [HE.out], below_setRow hbl (by omega) _⟩
end Go.Proofs.YtmpjgfecnnefeaaDoor

namespace Go.Proofs.YtmpjgfecnnefeaaDoor
set_option maxRecDepth 8000
open Go.RowKit




/-- What bytes become: m bytes in all. -/
def padL (xs : List Int) (m : Nat) : List Int := xs ++ [128] ++ List.replicate (m - 9 - xs.length) 0 ++ lenL xs.length
theorem lenL_len (n : Int) : (lenL n).length = 8 := rfl
theorem padL_len (xs : List Int) (m : Nat) (h : xs.length + 9 ≤ m) : (padL xs m).length = m := by simp [padL, lenL_len]; omega
def listB (n : Nat) (l : List Int) : List Value := (l ++ List.replicate (n - l.length) 0).map u8v
theorem arrB_listB (n : Nat) (l : List Int) : arrB n l = (listB n l).toArray := rfl
theorem listB_len (n : Nat) (l : List Int) (h : l.length ≤ n) : (listB n l).length = n := by simp [listB]; omega
theorem splice_first (m : Nat) (xs : List Int) : splice (listB m []) 0 (xs.map u8v) = listB m xs := by
  simp [splice, listB, List.drop_replicate]
theorem splice_last (m : Nat) (xs : List Int) (h : xs.length + 9 ≤ m) : splice (listB m (xs ++ [128])) (m - 8) ((lenL xs.length).map u8v) = listB m (padL xs m) := by
  have e1 : m - 8 + (lenL xs.length).length = m := by rw [lenL_len]; omega
  have e2 : (listB m (xs ++ [128])).take (m - 8) = (xs ++ [128] ++ List.replicate (m - 9 - xs.length) 0).map u8v := by
    unfold listB
    rw [← List.map_take]
    congr 1
    rw [List.take_append]
    congr 1
    · exact List.take_of_length_le (by simp; omega)
    · rw [List.take_replicate]
      congr 1
      simp
      omega
  have e3 : (listB m (xs ++ [128])).drop m = [] := List.drop_eq_nil_of_le (by rw [listB_len _ _ (by simp; omega)]; omega)
  unfold splice
  rw [e2, List.length_map, e1, e3]
  simp [listB, padL, lenL_len]
  omega
theorem info36 (cs : Array Value) (h : cs.size = 8) : (Tryd.prog.info? 79).map (·.size) = some cs.size := by rw [h]; kernel_rfl
theorem info5s : (Tryd.prog.info? 5).map (·.size) = some 1 := by kernel_rfl
set_option maxRecDepth 20000 in
set_option maxHeartbeats 4000000 in
theorem pad_any (A : Option Addr) (n c : Nat) (xs : List Int) (w : World) (hl : xs.length = n) (hn : n ≤ 70368744177664) (hx : Bytes w w.heap.size A xs) :
    Calls Tryd.prog 47 #[.slice A n c] w fun e w' => e = .returned (.slice (some ⟨w.heap.size, 0, none⟩) ((n + 72) / 64 * 64) ((n + 72) / 64 * 64)) ∧ Row w' w.heap.size 5 (arrB ((n + 72) / 64 * 64) (padL xs ((n + 72) / 64 * 64))) ∧ Below w.heap.size w w' := by
  have HL := Lib.hid hl
  have HX := Lib.hid hx
  clear hl hx
  obtain ⟨m, hm'⟩ : ∃ m : Nat, (n + 72) / 64 * 64 = m := ⟨_, rfl⟩
  rw [hm']
  have hm : ((n : Int) + 1 + 8 + 64 - 1) / 64 * 64 = m := by omega
  have HM := Lib.hid hm
  have m1 : n + 9 ≤ m := by omega
  have m2 : m < n + 73 := by omega
  clear hm hm'
  go_enter Tryd.func47, Tryd.ntmps47
  go_wp2_with fail
  rw [HM.out, make_bytes m (by omega)]
  have H0 : Hid ((w.alloc (.cells (arrB m []) 5)).heap[w.heap.size]? = some (.cells (listB m []).toArray 5 (0, 0))) := Row.new w 5 (arrB m [])
  have HB : Hid (Below w.heap.size w (w.alloc (.cells (arrB m []) 5))) := Lib.hid ((Below.refl _ _).alloc (Nat.le_refl _) _)
  have HC : Hid (0 < (xs.map u8v).length → some (⟨w.heap.size, 0, none⟩ : Addr) = some ⟨w.heap.size, 0, none⟩ ∧ ∃ ad, A = some ad ∧ ∀ j v, (xs.map u8v)[j]? = some v → (w.alloc (.cells (arrB m []) 5)).cell? (ad.add j) = some v) := by
    intro hp
    obtain ⟨ad, e, _, hc⟩ := (HX.out.below HB.out) (by simpa using hp)
    exact ⟨rfl, ad, e, hc⟩
  go_wp2_with ((with_reducible refine wpList_copy_splice (o := ⟨some 20, _, _, _, _, _⟩) ?_ (.tmp 18) (.tmp 19) 30 30 ?_ 5 Tryd.underlying30 info5s _ A m m n c ?_ ?_ w.heap.size 0 (listB m []) 5 H0.out (xs.map u8v) ?_ HC.out ?_ ?_ w.heap.size w HB.out ?_ ?_); (rfl); (rfl); (rfl); (rfl); (rw [List.length_map, HL.out]; exact (Nat.min_eq_left (by omega)).symm); (rw [List.length_map, HL.out, listB_len m [] (by simp)]; omega); (intro v hv; obtain ⟨z, _, rfl⟩ := List.mem_map.1 hv; rfl); (exact Nat.le_refl _); intro w1 R1 b1; have r1 : Row w1 w.heap.size 5 (arrB m xs) := (by rw [arrB_listB, ← splice_first m xs]; exact R1.out); have c1 := (r1.cell n).trans (arrB_get m xs n (by rw [HL.out]; omega) (by omega)); have f1 := r1.frozen n; have RR := Lib.hid r1; have BB := Lib.hid b1; clear r1 R1 H0 HB HC b1)
  have r2 : Row (w1.setCell ⟨w.heap.size, n, none⟩ (.int .u8 128)) w.heap.size 5 (arrB m (xs ++ [128])) := by
    rw [← arrB_put_at m xs 128 n HL.out (by omega)]
    exact RR.out.put n _
  have b2 : Below w.heap.size w (w1.setCell ⟨w.heap.size, n, none⟩ (.int .u8 128)) := BB.out.setCell (Nat.le_refl _) _
  clear c1 f1 RR BB
  generalize w1.setCell ⟨w.heap.size, n, none⟩ (.int .u8 128) = w2 at *
  refine (len_any (n : Int) w2 (by omega) (by omega)).mono ?_
  rintro e w3 ⟨rfl, hb3⟩
  have s2 := r2.lt
  have s3 := hb3.size
  have r3 : Hid (Row w3 w.heap.size 5 (arrB m (xs ++ [128]))) := r2.below hb3 r2.lt
  have b3 : Hid (Below w.heap.size w w3) := b2.trans (hb3.mono (by omega))
  clear hb3 r2 b2
  have hls : Hid (((lenL (n : Int)).map u8v).toArray.size = 8) := rfl
  have hlo : Hid (((lenL (n : Int)).map u8v).toArray.all (·.oneCell') = true) := by
    show _ = _
    simp [lenL, u8v, Value.oneCell']
  have hlc : Hid ((lenL (n : Int)).map u8v = (lenL (xs.length : Int)).map u8v) := by rw [HL.out]; exact rfl
  generalize (lenL (n : Int)).map u8v = ll at *
  go_wp2_with (first
    | ((with_reducible refine wpList_store_row (o := ⟨none, .store 79 _ _, _, _, _, _⟩) ?_ 79 (.tmp 6) (.tmp 27) ?_ w3.heap.size ll.toArray ?_ ?_ 79 _ (heap_alloc_last w3 _) (info36 _ hls.out) ?_ hlo.out ?_); (rfl); (rfl); (rfl); (rfl); (rw [hls.out]; rfl); rw [World.setRow_alloc_new])
    | fail)
  have R4 : Hid (Row (w3.alloc (.cells ll.toArray 79)) w.heap.size 5 (arrB m (xs ++ [128]))) := r3.out.alloc _
  have R5 : Hid (Row (w3.alloc (.cells ll.toArray 79)) w3.heap.size 79 ll.toArray) := Row.new _ _ _
  have b4 : Hid (Below w.heap.size w (w3.alloc (.cells ll.toArray 79))) := Lib.hid (b3.out.alloc (by omega) _)
  clear r3 b3
  generalize w3.alloc (.cells ll.toArray 79) = w4 at *
  have s8 : IntKind.i64.wrap ((m : Int) - 8) = ((m - 8 : Nat) : Int) := by rw [IntWalk.i64_in _ (by omega)]; omega
  have s8a : m - 8 ≤ m := by omega
  have s8b : ((m - 8 : Nat) : Int) ≤ (m : Int) := by omega
  have s8c : ¬ (m = m - 8) := by omega
  have s8d : m - (m - 8) = 8 := by omega
  go_still_tail 5, (by kernel_rfl)
  clear s8 s8a s8b s8c s8d
  change wpList _ _ _ _ _ w4.drew
  refine wpList_copy_splice (o := ⟨some 33, _, _, _, _, _⟩) rfl (.tmp 31) (.tmp 32) 30 30 rfl 5 Tryd.underlying30 info5s _ _ 8 8 8 8 rfl rfl w.heap.size (m - 8) (listB m (xs ++ [128])) 5 R4.out.drew ll (by have := hls.out; simpa using this) ?_ (by rw [listB_len _ _ (by rw [List.length_append, HL.out]; simp; omega)]; have := hls.out; simp at this; omega) (by have := hlo.out; simpa using this) w.heap.size w b4.out.drew (Nat.le_refl _) ?_
  · intro _
    refine ⟨rfl, ⟨w3.heap.size, 0, none⟩, rfl, fun j v hv => ?_⟩
    rw [Addr.add_mid, Nat.zero_add, R5.out.drew.cell j]
    simpa using hv
  intro w5 R6 b5
  have R7 : Hid (Row w5 w.heap.size 5 (arrB m (padL xs m))) := by
    show Row _ _ _ _
    rw [arrB_listB, ← splice_last m xs (by rw [HL.out]; omega), ← hlc.out]
    exact R6.out
  clear R6 R4 R5
  go_wp2
  go_ret
  exact ⟨rfl, R7.out, b5⟩
end Go.Proofs.YtmpjgfecnnefeaaDoor

namespace Go.Proofs.YtmpjgfecnnefeaaDoor
set_option maxRecDepth 8000
open Go.RowKit





/-- What the two tables of the package hold. -/
structure Tables (w : World) : Prop where
  words : ∀ i, i < 8 → w.cell? ⟨0, i, none⟩ = some (.int .u32 (firstW.get i))
  rounds : ∀ i, i < 64 → w.cell? ⟨1, i, none⟩ = some (.int .u32 (roundNs.getD i 0))
  there : 1 < w.heap.size
theorem Tables.below {w w' : World} (h : Tables w) (hb : Below w.heap.size w w') : Tables w' :=
  ⟨fun i hi => (hb.cell (p := ⟨0, i, none⟩) (by have := h.there; simp; omega)).trans (h.words i hi), fun i hi => (hb.cell (p := ⟨1, i, none⟩) h.there).trans (h.rounds i hi), Nat.lt_of_lt_of_le h.there hb.size⟩
theorem padL_range (xs : List Int) (m : Nat) (hn : xs.length ≤ 70368744177664) (hr : ∀ x ∈ xs, 0 ≤ x ∧ x ≤ 255) : ∀ x ∈ padL xs m, 0 ≤ x ∧ x ≤ 255 := by
  intro x hx
  simp only [padL, List.mem_append, List.mem_replicate, lenL, List.mem_cons, List.not_mem_nil, or_false] at hx
  rcases hx with ((hx | hx) | hx) | hx
  · exact hr x hx
  · omega
  · omega
  · omega
theorem getD_range (l : List Int) (h : ∀ x ∈ l, 0 ≤ x ∧ x ≤ 255) (i : Nat) : 0 ≤ l.getD i 0 ∧ l.getD i 0 ≤ 255 := by
  by_cases hi : i < l.length
  · have e : l.getD i 0 = l[i] := by simp [List.getD, List.getElem?_eq_getElem hi]
    rw [e]
    exact h _ (List.getElem_mem hi)
  · have e : l.getD i 0 = 0 := by simp [List.getD, List.getElem?_eq_none (by omega : l.length ≤ i)]
    rw [e]
    omega
def sumL (xs : List Int) : List Int := idPre (sumK (padL xs ((xs.length + 72) / 64 * 64)) ((xs.length + 72) / 64)) 8
set_option maxRecDepth 20000 in
set_option maxHeartbeats 4000000 in
theorem sum_any (A : Option Addr) (n c : Nat) (xs : List Int) (w : World) (hl : xs.length = n) (hn : n ≤ 70368744177664) (hx : Bytes w w.heap.size A xs) (hr : ∀ x ∈ xs, 0 ≤ x ∧ x ≤ 255) (ht : Tables w) :
    Calls Tryd.prog 24 #[.slice A n c] w fun e w' => e = .returned (.agg (arrB 32 (sumL xs))) ∧ Below w.heap.size w w' := by
  have HL := Lib.hid hl
  have hsum : Hid (sumL xs = idPre (sumK (padL xs ((n + 72) / 64 * 64)) ((n + 72) / 64)) 8) := by show _ = _; rw [← hl]; rfl
  have HP := Lib.hid (padL_range xs ((n + 72) / 64 * 64) (by omega) hr)
  have HQ := Lib.hid (padL_len xs ((n + 72) / 64 * 64) (by omega))
  have HB0 := Lib.hid (((Below.refl w.heap.size w).alloc (Nat.le_refl _) (.cells (arrB 32 []) 23)))
  have HX := Lib.hid (hx.below HB0.out)
  clear hx hr hl
  go_enter Tryd.func24, Tryd.ntmps24
  go_wp2_with fail
  refine (pad_any A n c xs _ HL.out hn (fun h => ?_)).mono ?_
  · obtain ⟨ad, e, hlt, hc⟩ := HX.out h
    exact ⟨ad, e, by simp; omega, hc⟩
  rintro e w1 ⟨rfl, r1, b1⟩
  rw [World.size_alloc] at r1 b1
  have q1 : (n + 72) / 64 ≤ 1099511627778 := by omega
  generalize padL xs ((n + 72) / 64 * 64) = pp at *
  generalize (n + 72) / 64 = q at *
  have bw : Below w.heap.size w w1 := HB0.out.trans (b1.mono (by omega))
  have t1 := ht.below bw
  have rz : Hid (Row w1 w.heap.size 23 (arrB 32 [])) := (Row.new w 23 _).below b1 (by omega)
  have c0 := t1.words 0 (by omega)
  have c1 := t1.words 1 (by omega)
  have c2 := t1.words 2 (by omega)
  have c3 := t1.words 3 (by omega)
  have c4 := t1.words 4 (by omega)
  have c5 := t1.words 5 (by omega)
  have c6 := t1.words 6 (by omega)
  have c7 := t1.words 7 (by omega)
  have R1 := Lib.hid r1
  clear r1 HB0 HX
  go_wp2_with fail
  clear c0 c1 c2 c3 c4 c5 c6 c7
  have s1 := R1.out.lt
  go_loopw [12] (fun i u => ∃ k : Nat, k ≤ q ∧ i = .int .i64 k ∧ Below w.heap.size w u ∧ Hid (Row u w.heap.size 23 (arrB 32 []) ∧ Row u (w.heap.size + 1) 5 (arrB (q * 64) pp) ∧ Row u w1.heap.size 67 (sumK pp k).cells)) (fun i _ => q - (intOf i).toNat)
  case atStart => exact ⟨0, by omega, rfl, bw.alloc (by omega) _, rz.out.alloc _, R1.out.alloc _, Row.new w1 67 _⟩
  case round =>
    obtain ⟨k, hk, rfl, hbl, hrows⟩ := hrel
    obtain ⟨r0, r1, r2⟩ := hrows.out
    by_cases hlt : k < q
    · have hst : Hid (sumK pp (k + 1) = mixS (sumK pp k) (pp.drop (64 * k))) := rfl
      generalize sumK pp k = st at *
      have e0 : wr.cell? ⟨w1.heap.size, 0, none⟩ = some (.int .u32 st.a) := r2.cell 0
      have e1 : wr.cell? ⟨w1.heap.size, 1, none⟩ = some (.int .u32 st.b) := r2.cell 1
      have e2 : wr.cell? ⟨w1.heap.size, 2, none⟩ = some (.int .u32 st.c) := r2.cell 2
      have e3 : wr.cell? ⟨w1.heap.size, 3, none⟩ = some (.int .u32 st.d) := r2.cell 3
      have e4 : wr.cell? ⟨w1.heap.size, 4, none⟩ = some (.int .u32 st.e) := r2.cell 4
      have e5 : wr.cell? ⟨w1.heap.size, 5, none⟩ = some (.int .u32 st.f) := r2.cell 5
      have e6 : wr.cell? ⟨w1.heap.size, 6, none⟩ = some (.int .u32 st.g) := r2.cell 6
      have e7 : wr.cell? ⟨w1.heap.size, 7, none⟩ = some (.int .u32 st.h) := r2.cell 7
      have R0 : Hid (Row wr.drew w.heap.size 23 (arrB 32 [])) := r0
      have R1' : Hid (Row wr.drew (w.heap.size + 1) 5 (arrB (q * 64) pp)) := r1
      have R2 : Hid (Row wr.drew w1.heap.size 67 st.cells) := r2
      clear r0 r1 r2 hrows
      have hl2 : (k : Int) < (q : Int) := by omega
      have a1 : IntKind.i64.wrap ((k : Int) * 64) = (k : Int) * 64 := IntWalk.i64_in _ (by omega)
      have a2 : IntKind.i64.wrap ((k : Int) + 1) = (k : Int) + 1 := IntWalk.i64_in _ (by omega)
      have a3 : IntKind.i64.wrap (((k : Int) + 1) * 64) = ((k : Int) + 1) * 64 := IntWalk.i64_in _ (by omega)
      have a4 : (((k : Int) + 1) * 64).toNat = (k + 1) * 64 := by omega
      have a5 : ((k : Int) * 64).toNat = k * 64 := by omega
      have a6 : 0 ≤ (k : Int) * 64 := by omega
      have a7 : (k : Int) * 64 ≤ ((k : Int) + 1) * 64 := by omega
      have a8 : ((k : Int) + 1) * 64 ≤ (q : Int) * 64 := by omega
      have a9 : ¬ (q * 64 = k * 64) := by omega
      have aa : (k + 1) * 64 - k * 64 = 64 := by omega
      have ab : 0 ≤ ((k : Int) + 1) * 64 := by omega
      have ac : (k : Int) + 1 ≤ (q : Int) := by omega
      have ad : (k : Int) ≤ (k : Int) + 1 := by omega
      go_wp2_with fail
      go_still_tail 8, (by kernel_rfl)
      clear a1 a2 a3 a4 a5 a6 a7 a8 a9 aa ab ac ad
      change wpList _ _ _ _ _ wr.drew
      go_wp2_with fail
      change Calls Tryd.prog 48 #[Value.agg st.cells, Value.slice (some ⟨w.heap.size + 1, k * 64, none⟩) 64 (q * 64 - k * 64)] _ _
      refine (mix_any st (w.heap.size + 1) (k * 64) 64 (q * 64 - k * 64) (pp.drop (64 * k)) _ (by omega) (by omega) (by omega) R1'.out.lt ?_ ?_ ?_ ?_).mono ?_
      · intro i hi
        rw [R1'.out.cell, arrB_get _ _ _ (by rw [HQ.out]; omega) (by omega)]
        simp [List.getD, List.getElem?_drop, Nat.mul_comm]
      · exact getD_range _ (fun x hx => HP.out x (List.mem_of_mem_drop hx))
      · exact Nat.lt_of_lt_of_le ht.there hbl.size
      · exact (ht.below hbl).rounds
      rintro e w3 ⟨rfl, hb3⟩
      have Q2 : Hid (w3.heap[w1.heap.size]? = some (.cells st.cells 67 (0, 0))) := R2.out.below hb3 R2.out.lt
      have Q1 : Hid (Row w3 (w.heap.size + 1) 5 (arrB (q * 64) pp)) := R1'.out.below hb3 R1'.out.lt
      have Q0 : Hid (Row w3 w.heap.size 23 (arrB 32 [])) := R0.out.below hb3 R0.out.lt
      have bl3 : Below w.heap.size w w3 := hbl.drew.trans (hb3.mono hbl.size)
      clear hb3 e0 e1 e2 e3 e4 e5 e6 e7
      generalize mixS st (pp.drop (64 * k)) = st2 at *
      go_wp2_with ((with_reducible refine wpList_store_row (o := ⟨none, .store 67 _ _, _, _, _, _⟩) ?_ 67 (.tmp 4) (.tmp 23) ?_ w1.heap.size st2.cells ?_ ?_ 67 st.cells Q2.out (info40 st2) ?_ st2.cells_one ?_); (rfl); (rfl); (rfl); (rfl); (rfl))
      go_roundw
      case rel =>
        refine ⟨k + 1, by omega, by go_num, below_setRow bl3 (by omega) _, Q0.out.setRowFar (by omega), Q1.out.setRowFar (by omega), ?_⟩
        rw [hst.out]
        exact Row.setRow Q2.out
      case measure => simp [intOf]; omega
    · obtain rfl : k = q := by omega
      have hfin : Hid (sumL xs = idPre (sumK pp k) 8) := hsum
      generalize sumK pp k = st at *
      have Z2 : Hid (wr.heap[w1.heap.size]? = some (.cells st.cells 67 (0, 0))) := r2
      have Z0 : Hid (Row wr w.heap.size 23 (arrB 32 [])) := r0
      clear r0 r1 r2 hrows
      go_wp2_with ((with_reducible refine wpList_load_row (o := ⟨some 25, _, _, _, _, _⟩) ?_ 67 (.tmp 4) ?_ w1.heap.size ?_ 67 st.cells (0, 0) _ Z2.out Tryd.underlying67 ?_ (info40 st) ?_); (rfl); (rfl); (rfl); (rfl))
      refine (id_any st wr).mono ?_
      rintro e w3 ⟨rfl, hb3⟩
      have hsz : Hid ((arrB 32 (idPre st 8)).size = 32 ∧ (arrB 32 []).size = (arrB 32 (idPre st 8)).size ∧ (arrB 32 (idPre st 8)).all (·.oneCell') = true) :=
        Lib.hid ⟨arrB_size _ _ (by rw [idPre_len]; omega), by rw [arrB_size 32 (idPre st 8) (by rw [idPre_len]; omega), arrB_size 32 [] (by simp)], arrB_one _ _⟩
      have Q0 : Hid (w3.heap[w.heap.size]? = some (.cells (arrB 32 []) 23 (0, 0))) := Z0.out.below hb3 Z0.out.lt
      have bl3 : Below w.heap.size w w3 := hbl.trans (hb3.mono hbl.size)
      clear hb3 Z0 Z2
      have HF : Hid (arrB 32 (sumL xs) = arrB 32 (idPre st 8)) := by show _ = _; rw [hfin.out]
      generalize arrB 32 (idPre st 8) = cs at *
      generalize arrB 32 [] = zs at *
      go_wp2_with (first
        | ((with_reducible refine wpList_store_row (o := ⟨none, .store 23 _ _, _, _, _, _⟩) ?_ 23 (.tmp 2) (.tmp 26) ?_ w.heap.size cs ?_ ?_ 23 zs Q0.out (info26 cs hsz.out.1) hsz.out.2.1 hsz.out.2.2 ?_); (rfl); (rfl); (rfl); (rfl))
        | ((with_reducible refine bodyPost_ret (v := .agg cs) ?_ ?_ ?_); (exact results_cell_row (p := 2) (ty := 23) Tryd.results24 _ _ w.heap.size 23 cs (0, 0) _ rfl (setRow_heap _ _ zs cs 23 (0, 0) Q0.out) Tryd.underlying23 rfl (info26 cs hsz.out.1)); (rfl)))
      exact ⟨by rw [HF.out], below_setRow bl3 (Nat.le_refl _) _⟩
theorem sumL_len (xs : List Int) : (sumL xs).length = 32 := by unfold sumL; rw [idPre_len]
end Go.Proofs.YtmpjgfecnnefeaaDoor

namespace Go.Proofs.YtmpjgfecnnefeaaDoor
set_option maxRecDepth 8000
open Go.ChangeShapes Go.WideShapes Go.ChangeAt Go.RowKit

theorem gFirst : Tryd.prog.globalNamed "stepladder/sha.firstWords" = some 0 := by kernel_rfl
theorem gFirstType : (Tryd.prog.globals[0]?).map (·.type) = some 67 := by kernel_rfl
theorem gRound : Tryd.prog.globalNamed "stepladder/sha.roundNumbers" = some 1 := by kernel_rfl
theorem gRoundType : (Tryd.prog.globals[1]?).map (·.type) = some 81 := by kernel_rfl
theorem cells40 : Tryd.prog.cellsOf 67 = 8 := by kernel_rfl
theorem cells48 : Tryd.prog.cellsOf 81 = 64 := by kernel_rfl
theorem cells39 : Tryd.prog.cellsOf 27 = 1 := by kernel_rfl
def laidBoth : List (String × DataW Unit) := [("stepladder/sha.firstWords", Rows.laid_stepladder_sha_firstWords), ("stepladder/sha.roundNumbers", Rows.laid_stepladder_sha_roundNumbers)]
theorem tables_of_laid {W : World} (h : laidMetH Tryd.prog laidBoth W) : Tables W := by
  have h1 : Lib.TabIs Tryd.prog W "stepladder/sha.firstWords" .u32 [1779033703, 3144134277, 1013904242, 2773480762, 1359893119, 2600822924, 528734635, 1541459225] :=
    Lib.tabIs_of_head (rest := [("stepladder/sha.roundNumbers", Rows.laid_stepladder_sha_roundNumbers)]) gFirst gFirstType Tryd.underlying67 Tryd.underlying27 cells39 cells40 h
  have h2 : Lib.TabIs Tryd.prog W "stepladder/sha.roundNumbers" .u32 roundNs :=
    Lib.tabIs_of_head (rest := []) gRound gRoundType Tryd.underlying81 Tryd.underlying27 cells39 cells48 (h.filter (fun x => x.1 == "stepladder/sha.roundNumbers"))
  refine ⟨fun i hi => h1.cell gFirst i hi, fun i hi => h2.cell gRound i hi, ?_⟩
  have := h2.cell gRound 0 (by decide)
  rcases Nat.lt_or_ge 1 W.heap.size with hl | hl
  · exact hl
  · simp [World.cell?, Array.getElem?_eq_none hl] at this

/-- The same block with other cells. -/
def withCells (cs : Array Value) : Obj → Obj
  | .cells _ t frozen => .cells cs t frozen
  | o => o
/-- A WORLD FOR THE WITNESS: the settled one, the two tables holding what their initialisers lay. -/
noncomputable def laidWorld (os : Os) : World :=
  { World.holding Tryd.prog os ⟨#[], #[], []⟩ with heap := ((World.holding Tryd.prog os ⟨#[], #[], []⟩).heap.modify 0 (withCells firstW.cells)).modify 1 (withCells (roundNs.map u32v).toArray) }
end Go.Proofs.YtmpjgfecnnefeaaDoor

namespace Go.Proofs.YtmpjgfecnnefeaaDoor
set_option maxRecDepth 8000
open Go.RowKit












set_option maxRecDepth 20000 in
set_option maxHeartbeats 1000000 in
theorem shaof_any (A : Option Addr) (n c : Nat) (xss : List (List Int)) (w : World) (hl : xss.length = n) (hx : Parts w w.heap.size A xss) (hn : n ≤ 9223372036854775807) (hs : xss.flatten.length ≤ 70368744177664) (ht : Tables w) :
    Calls Tryd.prog 42 #[.slice A n c] w fun e w' => e = .returned (.agg (arrB 32 (sumL xss.flatten))) ∧ Below w.heap.size w w' := by
  have HL := Lib.hid hl
  have HX := Lib.hid hx
  clear hl hx
  go_enter Tryd.func42, Tryd.ntmps42
  go_wp2_with fail
  go_loopw [3, 8] (fun v i u => ∃ k : Nat, k ≤ n ∧ i = .int .i64 k ∧ Below w.heap.size w u ∧ Hid (Row u w.heap.size 23 (arrB 32 []) ∧ u.ownsRow (w.heap.size + 1) 5 1 v (xss.take k).flatten.length ((xss.take k).flatten.map u8v))) (fun _ i _ => n - (intOf i).toNat)
  case atStart => exact ⟨0, by omega, rfl, by go_grown, Row.new w 23 _, World.ownsRow_nil _ _ _ _⟩
  case round =>
    obtain ⟨k, hk, rfl, hbl, hrows⟩ := hrel
    obtain ⟨r0, hown⟩ := hrows.out
    have s0 := r0.lt
    by_cases hlt : k < n
    · have hg := List.getElem?_eq_getElem (by rw [HL.out]; exact hlt : k < xss.length)
      have hst := Lib.hid (flat_step xss k _ hg)
      obtain ⟨b, o, a, c1, rfl, hb, hc, hy, hr⟩ := HX.out k _ hg
      have hle : (xss.take k).flatten.length + (xss[k]'(by rw [HL.out]; exact hlt)).length ≤ xss.flatten.length := by
        have e := congrArg List.length hst.out
        rw [List.length_append] at e
        have h2 : (xss.take (k + 1)).flatten.length ≤ xss.flatten.length := by
          conv => rhs; rw [← List.take_append_drop (k + 1) xss, List.flatten_append, List.length_append]
          omega
        omega
      generalize xss[k]'(by rw [HL.out]; exact hlt) = ys at *
      obtain ⟨v', w', hrun, hown', hgr⟩ := append_bytes _ _ _ _ wr hown a ys.length c1 w.heap.size ys rfl (hy.below hbl) (by omega) (by omega)
      have hcell := (hbl.cell (p := ⟨b, o + k, none⟩) hb).trans hc
      have hb2 := below_of_grown (B := w.heap.size + 1) hgr (fun g hg => (hown.lt g hg).1) (by omega)
      have R0 := Lib.hid (r0.below hb2 (by omega))
      have BB := Lib.hid (hbl.trans (hb2.mono (by omega)))
      have OO := Lib.hid hown'
      clear r0 hown hrows hg hc hy hr hgr hb2 hown' hle
      have hk2 : (k : Int) < (n : Int) := by omega
      have HRUN := Lib.hid hrun
      clear hrun
      go_wp2_with (at_builtin; (with_reducible refine wpList_append_run (o := ⟨some 14, _, _, _, _, _⟩) ?_ (.tmp 12) (.tmp 13) ?_ ?_ ?_ ?_ HRUN.out ?_); (rfl); (rfl); (rfl); (rfl); (rfl))
      go_roundw
      case rel =>
        refine ⟨k + 1, by omega, by go_num, BB.out, R0.out, ?_⟩
        rw [hst.out, List.length_append, List.map_append]
        exact OO.out
      case measure => simp [intOf]; omega
    · obtain rfl : k = n := by omega
      have hT : xss.take k = xss := List.take_of_length_le (by rw [HL.out]; exact Nat.le_refl _)
      rw [hT] at hown
      obtain ⟨A1, c1, rfl⟩ := own_form hown
      have hr : ∀ x ∈ xss.flatten, 0 ≤ x ∧ x ≤ 255 := by
        intro x hx
        obtain ⟨l, hl, hxl⟩ := List.mem_flatten.1 hx
        obtain ⟨j, hj, rfl⟩ := List.getElem_of_mem hl
        obtain ⟨_, _, _, _, _, _, _, _, hr⟩ := HX.out j _ (List.getElem?_eq_getElem hj)
        exact hr x hxl
      have hby := own_bytes hown
      have R0 := Lib.hid r0
      clear hown r0 hrows hT
      have HRR := Lib.hid hr
      have HBY := Lib.hid hby
      clear hr hby
      generalize hFL : xss.flatten = fl at *
      have HFL := Lib.hid hFL
      clear hFL
      obtain ⟨q, hq⟩ : ∃ q, fl.length = q := ⟨_, rfl⟩
      rw [hq]
      have HQ := Lib.hid hq
      have hs2 : q ≤ 70368744177664 := by omega
      clear hq
      go_wp2_with fail
      refine (sum_any A1 q c1 fl wr HQ.out hs2 HBY.out HRR.out (ht.below hbl)).mono ?_
      rintro e w3 ⟨rfl, hb3⟩
      have hsz : Hid ((arrB 32 (sumL fl)).size = 32 ∧ (arrB 32 []).size = (arrB 32 (sumL fl)).size ∧ (arrB 32 (sumL fl)).all (·.oneCell') = true) :=
        Lib.hid ⟨arrB_size _ _ (by rw [sumL_len]; omega), by rw [arrB_size 32 (sumL fl) (by rw [sumL_len]; omega), arrB_size 32 [] (by simp)], arrB_one _ _⟩
      have Q0 : Hid (w3.heap[w.heap.size]? = some (.cells (arrB 32 []) 23 (0, 0))) := R0.out.below hb3 R0.out.lt
      have bl3 : Below w.heap.size w w3 := hbl.trans (hb3.mono hbl.size)
      clear hb3 R0
      generalize hE : arrB 32 (sumL fl) = cs at *
      have HE := Lib.hid hE
      clear hE
      generalize arrB 32 [] = zs at *
      go_wp2_with (first
        | ((with_reducible refine wpList_store_row (o := ⟨none, .store 23 _ _, _, _, _, _⟩) ?_ 23 (.tmp 2) (.tmp 17) ?_ w.heap.size cs ?_ ?_ 23 zs Q0.out (info26 cs hsz.out.1) hsz.out.2.1 hsz.out.2.2 ?_); (rfl); (rfl); (rfl); (rfl))
        | ((with_reducible refine bodyPost_ret (v := .agg cs) ?_ ?_ ?_); (exact results_cell_row (p := 2) (ty := 23) Tryd.results42 _ _ w.heap.size 23 cs (0, 0) _ rfl (setRow_heap _ _ zs cs 23 (0, 0) Q0.out) Tryd.underlying23 rfl (info26 cs hsz.out.1)); (rfl)))
      exact ⟨by rw [HFL.out, HE.out], below_setRow bl3 (Nat.le_refl _) _⟩
end Go.Proofs.YtmpjgfecnnefeaaDoor

namespace Go.Proofs.YtmpjgfecnnefeaaDoor
set_option maxRecDepth 8000
open Go
def InW (x : Int) : Prop := 0 ≤ x ∧ x < 4294967296
theorem InW.mod (x : Int) : InW (x % 4294967296) := ⟨by omega, by omega⟩
theorem InW.bits (op : BinOp) (x y : Int) : InW (bits op .u32 x y) := by
  unfold Go.bits
  rw [IntKind.wrap_u32]
  exact InW.mod _
end Go.Proofs.YtmpjgfecnnefeaaDoor

namespace Go.Proofs.YtmpjgfecnnefeaaDoor
set_option maxRecDepth 8000
open Go.RowKit














theorem InW.getD (l : List Int) (h : ∀ x ∈ l, InW x) (i : Nat) : InW (l.getD i 0) := by
  by_cases hi : i < l.length
  · have e : l.getD i 0 = l[i] := by simp [List.getD, List.getElem?_eq_getElem hi]
    rw [e]
    exact h _ (List.getElem_mem hi)
  · have e : l.getD i 0 = 0 := by simp [List.getD, List.getElem?_eq_none (by omega : l.length ≤ i)]
    rw [e]
    exact ⟨by omega, by omega⟩
end Go.Proofs.YtmpjgfecnnefeaaDoor

namespace Go.Proofs.YtmpjgfecnnefeaaDoor
set_option maxRecDepth 8000
open Go.RowKit














structure S8.In (s : S8) : Prop where
  a : InW s.a
  b : InW s.b
  c : InW s.c
  d : InW s.d
  e : InW s.e
  f : InW s.f
  g : InW s.g
  h : InW s.h
theorem S8.In.step {s : S8} (h : s.In) (k x : Int) : (s.step k x).In := ⟨InW.mod _, h.a, h.b, h.c, InW.mod _, h.e, h.f, h.g⟩
theorem S8.In.add (s t : S8) : (s.add t).In := ⟨InW.mod _, InW.mod _, InW.mod _, InW.mod _, InW.mod _, InW.mod _, InW.mod _, InW.mod _⟩
/-- What stays in the rounds: the words at first, the numbers, the words of the bytes. -/
structure Keep (w : World) (hcs : Array Value) (gh gk : Nat) (ws : List Int) (gw : Nat) (u : World) : Prop where
  b : Below w.heap.size w u
  h : Row u gh 27 hcs
  k : Row u gk 27 (roundNs.map u32v).toArray
  w : ∀ i, i < 64 → u.cell? ⟨gw, i, none⟩ = some (.int .u32 (ws.getD i 0))
  lw : gw < u.heap.size
theorem Keep.below {w : World} {s : Array Value} {gh gk : Nat} {ws : List Int} {gw : Nat} {u x : World} (h : Keep w s gh gk ws gw u) (hb : Below u.heap.size u x) : Keep w s gh gk ws gw x :=
  ⟨h.b.trans (hb.mono h.b.size), h.h.below hb h.h.lt, h.k.below hb h.k.lt, fun i hi => (hb.cell (p := ⟨gw, i, none⟩) h.lw).trans (h.w i hi), Nat.lt_of_lt_of_le h.lw hb.size⟩
/-- A slice of eight words that lies above a mark, in a block of its own. -/
def V8 (B : Nat) (v : Value) (st : S8) (u : World) : Prop := ∃ g cap cur, v = .slice (some ⟨g, 0, none⟩) 8 cap ∧ B ≤ g ∧ Row u g 27 cur ∧ ∀ i, i < 8 → cur[i]? = some (.int .u32 (st.get i))
end Go.Proofs.YtmpjgfecnnefeaaDoor

namespace Go.Proofs.YtmpjgfecnnefeaaDoor
set_option maxRecDepth 8000
open Go.RowKit














theorem S8.In.get {s : S8} (h : s.In) (k : Nat) (hk : k < 8) : InW (s.get k) := by
  rcases k with _ | _ | _ | _ | _ | _ | _ | _ | k
  · exact h.a
  · exact h.b
  · exact h.c
  · exact h.d
  · exact h.e
  · exact h.f
  · exact h.g
  · exact h.h
  · omega
theorem V8.below {B : Nat} {v : Value} {st : S8} {u x : World} (h : V8 B v st u) (hb : Below u.heap.size u x) : V8 B v st x := by
  obtain ⟨g, cap, cur, e, hg, hr, hc⟩ := h
  exact ⟨g, cap, cur, e, hg, hr.below hb hr.lt, hc⟩
theorem V8.mono {B B' : Nat} {v : Value} {st : S8} {u : World} (h : V8 B v st u) (hB : B' ≤ B) : V8 B' v st u := by
  obtain ⟨g, cap, cur, e, hg, hr, hc⟩ := h
  exact ⟨g, cap, cur, e, by omega, hr, hc⟩
/-- What stays while the reference sums: what bytes became, the place of the answer. -/
structure Sums (w : World) (v : Value) (m : Nat) (pp : List Int) (u : World) : Prop where
  b : Below w.heap.size w u
  z : Row u w.heap.size 23 (arrB 32 [])
  p : u.ownsRow (w.heap.size + 1) 5 1 v m (pp.map u8v)
theorem Sums.below {w : World} {v : Value} {m : Nat} {pp : List Int} {u x : World} (h : Sums w v m pp u) (hb : Below u.heap.size u x) : Sums w v m pp x :=
  ⟨h.b.trans (hb.mono h.b.size), h.z.below hb h.z.lt, own_below h.p hb⟩
end Go.Proofs.YtmpjgfecnnefeaaDoor

namespace Go.Proofs.YtmpjgfecnnefeaaDoor
set_option maxRecDepth 8000
open Go.RowKit

theorem own_of_row {w : World} {g B n : Nat} {xs : List Int} (h : Row w g 5 (arrB n xs)) (hl : xs.length = n) (hB : B ≤ g) (hn : n ≤ maxLen) : OwnB w B (.slice (some ⟨g, 0, none⟩) n n) xs := by
  subst hl
  refine ⟨by simp, .inr ⟨g, xs.length, arrB xs.length xs, rfl, hB, h, Nat.le_refl _, hn, by rw [arrB_size _ _ (Nat.le_refl _)]; omega, ?_⟩⟩
  rw [List.take_of_length_le (by rw [Array.length_toList, arrB_size _ _ (Nat.le_refl _)]; omega)]
  simp [arrB]
theorem OwnB.cap {w : World} {B n c : Nat} {A : Option Addr} {xs : List Int} (h : OwnB w B (.slice A n c) xs) : n ≤ c ∧ c ≤ maxLen := by
  rcases h.2 with ⟨e, e2⟩ | ⟨g, cap, cur, e, _, _, h1, h2, _⟩
  · injection e with e1 e3 e4
    subst e3 e4
    exact ⟨Nat.le_refl _, Nat.zero_le _⟩
  · injection e with e1 e3 e4
    subst e3 e4
    exact ⟨h1, h2⟩
theorem OwnB.row {w : World} {B : Nat} {v : Value} {xs : List Int} (h : OwnB w B v xs) (hp : 0 < xs.length) : ∃ g cap, v = .slice (some ⟨g, 0, none⟩) xs.length cap ∧ xs.length ≤ cap ∧ cap ≤ maxLen ∧ B ≤ g ∧ g < w.heap.size ∧ ∀ j, j < xs.length → w.cell? ⟨g, j, none⟩ = some (.int .u8 (xs.getD j 0)) := by
  rcases h.2 with ⟨_, e2⟩ | ⟨g, cap, cur, rfl, h1, hg, h2, h3, _⟩
  · omega
  · refine ⟨g, cap, rfl, h2, h3, h1, Row.lt (t := 5) hg, fun j hj => ?_⟩
    have := h.cells (g := g) rfl j (.int .u8 (xs.getD j 0)) (by simp [List.getD, List.getElem?_eq_getElem hj, u8v])
    rwa [Addr.add_mid, Nat.zero_add] at this
theorem OwnB.up {w : World} {B n c : Nat} {A : Option Addr} {xs : List Int} (h : OwnB w B (.slice A n c) xs) : Bytes w w.heap.size A xs := h.bytes.2
/-- the zero id's cells, as the model writes them -/
theorem zero_cells : (#[Value.int .u8 0, Value.int .u8 0, Value.int .u8 0, Value.int .u8 0, Value.int .u8 0, Value.int .u8 0, Value.int .u8 0, Value.int .u8 0, Value.int .u8 0, Value.int .u8 0, Value.int .u8 0, Value.int .u8 0, Value.int .u8 0, Value.int .u8 0, Value.int .u8 0, Value.int .u8 0, Value.int .u8 0, Value.int .u8 0, Value.int .u8 0, Value.int .u8 0, Value.int .u8 0, Value.int .u8 0, Value.int .u8 0, Value.int .u8 0, Value.int .u8 0, Value.int .u8 0, Value.int .u8 0, Value.int .u8 0, Value.int .u8 0, Value.int .u8 0, Value.int .u8 0, Value.int .u8 0] : Array Value) = arrB 32 [] := rfl
end Go.Proofs.YtmpjgfecnnefeaaDoor

namespace Go.Proofs.YtmpjgfecnnefeaaDoor
set_option maxRecDepth 8000
open Go.RowKit

/-- truths of one's own -/
def OwnF (w : World) (B : Nat) (v : Value) (l : List Bool) : Prop := w.ownsRow B 4 1 v l.length (l.map Value.bool)
theorem OwnF.nil (w : World) (B : Nat) : OwnF w B (.slice none 0 0) [] := World.ownsRow_nil _ _ _ _
end Go.Proofs.YtmpjgfecnnefeaaDoor

namespace Go.Proofs.YtmpjgfecnnefeaaDoor
set_option maxRecDepth 8000
open Go.RowKit

/-- w has grown to u, and each block of the list is as told. -/
structure EnvX (w u : World) (l : List (Nat × Obj)) : Prop where
  bel : Below w.heap.size w u
  box : ∀ g o, (g, o) ∈ l → u.heap[g]? = some o
theorem EnvX.lt {w u : World} {l : List (Nat × Obj)} (h : EnvX w u l) {g : Nat} {o : Obj} (hm : (g, o) ∈ l) : g < u.heap.size := by
  have h1 := h.box g o hm
  rcases Nat.lt_or_ge g u.heap.size with h2 | h2
  · exact h2
  · rw [Array.getElem?_eq_none h2] at h1
    cases h1
theorem EnvX.start (w : World) : EnvX w w [] := ⟨Below.refl _ _, fun _ _ h => by cases h⟩
theorem EnvX.below {w u v : World} {l : List (Nat × Obj)} (h : EnvX w u l) (hb : Below u.heap.size u v) : EnvX w v l :=
  ⟨h.bel.trans (hb.mono h.bel.size), fun g o hm => (hb.block g (h.lt hm)).trans (h.box g o hm)⟩
theorem EnvX.drew {w u : World} {l : List (Nat × Obj)} (h : EnvX w u l) : EnvX w u.drew l := ⟨h.bel.drew, h.box⟩
theorem EnvX.new {w u : World} {l : List (Nat × Obj)} (h : EnvX w u l) (o : Obj) : EnvX w (u.alloc o) ((u.heap.size, o) :: l) := by
  refine ⟨h.bel.alloc h.bel.size _, fun g o' hm => ?_⟩
  rcases List.mem_cons.1 hm with e | e
  · cases e
    exact heap_alloc_new u o
  · exact (Below.heap_alloc u o g (h.lt e)).trans (h.box g o' e)
theorem EnvX.two {w u : World} {l : List (Nat × Obj)} (h : EnvX w u l) (o o' : Obj) : EnvX w ((u.alloc o).alloc o') ((u.heap.size + 1, o') :: (u.heap.size, o) :: l) := by
  have h1 := (h.new o).new o'
  rwa [World.size_alloc] at h1
theorem EnvX.sub {w u : World} {l l' : List (Nat × Obj)} (h : EnvX w u l) (hs : ∀ x ∈ l', x ∈ l) : EnvX w u l' := ⟨h.bel, fun g o hm => h.box g o (hs _ hm)⟩
theorem EnvX.row {w u : World} {l : List (Nat × Obj)} (h : EnvX w u l) {g : Nat} {cs : Array Value} {t : TypeId} (hm : (g, Obj.cells cs t (0, 0)) ∈ l) : Row u g t cs := h.box g _ hm
/-- the class of worlds -/
def EnvC (w : World) (l : List (Nat × Obj)) (u : World) : Prop := EnvX w u l
theorem EnvC.box {w u : World} {l : List (Nat × Obj)} (h : EnvC w l u) (g : Nat) (o : Obj) (hm : (g, o) ∈ l) : u.heap[g]? = some o := EnvX.box h g o hm
theorem EnvC.call {w u : World} {l : List (Nat × Obj)} {P : Program} {f : FuncId} {args : Array Value} {v : Value} (hu : EnvC w l u)
    (h : Calls P f args u fun e w' => e = .returned v ∧ Below u.heap.size u w') : Calls P f args u fun e w' => e = .returned v ∧ EnvC w l w' :=
  h.mono fun _ _ ⟨he, hb⟩ => ⟨he, EnvX.below hu hb⟩
/-- what holds in each world of a class that has one, whatever that is, holds -/
theorem EnvC.one {w u : World} {l : List (Nat × Obj)} (h : EnvX w u l) (x y : Value) : (∀ v, EnvC w l v → x = y) ↔ x = y := ⟨fun k => k u h, fun e _ _ => e⟩

section
variable {P : Program} {C : World → Prop} {a : Act} {o : Oper} {K : Act → Prop}
end
end Go.Proofs.YtmpjgfecnnefeaaDoor
