/- The walks of the leaves of package sha: turn, round, wordOf, lengthBytes. -/
import Derived.Test.YtgiacilkecoenaaDoorCa
import Derived.Test.YtgiacilkecoenaaDoorProg
import Derived.WalkKit
import Derived.ProofKit
import Derived.Handy
import Derived.Deep.QuietTactic
import Derived.BigQuiet
import Derived.StillTailTactics
import Derived.Lib.Hide
import Derived.Deep.Cut
import Derived.Deep.WholeRow
import Derived.Deep.MidRow
import Derived.Laws.CopyOwn
import Derived.Laws.MakeOwn
import Derived.Test.YtgiacilkecoenaaDoorCards
import Derived.Test.YtgiacilkecoenaaDoorTie
import Derived.OpenShut
import Derived.ChangeOld
import Derived.Below
import Derived.Deep.DeepHandedRow
import Derived.Lib.LaidTab
namespace Go.Proofs.YtgiacilkecoenaaDoor
open Go.RowKit

theorem turn_any (x n : Int) (w : World) (h0 : 0 ≤ n) (h1 : n ≤ 31) :
    Calls Tryd.prog 58 #[.int .u32 x, .int .u64 n] w fun e w' => e = .returned (.int .u32 (rotI x n)) ∧ w = w' := by
  go_enter Tryd.func58, Tryd.ntmps58
  go_wp2
  go_ret
  exact ⟨rfl, rfl⟩

set_option maxHeartbeats 1000000 in
set_option maxRecDepth 100000 in
theorem round_any (s : S8) (k x : Int) (w : World) :
    Calls Tryd.prog 52 #[.agg s.cells, .int .u32 k, .int .u32 x] w fun r w' => r = .returned (.agg (s.step k x).cells) ∧ Below w.heap.size w w' := by
  obtain ⟨a, b, c, d, e, f, g, h⟩ := s
  unfold S8.cells
  go_enter Tryd.func52, Tryd.ntmps52
  go_wp2_with fail
  go_quiet (fail)
  go_wp2_with (go_at_call 58; refine (turn_any _ _ _ (by omega) (by omega)).mono ?_; rintro e w' ⟨rfl, rfl⟩)
  go_returns
  refine ⟨rfl, ?_⟩
  repeat' (first | (with_reducible exact Below.refl _ _) | (with_reducible refine below_drewN ?_ _) | (with_reducible refine Below.alloc ?_ ?_ _) | (with_reducible refine Below.setCell ?_ ?_ _) | go_size)

set_option maxHeartbeats 1000000 in
theorem word_any (b : Nat) (o : Nat) (c : Nat) (x0 x1 x2 x3 : Int) (w : World)
    (g0 : w.cell? ⟨b, o, none⟩ = some (.int .u8 x0)) (g1 : w.cell? ⟨b, o + 1, none⟩ = some (.int .u8 x1)) (g2 : w.cell? ⟨b, o + 2, none⟩ = some (.int .u8 x2)) (g3 : w.cell? ⟨b, o + 3, none⟩ = some (.int .u8 x3))
    (b00 : 0 ≤ x0) (b01 : x0 ≤ 255) (b10 : 0 ≤ x1) (b11 : x1 ≤ 255) (b20 : 0 ≤ x2) (b21 : x2 ≤ 255) (b30 : 0 ≤ x3) (b31 : x3 ≤ 255) :
    Calls Tryd.prog 57 #[.slice (some ⟨b, o, none⟩) 4 c] w fun e w' => e = .returned (.int .u32 (wordI x0 x1 x2 x3)) ∧ ∃ n, w' = w.drewN n := by
  go_enter Tryd.func57, Tryd.ntmps57
  go_wp2_with fail
  go_quiet (fail)
  go_wp2
  go_returns
  exact ⟨rfl, nq, rfl⟩

set_option maxHeartbeats 1000000 in
theorem len_any (n : Int) (w : World) (h0 : 0 ≤ n) (h1 : n ≤ 140737488355328) :
    Calls Tryd.prog 50 #[.int .i64 n] w fun e w' => e = .returned (.agg ((lenL n).map u8v).toArray) ∧ Below w.heap.size w w' := by
  go_enter Tryd.func50, Tryd.ntmps50
  go_wp2
  go_rounds 9
  go_returns
  exact ⟨rfl, by go_grown⟩
end Go.Proofs.YtgiacilkecoenaaDoor

/- The walk of schedule: the 64 words of 64 bytes. -/
namespace Go.Proofs.YtgiacilkecoenaaDoor
open Go.RowKit

theorem info48 : (Tryd.prog.info? 84).map (·.size) = some 64 := by kernel_rfl
theorem info48a {xs : List Int} : (Tryd.prog.info? 84).map (·.size) = some (arr64 (moreL xs 48)).size := by rw [arr64_size _ (by rw [moreL_len]; omega)]; exact info48
set_option maxRecDepth 20000 in
set_option maxHeartbeats 2000000 in
theorem sched_any (b o n c : Nat) (xs : List Int) (w : World) (hn : 64 ≤ n) (hnc : n ≤ c) (hm : c ≤ 140737488355328) (hb : b < w.heap.size)
    (hx : ∀ i, i < 64 → w.cell? ⟨b, o + i, none⟩ = some (.int .u8 (xs.getD i 0))) (hr : ∀ i, 0 ≤ xs.getD i 0 ∧ xs.getD i 0 ≤ 255) :
    Calls Tryd.prog 51 #[.slice (some ⟨b, o, none⟩) n c] w fun e w' => e = .returned (.agg (arr64 (moreL xs 48))) ∧ Below w.heap.size w w' := by
  have HX := Lib.hid hx
  clear hx
  have HR := Lib.hid hr
  clear hr
  go_enter Tryd.func51, Tryd.ntmps51
  go_wp2
  go_loopw [10] (fun i u => ∃ k : Nat, k ≤ 16 ∧ i = .int .i64 k ∧ Below w.heap.size w u ∧ u.heap.size = w.heap.size + 2 ∧ Row u w.heap.size 84 (arr64 []) ∧ Row u (w.heap.size + 1) 84 (arr64 (firstL xs k))) (fun i _ => 16 - (intOf i).toNat)
  case atStart => exact ⟨0, by omega, rfl, by go_grown, by simp, (Row.new w 84 _).alloc _, Row.newAt (by simp) 84 _⟩
  case round =>
    obtain ⟨k, hk, rfl, hbl, hsz, hr0, hr1⟩ := hrel
    have HZ := Lib.hid hsz
    clear hsz
    by_cases hlt : k < 16
    · have g0 := (hbl.cell (p := ⟨b, o + 4 * k, none⟩) hb).trans (HX.out (4 * k) (by omega))
      have g1 := (hbl.cell (p := ⟨b, o + 4 * k + 1, none⟩) hb).trans (HX.out (4 * k + 1) (by omega))
      have g2 := (hbl.cell (p := ⟨b, o + 4 * k + 2, none⟩) hb).trans (HX.out (4 * k + 2) (by omega))
      have g3 := (hbl.cell (p := ⟨b, o + 4 * k + 3, none⟩) hb).trans (HX.out (4 * k + 3) (by omega))
      have G0 := Lib.hid g0
      have G1 := Lib.hid g1
      have G2 := Lib.hid g2
      have G3 := Lib.hid g3
      clear g0 g1 g2 g3
      have c1 := (hr1.cell k).trans (arr64_get _ k (by rw [firstL_len]; omega) (by omega))
      have f1 := hr1.frozen k
      have HR0 := Lib.hid hr0
      have HR1 := Lib.hid hr1
      clear hr0 hr1
      go_wp2_with fail
      refine (word_any b (o + 4 * k) _ _ _ _ _ _ G0.out G1.out G2.out G3.out (HR.out _).1 (HR.out _).2 (HR.out _).1 (HR.out _).2 (HR.out _).1 (HR.out _).2 (HR.out _).1 (HR.out _).2).mono ?_
      rintro e w' ⟨rfl, nq, rfl⟩
      go_wp2
      go_roundw
      case rel => exact ⟨k + 1, by omega, by go_num, (below_drewN hbl _).setCell (by simp) _, by simpa using HZ.out, (HR0.out.drewN _).far (by simp) _, by
          have h := (HR1.out.drewN nq).put k (.int .u32 (wordAt xs k))
          have e := arr64_put (firstL xs k) (wordAt xs k) (by rw [firstL_len]; omega)
          rw [firstL_len] at e
          rw [e] at h
          exact h⟩
      case measure => simp [intOf]; omega
    · obtain rfl : k = 16 := by omega
      have HR0 := Lib.hid hr0
      have HR1 := Lib.hid hr1
      clear hr0 hr1
      go_wp2
      go_loopw [5] (fun i u => ∃ j : Nat, j ≤ 48 ∧ i = .int .i64 (j + 16) ∧ Below w.heap.size w u ∧ u.heap.size = w.heap.size + 2 ∧ Row u w.heap.size 84 (arr64 []) ∧ Row u (w.heap.size + 1) 84 (arr64 (moreL xs j))) (fun i _ => 64 - (intOf i).toNat)
      case atStart => exact ⟨0, by omega, rfl, hbl, HZ.out, HR0.out, HR1.out⟩
      case round =>
        clear hbl HZ HR0 HR1
        obtain ⟨j, hj, rfl, hbl, hsz, hr0, hr1⟩ := hrel
        have HZ := Lib.hid hsz
        clear hsz
        have hl := moreL_len xs j
        by_cases hlt : j < 48
        · have c0 := (hr1.cell j).trans (arr64_get _ j (by omega) (by omega))
          have c1 := (hr1.cell (j + 1)).trans (arr64_get _ (j + 1) (by omega) (by omega))
          have c9 := (hr1.cell (j + 9)).trans (arr64_get _ (j + 9) (by omega) (by omega))
          have c14 := (hr1.cell (j + 14)).trans (arr64_get _ (j + 14) (by omega) (by omega))
          have c16 := (hr1.cell (j + 16)).trans (arr64_get _ (j + 16) (by omega) (by omega))
          have f16 := hr1.frozen (j + 16)
          have HL := Lib.hid hl
          have HR0 := Lib.hid hr0
          have HR1 := Lib.hid hr1
          clear hr0 hr1 hl
          go_wp2_with fail
          go_quiet (fail)
          go_wp2_with (go_at_call 58; refine (turn_any _ _ _ (by omega) (by omega)).mono ?_; rintro e w' ⟨rfl, rfl⟩)
          have s16 : IntKind.i64.wrap ((j : Int) + 16 - 16) = (j : Int) := by rw [IntWalk.i64_in _ (by omega)]; omega
          have s16' : IntKind.i64.wrap (j : Int) = (j : Int) := by rw [IntWalk.i64_in _ (by omega)]
          have s7 : IntKind.i64.wrap ((j : Int) + 16 - 7) = ((j + 9 : Nat) : Int) := by rw [IntWalk.i64_in _ (by omega)]; omega
          have q0 : j < 64 := by omega
          have q9 : j + 9 < 64 := by omega
          have q0' : (j : Int) < 64 := by omega
          have q9' : (j : Int) + 9 < 64 := by omega
          have q9'' : ((j : Int) + 9).toNat = j + 9 := by omega
          have q99 : 0 ≤ (j : Int) + 9 := by omega
          have d0 : (wr.drewN nq).cell? _ = _ := c0
          have d9 : (wr.drewN nq).cell? _ = _ := c9
          have d16 : (wr.drewN nq).cell? _ = _ := c16
          have e16 : (wr.drewN nq).frozen? _ = _ := f16
          have HR1' : Hid (Row (wr.drewN nq) (w.heap.size + 1) 84 (arr64 (moreL xs j))) := HR1
          have HR0' : Hid (Row (wr.drewN nq) w.heap.size 84 (arr64 [])) := HR0
          have hbl' := below_drewN hbl nq
          have HZ' : Hid ((wr.drewN nq).heap.size = w.heap.size + 2) := HZ
          clear c0 c1 c9 c14 c16 f16 HR1 HR0 hbl HZ
          generalize wr.drewN nq = w2 at *
          go_still_tail 14, (by kernel_rfl)
          clear s16 s16' s7 q9''
          change wpList _ _ _ _ _ w2.drew
          go_wp2
          go_roundw
          case rel =>
            repeat apply Exists.intro
            refine ⟨⟨j + 1, by omega, by go_num, hbl'.drew.setCell (by simp) _, by simpa using HZ'.out, HR0'.out.drew.far (by simp) _, by
              have h := HR1'.out.drew.put (j + 16) (.int .u32 (nextW (moreL xs j) j))
              have e := arr64_put (moreL xs j) (nextW (moreL xs j) j) (by rw [HL.out]; omega)
              rw [HL.out, Nat.add_comm] at e
              rw [e] at h
              exact h⟩, rfl⟩
          case measure => simp [intOf]; omega
        · obtain rfl : j = 48 := by omega
          have hcs : Hid ((Tryd.prog.info? 84).map (·.size) = some (arr64 (moreL xs 48)).size ∧ (arr64 []).size = (arr64 (moreL xs 48)).size ∧ (arr64 (moreL xs 48)).all (·.oneCell') = true) :=
            Lib.hid ⟨by rw [arr64_size _ (by omega)]; exact info48, by rw [arr64_size (moreL xs 48) (by omega), arr64_size [] (by simp)], arr64_one _⟩
          generalize hcsE : arr64 (moreL xs 48) = cs at *
          have HE := Lib.hid hcsE
          clear hcsE
          generalize arr64 [] = zs at *
          have R1 : Hid (wr.heap[w.heap.size + 1]? = some (.cells cs 84 (0, 0))) := hr1
          have R0 : Hid (wr.heap[w.heap.size]? = some (.cells zs 84 (0, 0))) := hr0
          clear hr0 hr1 hl
          go_upto_region 14 with fail
          refine wp_region_lit ?_
          refine wpList_load_row (o := ⟨some 67, _, _, _, _, _⟩) rfl 84 (.tmp 3) rfl (w.heap.size + 1) rfl 84 cs (0, 0) _ R1.out Tryd.underlying84 rfl hcs.out.1 ?_
          refine wpList_store_row rfl 84 (.tmp 2) (.tmp 67) rfl w.heap.size cs rfl rfl 84 zs R0.out hcs.out.1 hcs.out.2.1 hcs.out.2.2 ?_
          go_wp2_with ((with_reducible refine bodyPost_ret (v := .agg cs) ?_ ?_ ?_); (exact results_cell_row (p := 2) (ty := 84) Tryd.results51 _ _ w.heap.size 84 cs (0, 0) _ rfl (setRow_heap _ _ zs cs 84 (0, 0) R0.out) Tryd.underlying84 rfl hcs.out.1); (rfl))
          exact ⟨by rw [HE.out], below_setRow hbl (Nat.le_refl _) _⟩
end Go.Proofs.YtgiacilkecoenaaDoor

/- The walk of mix: the eight words behind 64 bytes. -/
namespace Go.Proofs.YtgiacilkecoenaaDoor
open Go.RowKit


theorem info40 (s : S8) : (Tryd.prog.info? 60).map (·.size) = some s.cells.size := by rw [s.cells_size]; kernel_rfl
set_option maxRecDepth 20000 in
set_option maxHeartbeats 4000000 in
theorem mix_any (s : S8) (b o n c : Nat) (xs : List Int) (w : World) (hn : 64 ≤ n) (hnc : n ≤ c) (hm : c ≤ 140737488355328) (hb : b < w.heap.size)
    (hx : ∀ i, i < 64 → w.cell? ⟨b, o + i, none⟩ = some (.int .u8 (xs.getD i 0))) (hr : ∀ i, 0 ≤ xs.getD i 0 ∧ xs.getD i 0 ≤ 255)
    (h1 : 1 < w.heap.size) (hk : ∀ i, i < 64 → w.cell? ⟨1, i, none⟩ = some (.int .u32 (roundNs.getD i 0))) :
    Calls Tryd.prog 39 #[.agg s.cells, .slice (some ⟨b, o, none⟩) n c] w fun e w' => e = .returned (.agg (mixS s xs).cells) ∧ Below w.heap.size w w' := by
  have HX := Lib.hid hx
  clear hx
  have HR := Lib.hid hr
  clear hr
  have HK := Lib.hid hk
  clear hk
  go_enter Tryd.func39, Tryd.ntmps39
  go_wp2_with fail
  refine (sched_any b o n c xs _ hn hnc hm ?_ ?_ HR.out).mono ?_
  · simp; omega
  · intro i hi
    rw [World.cell?_alloc_lt _ _ _ (by simp; omega), World.cell?_alloc_lt _ _ _ hb]
    exact HX.out i hi
  rintro e w1 ⟨rfl, hb1⟩
  have bw : Below w.heap.size w w1 := (((Below.refl _ _).alloc (Nat.le_refl _) _).alloc (by simp) _).trans (hb1.mono (by simp; omega))
  have sz : w.heap.size + 2 ≤ w1.heap.size := by have := hb1.size; simp at this; omega
  have r0 : Hid (Row w1 w.heap.size 60 s.cells) := ((Row.new w 60 _).alloc _).below hb1 (by simp; omega)
  have r1 : Hid (Row w1 (w.heap.size + 1) 60 zero8.cells) := (Row.newAt (by simp) 60 _).below hb1 (by simp)
  clear hb1
  have hcs : Hid ((Tryd.prog.info? 84).map (·.size) = some (arr64 (moreL xs 48)).size ∧ 64 = (arr64 (moreL xs 48)).size ∧ (arr64 (moreL xs 48)).all (·.oneCell') = true ∧ ∀ i, i < 64 → (arr64 (moreL xs 48))[i]? = some (.int .u32 ((moreL xs 48).getD i 0))) :=
    Lib.hid ⟨by rw [arr64_size _ (by rw [moreL_len]; omega)]; exact info48, by rw [arr64_size (moreL xs 48) (by rw [moreL_len]; omega)], arr64_one _, fun i hi => arr64_get _ i (by rw [moreL_len]; omega) hi⟩
  generalize hcsE : arr64 (moreL xs 48) = cs at *
  clear hcsE
  have hrun : Hid (mixS s xs = s.add (runL s (moreL xs 48) 64)) := rfl
  generalize moreL xs 48 = ws at *
  have a0 : Hid ((w1.alloc (.cells cs 84)).heap[w.heap.size]? = some (.cells s.cells 60 (0, 0))) := r0.out.alloc _
  have a1 : Hid (((w1.alloc (.cells cs 84)).alloc (.cells zero8.cells 60)).heap[w1.heap.size + 1]? = some (.cells zero8.cells 60 (0, 0))) := Row.newAt (by simp) 60 _
  go_wp2_with (first
    | ((with_reducible refine wpList_store_row (o := ⟨none, .store 84 _ _, _, _, _, _⟩) ?_ 84 (.tmp 5) (.tmp 10) ?_ w1.heap.size cs ?_ ?_ 84 _ (heap_alloc_last w1 _) hcs.out.1 ?_ hcs.out.2.2.1 ?_); (rfl); (rfl); (rfl); (rfl); (exact hcs.out.2.1); rw [World.setRow_alloc_new])
    | ((with_reducible refine wpList_load_row (o := ⟨some 11, _, _, _, _, _⟩) ?_ 60 (.tmp 2) ?_ w.heap.size ?_ 60 s.cells (0, 0) _ a0.out Tryd.underlying60 ?_ (info40 s) ?_); (rfl); (rfl); (rfl); (rfl))
    | ((with_reducible refine wpList_store_row (o := ⟨none, .store 60 _ _, _, _, _, _⟩) ?_ 60 (.tmp 6) (.tmp 11) ?_ (w1.heap.size + 1) s.cells ?_ ?_ 60 zero8.cells ?_ (info40 s) ?_ s.cells_one ?_); (rfl); (rfl); (rfl); (rfl); (exact a1.out); (rfl)))
  have z8 : Hid (Row ((w1.alloc (.cells cs 84)).alloc (.cells zero8.cells 60)) (w1.heap.size + 1) 60 zero8.cells) := a1
  have zc : Hid (Row (w1.alloc (.cells cs 84)) w1.heap.size 84 cs) := Row.new w1 84 cs
  go_loopw [12] (fun i u => ∃ k : Nat, k ≤ 64 ∧ i = .int .i64 k ∧ Below w.heap.size w u ∧ Hid (Row u w.heap.size 60 s.cells ∧ Row u (w.heap.size + 1) 60 zero8.cells ∧ Row u w1.heap.size 84 cs ∧ Row u (w1.heap.size + 1) 60 (runL s ws k).cells)) (fun i _ => 64 - (intOf i).toNat)
  case atStart =>
    refine ⟨0, by omega, rfl, below_setRow ((bw.alloc (by omega) _).alloc (by simp; omega) _) (by omega) _, ?_, ?_, ?_, ?_⟩
    · exact ((r0.out.alloc _).alloc _).setRowFar (by omega)
    · exact ((r1.out.alloc _).alloc _).setRowFar (by omega)
    · exact (zc.out.alloc _).setRowFar (by omega)
    · exact z8.out.setRow
  case round =>
    clear a0 a1 z8 zc r0 r1
    obtain ⟨k, hk, rfl, hbl, hrows⟩ := hrel
    obtain ⟨r0, r1, r2, r3⟩ := hrows.out
    by_cases hlt : k < 64
    · have kk : wr.cell? ⟨1, k, none⟩ = some (.int .u32 (roundNs.getD k 0)) := (hbl.cell (p := ⟨1, k, none⟩) h1).trans (HK.out k hlt)
      have wk : wr.cell? ⟨w1.heap.size, k, none⟩ = some (.int .u32 (ws.getD k 0)) := (r2.cell k).trans (hcs.out.2.2.2 k hlt)
      have hst : Hid (runL s ws (k + 1) = (runL s ws k).step (roundNs.getD k 0) (ws.getD k 0)) := rfl
      generalize roundNs.getD k 0 = kv at *
      generalize ws.getD k 0 = wv at *
      generalize runL s ws k = st at *
      have e0 : wr.cell? ⟨w1.heap.size + 1, 0, none⟩ = some (.int .u32 st.a) := r3.cell 0
      have e1 : wr.cell? ⟨w1.heap.size + 1, 1, none⟩ = some (.int .u32 st.b) := r3.cell 1
      have e2 : wr.cell? ⟨w1.heap.size + 1, 2, none⟩ = some (.int .u32 st.c) := r3.cell 2
      have e3 : wr.cell? ⟨w1.heap.size + 1, 3, none⟩ = some (.int .u32 st.d) := r3.cell 3
      have e4 : wr.cell? ⟨w1.heap.size + 1, 4, none⟩ = some (.int .u32 st.e) := r3.cell 4
      have e5 : wr.cell? ⟨w1.heap.size + 1, 5, none⟩ = some (.int .u32 st.f) := r3.cell 5
      have e6 : wr.cell? ⟨w1.heap.size + 1, 6, none⟩ = some (.int .u32 st.g) := r3.cell 6
      have e7 : wr.cell? ⟨w1.heap.size + 1, 7, none⟩ = some (.int .u32 st.h) := r3.cell 7
      have R3 : Hid (Row wr.drew (w1.heap.size + 1) 60 st.cells) := r3
      have R2 : Hid (Row wr.drew w1.heap.size 84 cs) := r2
      have R1 : Hid (Row wr.drew (w.heap.size + 1) 60 zero8.cells) := r1
      have R0 : Hid (Row wr.drew w.heap.size 60 s.cells) := r0
      clear r0 r1 r2 r3 hrows
      have hl2 : (k : Int) < 64 := by omega
      go_wp2_with fail
      go_still_tail 7, (by kernel_rfl)
      change wpList _ _ _ _ _ wr.drew
      go_wp2_with fail
      change Calls Tryd.prog 52 #[Value.agg st.cells, Value.int IntKind.u32 kv, Value.int IntKind.u32 wv] _ _
      refine (round_any st kv wv _).mono ?_
      rintro e w3 ⟨rfl, hb3⟩
      have s3 : w1.heap.size + 2 ≤ wr.drew.heap.size := by have := R3.out.lt; omega
      have Q3 : Hid (w3.heap[w1.heap.size + 1]? = some (.cells st.cells 60 (0, 0))) := R3.out.below hb3 (by omega)
      have Q2 : Hid (Row w3 w1.heap.size 84 cs) := R2.out.below hb3 (by omega)
      have Q1 : Hid (Row w3 (w.heap.size + 1) 60 zero8.cells) := R1.out.below hb3 (by omega)
      have Q0 : Hid (Row w3 w.heap.size 60 s.cells) := R0.out.below hb3 (by omega)
      have bl3 : Below w.heap.size w w3 := hbl.drew.trans (hb3.mono (by omega))
      clear hb3 e0 e1 e2 e3 e4 e5 e6 e7 kk wk
      generalize st.step kv wv = st2 at *
      go_wp2_with ((with_reducible refine wpList_store_row (o := ⟨none, .store 60 _ _, _, _, _, _⟩) ?_ 60 (.tmp 6) (.tmp 22) ?_ (w1.heap.size + 1) st2.cells ?_ ?_ 60 st.cells Q3.out (info40 st2) ?_ st2.cells_one ?_); (rfl); (rfl); (rfl); (rfl); (rfl))
      go_roundw
      case rel =>
        refine ⟨k + 1, by omega, by go_num, below_setRow bl3 (by omega) _, Q0.out.setRowFar (by omega), Q1.out.setRowFar (by omega), Q2.out.setRowFar (by omega), ?_⟩
        rw [hst.out]
        exact Row.setRow Q3.out
      case measure => simp [intOf]; omega
    · obtain rfl : k = 64 := by omega
      generalize runL s ws 64 = tt at *
      obtain ⟨r0, r1, r2, r3⟩ := hrows.out
      have R3 : Hid (Row wr (w1.heap.size + 1) 60 tt.cells) := r3
      have R1 : Hid (Row wr (w.heap.size + 1) 60 zero8.cells) := r1
      have R0 : Hid (Row wr w.heap.size 60 s.cells) := r0
      clear r0 r1 r2 r3 hrows
      go_wp2_with fail
      go_loopw [24] (fun i u => ∃ k : Nat, k ≤ 8 ∧ i = .int .i64 k ∧ Below w.heap.size w u ∧ Hid (Row u w.heap.size 60 (s.addTo tt k).cells ∧ Row u (w.heap.size + 1) 60 zero8.cells ∧ Row u (w1.heap.size + 1) 60 tt.cells)) (fun i _ => 8 - (intOf i).toNat)
      case atStart => exact ⟨0, by omega, rfl, hbl, R0.out, R1.out, R3.out⟩
      case round =>
        clear R0 R1 R3 hbl
        obtain ⟨k, hk, rfl, hbl, hrows⟩ := hrel
        obtain ⟨r0, r1, r3⟩ := hrows.out
        by_cases hlt : k < 8
        · have e0 : wr.cell? ⟨w.heap.size, k, none⟩ = some (.int .u32 (s.get k)) := by rw [r0.cell k, S8.cells_get _ k hlt, S8.addTo_get s tt k hlt]
          have e1 : wr.cell? ⟨w1.heap.size + 1, k, none⟩ = some (.int .u32 (tt.get k)) := by rw [r3.cell k, S8.cells_get _ k hlt]
          have f0 := r0.frozen k
          have R0 : Hid (Row wr w.heap.size 60 (s.addTo tt k).cells) := r0
          have R1 : Hid (Row wr (w.heap.size + 1) 60 zero8.cells) := r1
          have R3 : Hid (Row wr (w1.heap.size + 1) 60 tt.cells) := r3
          have HP := Lib.hid (S8.addTo_put s tt k hlt)
          clear r0 r1 r3 hrows
          have hl2 : (k : Int) < 8 := by omega
          go_wp2_with fail
          go_still_tail 7, (by kernel_rfl)
          change wpList _ _ _ _ _ wr.drew
          go_wp2
          go_roundw
          case rel =>
            repeat apply Exists.intro
            refine ⟨⟨k + 1, by omega, by go_num, hbl.drew.setCell (Nat.le_refl _) _, ?_, R1.out.drew.far (by simp) _, R3.out.drew.far (by simp; omega) _⟩, rfl⟩
            rw [← HP.out]
            exact R0.out.drew.put k _
          case measure => simp [intOf]; omega
        · obtain rfl : k = 8 := by omega
          rw [S8.addTo_all] at r0
          have hfin : Hid (mixS s xs = s.add tt) := hrun
          generalize s.add tt = ss at *
          have R0 : Hid (wr.heap[w.heap.size]? = some (.cells ss.cells 60 (0, 0))) := r0
          have R1 : Hid (wr.heap[w.heap.size + 1]? = some (.cells zero8.cells 60 (0, 0))) := r1
          clear r0 r1 r3 hrows
          go_wp2_with (first
            | ((with_reducible refine wpList_load_row (o := ⟨some 36, _, _, _, _, _⟩) ?_ 60 (.tmp 2) ?_ w.heap.size ?_ 60 ss.cells (0, 0) _ R0.out Tryd.underlying60 ?_ (info40 ss) ?_); (rfl); (rfl); (rfl); (rfl))
            | ((with_reducible refine wpList_store_row (o := ⟨none, .store 60 _ _, _, _, _, _⟩) ?_ 60 (.tmp 4) (.tmp 36) ?_ (w.heap.size + 1) ss.cells ?_ ?_ 60 zero8.cells R1.out (info40 ss) ?_ ss.cells_one ?_); (rfl); (rfl); (rfl); (rfl); (rfl))
            | ((with_reducible refine bodyPost_ret (v := .agg ss.cells) ?_ ?_ ?_); (exact results_cell_row (p := 4) (ty := 60) Tryd.results39 _ _ (w.heap.size + 1) 60 ss.cells (0, 0) _ rfl (setRow_heap _ _ zero8.cells ss.cells 60 (0, 0) R1.out) Tryd.underlying60 rfl (info40 ss)); (rfl)))
          exact ⟨by rw [hfin.out], below_setRow hbl (by omega) _⟩
end Go.Proofs.YtgiacilkecoenaaDoor

/- The walk of idOf: the 32 bytes of eight words. -/
namespace Go.Proofs.YtgiacilkecoenaaDoor
open Go.RowKit



theorem info26 (cs : Array Value) (h : cs.size = 32) : (Tryd.prog.info? 29).map (·.size) = some cs.size := by rw [h]; kernel_rfl
theorem index_cells (s : S8) (k : Nat) (h : k < 8) (w : World) : (Instr.index 60 (.agg s.cells) (.int .i64 (k : Int))).run Tryd.prog w = .ok (.int .u32 (s.get k)) w := by
  rcases k with _ | _ | _ | _ | _ | _ | _ | _ | k
  all_goals first | omega | kernel_rfl
set_option maxRecDepth 20000 in
set_option maxHeartbeats 4000000 in
theorem id_any (s : S8) (w : World) :
    Calls Tryd.prog 40 #[.agg s.cells] w fun e w' => e = .returned (.agg (arrB 32 (idPre s 8))) ∧ Below w.heap.size w w' := by
  have a0 : Hid ((w.alloc (.cells s.cells 60)).heap[w.heap.size]? = some (.cells s.cells 60 (0, 0))) := heap_alloc_last w _
  have a1 : Hid ((((w.alloc (.cells s.cells 60)).alloc (.cells (arrB 32 []) 29)).alloc (.cells (arrB 32 []) 29)).heap[w.heap.size]? = some (.cells s.cells 60 (0, 0))) := ((Row.new w 60 _).alloc _).alloc _
  go_enter Tryd.func40, Tryd.ntmps40
  go_wp2_with ((with_reducible refine wpList_load_row (o := ⟨some 6, _, _, _, _, _⟩) ?_ 60 (.tmp 1) ?_ w.heap.size ?_ 60 s.cells (0, 0) _ ?_ Tryd.underlying60 ?_ (info40 s) ?_); (rfl); (rfl); (rfl); (exact a1.out); (rfl))
  go_loopw [7] (fun i u => ∃ k : Nat, k ≤ 8 ∧ i = .int .i64 k ∧ Below w.heap.size w u ∧ Hid (Row u (w.heap.size + 1) 29 (arrB 32 []) ∧ Row u (w.heap.size + 1 + 1) 29 (arrB 32 (idPre s k)))) (fun i _ => 8 - (intOf i).toNat)
  case atStart => exact ⟨0, by omega, rfl, by go_grown, (Row.newAt (by simp) 29 _).alloc _, Row.newAt (by simp) 29 _⟩
  case round =>
    clear a0 a1
    obtain ⟨k, hk, rfl, hbl, hrows⟩ := hrel
    obtain ⟨r0, r1⟩ := hrows.out
    by_cases hlt : k < 8
    · have hix := index_cells s k hlt
      have e0 := (r1.cell (4 * k)).trans (arrB_get 32 _ (4 * k) (by rw [idPre_len]; omega) (by omega))
      have e1 := (r1.cell (4 * k + 1)).trans (arrB_get 32 _ (4 * k + 1) (by rw [idPre_len]; omega) (by omega))
      have e2 := (r1.cell (4 * k + 2)).trans (arrB_get 32 _ (4 * k + 2) (by rw [idPre_len]; omega) (by omega))
      have e3 := (r1.cell (4 * k + 3)).trans (arrB_get 32 _ (4 * k + 3) (by rw [idPre_len]; omega) (by omega))
      have f0 := r1.frozen (4 * k)
      have f1 := r1.frozen (4 * k + 1)
      have f2 := r1.frozen (4 * k + 2)
      have f3 := r1.frozen (4 * k + 3)
      have R0 := Lib.hid r0
      have R1 := Lib.hid r1
      have HP := Lib.hid (idPre_put s k hlt)
      clear r0 r1 hrows
      go_wp2
      go_roundw
      case rel =>
        refine ⟨k + 1, by omega, by go_num, (((hbl.setCell (by simp; omega) _).setCell (by simp; omega) _).setCell (by simp; omega) _).setCell (by simp; omega) _, (((R0.out.far (by simp) _).far (by simp) _).far (by simp) _).far (by simp) _, ?_⟩
        rw [← HP.out]
        exact (((R1.out.put _ _).put _ _).put _ _).put _ _
      case measure => simp [intOf]; omega
    · obtain rfl : k = 8 := by omega
      have hsz : Hid ((arrB 32 (idPre s 8)).size = 32 ∧ (arrB 32 []).size = (arrB 32 (idPre s 8)).size ∧ (arrB 32 (idPre s 8)).all (·.oneCell') = true) :=
        Lib.hid ⟨arrB_size _ _ (by rw [idPre_len]; omega), by rw [arrB_size 32 (idPre s 8) (by rw [idPre_len]; omega), arrB_size 32 [] (by simp)], arrB_one _ _⟩
      generalize hE : arrB 32 (idPre s 8) = cs at *
      have HE := Lib.hid hE
      clear hE
      generalize arrB 32 [] = zs at *
      have R0 : Hid (wr.heap[w.heap.size + 1]? = some (.cells zs 29 (0, 0))) := r0
      have R1 : Hid (wr.heap[w.heap.size + 1 + 1]? = some (.cells cs 29 (0, 0))) := r1
      clear r0 r1 hrows
      go_wp2_with (first
        | ((with_reducible refine wpList_load_row (o := ⟨some 38, _, _, _, _, _⟩) ?_ 29 (.tmp 3) ?_ (w.heap.size + 1 + 1) ?_ 29 cs (0, 0) _ R1.out Tryd.underlying29 ?_ (info26 cs hsz.out.1) ?_); (rfl); (rfl); (rfl); (rfl))
        | ((with_reducible refine wpList_store_row (o := ⟨none, .store 29 _ _, _, _, _, _⟩) ?_ 29 (.tmp 2) (.tmp 38) ?_ (w.heap.size + 1) cs ?_ ?_ 29 zs R0.out (info26 cs hsz.out.1) hsz.out.2.1 hsz.out.2.2 ?_); (rfl); (rfl); (rfl); (rfl))
        | ((with_reducible refine bodyPost_ret (v := .agg cs) ?_ ?_ ?_); (exact results_cell_row (p := 2) (ty := 29) Tryd.results40 _ _ (w.heap.size + 1) 29 cs (0, 0) _ rfl (setRow_heap _ _ zs cs 29 (0, 0) R0.out) Tryd.underlying29 rfl (info26 cs hsz.out.1)); (rfl)))
      exact ⟨by rw [HE.out], below_setRow hbl (by omega) _⟩
end Go.Proofs.YtgiacilkecoenaaDoor

/- The walk of Pad: what bytes become. -/
namespace Go.Proofs.YtgiacilkecoenaaDoor
open Go.RowKit




/-- What bytes become: m bytes in all. -/
def padL (xs : List Int) (m : Nat) : List Int := xs ++ [128] ++ List.replicate (m - 9 - xs.length) 0 ++ lenL xs.length
theorem lenL_len (n : Int) : (lenL n).length = 8 := rfl
theorem padL_len (xs : List Int) (m : Nat) (h : xs.length + 9 ≤ m) : (padL xs m).length = m := by simp [padL, lenL_len]; omega
def listB (n : Nat) (l : List Int) : List Value := (l ++ List.replicate (n - l.length) 0).map u8v
theorem arrB_listB (n : Nat) (l : List Int) : arrB n l = (listB n l).toArray := rfl
theorem listB_len (n : Nat) (l : List Int) (h : l.length ≤ n) : (listB n l).length = n := by simp [listB]; omega
theorem splice_first (m : Nat) (xs : List Int) : splice (listB m []) 0 (xs.map u8v) = listB m xs := by
  simp [splice, listB, List.drop_replicate]
theorem splice_last (m : Nat) (xs : List Int) (h : xs.length + 9 ≤ m) : splice (listB m (xs ++ [128])) (m - 8) ((lenL xs.length).map u8v) = listB m (padL xs m) := by
  have e1 : m - 8 + (lenL xs.length).length = m := by rw [lenL_len]; omega
  have e2 : (listB m (xs ++ [128])).take (m - 8) = (xs ++ [128] ++ List.replicate (m - 9 - xs.length) 0).map u8v := by
    unfold listB
    rw [← List.map_take]
    congr 1
    rw [List.take_append]
    congr 1
    · exact List.take_of_length_le (by simp; omega)
    · rw [List.take_replicate]
      congr 1
      simp
      omega
  have e3 : (listB m (xs ++ [128])).drop m = [] := List.drop_eq_nil_of_le (by rw [listB_len _ _ (by simp; omega)]; omega)
  unfold splice
  rw [e2, List.length_map, e1, e3]
  simp [listB, padL, lenL_len]
  omega
theorem info36 (cs : Array Value) (h : cs.size = 8) : (Tryd.prog.info? 82).map (·.size) = some cs.size := by rw [h]; kernel_rfl
theorem info5s : (Tryd.prog.info? 5).map (·.size) = some 1 := by kernel_rfl
set_option maxRecDepth 20000 in
set_option maxHeartbeats 4000000 in
theorem pad_any (A : Option Addr) (n c : Nat) (xs : List Int) (w : World) (hl : xs.length = n) (hn : n ≤ 70368744177664) (hx : Bytes w w.heap.size A xs) :
    Calls Tryd.prog 38 #[.slice A n c] w fun e w' => e = .returned (.slice (some ⟨w.heap.size, 0, none⟩) ((n + 72) / 64 * 64) ((n + 72) / 64 * 64)) ∧ Row w' w.heap.size 5 (arrB ((n + 72) / 64 * 64) (padL xs ((n + 72) / 64 * 64))) ∧ Below w.heap.size w w' := by
  have HL := Lib.hid hl
  have HX := Lib.hid hx
  clear hl hx
  obtain ⟨m, hm'⟩ : ∃ m : Nat, (n + 72) / 64 * 64 = m := ⟨_, rfl⟩
  rw [hm']
  have hm : ((n : Int) + 1 + 8 + 64 - 1) / 64 * 64 = m := by omega
  have HM := Lib.hid hm
  have m1 : n + 9 ≤ m := by omega
  have m2 : m < n + 73 := by omega
  clear hm hm'
  go_enter Tryd.func38, Tryd.ntmps38
  go_wp2_with fail
  rw [HM.out, make_bytes m (by omega)]
  have H0 : Hid ((w.alloc (.cells (arrB m []) 5)).heap[w.heap.size]? = some (.cells (listB m []).toArray 5 (0, 0))) := Row.new w 5 (arrB m [])
  have HB : Hid (Below w.heap.size w (w.alloc (.cells (arrB m []) 5))) := Lib.hid ((Below.refl _ _).alloc (Nat.le_refl _) _)
  have HC : Hid (0 < (xs.map u8v).length → some (⟨w.heap.size, 0, none⟩ : Addr) = some ⟨w.heap.size, 0, none⟩ ∧ ∃ ad, A = some ad ∧ ∀ j v, (xs.map u8v)[j]? = some v → (w.alloc (.cells (arrB m []) 5)).cell? (ad.add j) = some v) := by
    intro hp
    obtain ⟨ad, e, _, hc⟩ := (HX.out.below HB.out) (by simpa using hp)
    exact ⟨rfl, ad, e, hc⟩
  go_wp2_with ((with_reducible refine wpList_copy_splice (o := ⟨some 20, _, _, _, _, _⟩) ?_ (.tmp 18) (.tmp 19) 23 23 ?_ 5 Tryd.underlying23 info5s _ A m m n c ?_ ?_ w.heap.size 0 (listB m []) 5 H0.out (xs.map u8v) ?_ HC.out ?_ ?_ w.heap.size w HB.out ?_ ?_); (rfl); (rfl); (rfl); (rfl); (rw [List.length_map, HL.out]; exact (Nat.min_eq_left (by omega)).symm); (rw [List.length_map, HL.out, listB_len m [] (by simp)]; omega); (intro v hv; obtain ⟨z, _, rfl⟩ := List.mem_map.1 hv; rfl); (exact Nat.le_refl _); intro w1 R1 b1; have r1 : Row w1 w.heap.size 5 (arrB m xs) := (by rw [arrB_listB, ← splice_first m xs]; exact R1.out); have c1 := (r1.cell n).trans (arrB_get m xs n (by rw [HL.out]; omega) (by omega)); have f1 := r1.frozen n; have RR := Lib.hid r1; have BB := Lib.hid b1; clear r1 R1 H0 HB HC b1)
  have r2 : Row (w1.setCell ⟨w.heap.size, n, none⟩ (.int .u8 128)) w.heap.size 5 (arrB m (xs ++ [128])) := by
    rw [← arrB_put_at m xs 128 n HL.out (by omega)]
    exact RR.out.put n _
  have b2 : Below w.heap.size w (w1.setCell ⟨w.heap.size, n, none⟩ (.int .u8 128)) := BB.out.setCell (Nat.le_refl _) _
  clear c1 f1 RR BB
  generalize w1.setCell ⟨w.heap.size, n, none⟩ (.int .u8 128) = w2 at *
  refine (len_any (n : Int) w2 (by omega) (by omega)).mono ?_
  rintro e w3 ⟨rfl, hb3⟩
  have s2 := r2.lt
  have s3 := hb3.size
  have r3 : Hid (Row w3 w.heap.size 5 (arrB m (xs ++ [128]))) := r2.below hb3 r2.lt
  have b3 : Hid (Below w.heap.size w w3) := b2.trans (hb3.mono (by omega))
  clear hb3 r2 b2
  have hls : Hid (((lenL (n : Int)).map u8v).toArray.size = 8) := rfl
  have hlo : Hid (((lenL (n : Int)).map u8v).toArray.all (·.oneCell') = true) := by
    show _ = _
    simp [lenL, u8v, Value.oneCell']
  have hlc : Hid ((lenL (n : Int)).map u8v = (lenL (xs.length : Int)).map u8v) := by rw [HL.out]; exact rfl
  generalize (lenL (n : Int)).map u8v = ll at *
  go_wp2_with (first
    | ((with_reducible refine wpList_store_row (o := ⟨none, .store 82 _ _, _, _, _, _⟩) ?_ 82 (.tmp 6) (.tmp 27) ?_ w3.heap.size ll.toArray ?_ ?_ 82 _ (heap_alloc_last w3 _) (info36 _ hls.out) ?_ hlo.out ?_); (rfl); (rfl); (rfl); (rfl); (rw [hls.out]; rfl); rw [World.setRow_alloc_new])
    | fail)
  have R4 : Hid (Row (w3.alloc (.cells ll.toArray 82)) w.heap.size 5 (arrB m (xs ++ [128]))) := r3.out.alloc _
  have R5 : Hid (Row (w3.alloc (.cells ll.toArray 82)) w3.heap.size 82 ll.toArray) := Row.new _ _ _
  have b4 : Hid (Below w.heap.size w (w3.alloc (.cells ll.toArray 82))) := Lib.hid (b3.out.alloc (by omega) _)
  clear r3 b3
  generalize w3.alloc (.cells ll.toArray 82) = w4 at *
  have s8 : IntKind.i64.wrap ((m : Int) - 8) = ((m - 8 : Nat) : Int) := by rw [IntWalk.i64_in _ (by omega)]; omega
  have s8a : m - 8 ≤ m := by omega
  have s8b : ((m - 8 : Nat) : Int) ≤ (m : Int) := by omega
  have s8c : ¬ (m = m - 8) := by omega
  have s8d : m - (m - 8) = 8 := by omega
  go_still_tail 5, (by kernel_rfl)
  clear s8 s8a s8b s8c s8d
  change wpList _ _ _ _ _ w4.drew
  refine wpList_copy_splice (o := ⟨some 33, _, _, _, _, _⟩) rfl (.tmp 31) (.tmp 32) 23 23 rfl 5 Tryd.underlying23 info5s _ _ 8 8 8 8 rfl rfl w.heap.size (m - 8) (listB m (xs ++ [128])) 5 R4.out.drew ll (by have := hls.out; simpa using this) ?_ (by rw [listB_len _ _ (by rw [List.length_append, HL.out]; simp; omega)]; have := hls.out; simp at this; omega) (by have := hlo.out; simpa using this) w.heap.size w b4.out.drew (Nat.le_refl _) ?_
  · intro _
    refine ⟨rfl, ⟨w3.heap.size, 0, none⟩, rfl, fun j v hv => ?_⟩
    rw [Addr.add_mid, Nat.zero_add, R5.out.drew.cell j]
    simpa using hv
  intro w5 R6 b5
  have R7 : Hid (Row w5 w.heap.size 5 (arrB m (padL xs m))) := by
    show Row _ _ _ _
    rw [arrB_listB, ← splice_last m xs (by rw [HL.out]; omega), ← hlc.out]
    exact R6.out
  clear R6 R4 R5
  go_wp2
  go_ret
  exact ⟨rfl, R7.out, b5⟩
end Go.Proofs.YtgiacilkecoenaaDoor

/- The walk of Sum: the sum of bytes. -/
namespace Go.Proofs.YtgiacilkecoenaaDoor
open Go.RowKit





/-- What the two tables of the package hold. -/
structure Tables (w : World) : Prop where
  words : ∀ i, i < 8 → w.cell? ⟨0, i, none⟩ = some (.int .u32 (firstW.get i))
  rounds : ∀ i, i < 64 → w.cell? ⟨1, i, none⟩ = some (.int .u32 (roundNs.getD i 0))
  there : 1 < w.heap.size
theorem Tables.below {w w' : World} (h : Tables w) (hb : Below w.heap.size w w') : Tables w' :=
  ⟨fun i hi => (hb.cell (p := ⟨0, i, none⟩) (by have := h.there; simp; omega)).trans (h.words i hi), fun i hi => (hb.cell (p := ⟨1, i, none⟩) h.there).trans (h.rounds i hi), Nat.lt_of_lt_of_le h.there hb.size⟩
theorem padL_range (xs : List Int) (m : Nat) (hn : xs.length ≤ 70368744177664) (hr : ∀ x ∈ xs, 0 ≤ x ∧ x ≤ 255) : ∀ x ∈ padL xs m, 0 ≤ x ∧ x ≤ 255 := by
  intro x hx
  simp only [padL, List.mem_append, List.mem_replicate, lenL, List.mem_cons, List.not_mem_nil, or_false] at hx
  rcases hx with ((hx | hx) | hx) | hx
  · exact hr x hx
  · omega
  · omega
  · omega
theorem getD_range (l : List Int) (h : ∀ x ∈ l, 0 ≤ x ∧ x ≤ 255) (i : Nat) : 0 ≤ l.getD i 0 ∧ l.getD i 0 ≤ 255 := by
  by_cases hi : i < l.length
  · have e : l.getD i 0 = l[i] := by simp [List.getD, List.getElem?_eq_getElem hi]
    rw [e]
    exact h _ (List.getElem_mem hi)
  · have e : l.getD i 0 = 0 := by simp [List.getD, List.getElem?_eq_none (by omega : l.length ≤ i)]
    rw [e]
    omega
def sumL (xs : List Int) : List Int := idPre (sumK (padL xs ((xs.length + 72) / 64 * 64)) ((xs.length + 72) / 64)) 8
set_option maxRecDepth 20000 in
set_option maxHeartbeats 4000000 in
theorem sum_any (A : Option Addr) (n c : Nat) (xs : List Int) (w : World) (hl : xs.length = n) (hn : n ≤ 70368744177664) (hx : Bytes w w.heap.size A xs) (hr : ∀ x ∈ xs, 0 ≤ x ∧ x ≤ 255) (ht : Tables w) :
    Calls Tryd.prog 23 #[.slice A n c] w fun e w' => e = .returned (.agg (arrB 32 (sumL xs))) ∧ Below w.heap.size w w' := by
  have HL := Lib.hid hl
  have hsum : Hid (sumL xs = idPre (sumK (padL xs ((n + 72) / 64 * 64)) ((n + 72) / 64)) 8) := by show _ = _; rw [← hl]; rfl
  have HP := Lib.hid (padL_range xs ((n + 72) / 64 * 64) (by omega) hr)
  have HQ := Lib.hid (padL_len xs ((n + 72) / 64 * 64) (by omega))
  have HB0 := Lib.hid (((Below.refl w.heap.size w).alloc (Nat.le_refl _) (.cells (arrB 32 []) 29)))
  have HX := Lib.hid (hx.below HB0.out)
  clear hx hr hl
  go_enter Tryd.func23, Tryd.ntmps23
  go_wp2_with fail
  refine (pad_any A n c xs _ HL.out hn (fun h => ?_)).mono ?_
  · obtain ⟨ad, e, hlt, hc⟩ := HX.out h
    exact ⟨ad, e, by simp; omega, hc⟩
  rintro e w1 ⟨rfl, r1, b1⟩
  rw [World.size_alloc] at r1 b1
  have q1 : (n + 72) / 64 ≤ 1099511627778 := by omega
  generalize padL xs ((n + 72) / 64 * 64) = pp at *
  generalize (n + 72) / 64 = q at *
  have bw : Below w.heap.size w w1 := HB0.out.trans (b1.mono (by omega))
  have t1 := ht.below bw
  have rz : Hid (Row w1 w.heap.size 29 (arrB 32 [])) := (Row.new w 29 _).below b1 (by omega)
  have c0 := t1.words 0 (by omega)
  have c1 := t1.words 1 (by omega)
  have c2 := t1.words 2 (by omega)
  have c3 := t1.words 3 (by omega)
  have c4 := t1.words 4 (by omega)
  have c5 := t1.words 5 (by omega)
  have c6 := t1.words 6 (by omega)
  have c7 := t1.words 7 (by omega)
  have R1 := Lib.hid r1
  clear r1 HB0 HX
  go_wp2_with fail
  clear c0 c1 c2 c3 c4 c5 c6 c7
  have s1 := R1.out.lt
  go_loopw [12] (fun i u => ∃ k : Nat, k ≤ q ∧ i = .int .i64 k ∧ Below w.heap.size w u ∧ Hid (Row u w.heap.size 29 (arrB 32 []) ∧ Row u (w.heap.size + 1) 5 (arrB (q * 64) pp) ∧ Row u w1.heap.size 60 (sumK pp k).cells)) (fun i _ => q - (intOf i).toNat)
  case atStart => exact ⟨0, by omega, rfl, bw.alloc (by omega) _, rz.out.alloc _, R1.out.alloc _, Row.new w1 60 _⟩
  case round =>
    obtain ⟨k, hk, rfl, hbl, hrows⟩ := hrel
    obtain ⟨r0, r1, r2⟩ := hrows.out
    by_cases hlt : k < q
    · have hst : Hid (sumK pp (k + 1) = mixS (sumK pp k) (pp.drop (64 * k))) := rfl
      generalize sumK pp k = st at *
      have e0 : wr.cell? ⟨w1.heap.size, 0, none⟩ = some (.int .u32 st.a) := r2.cell 0
      have e1 : wr.cell? ⟨w1.heap.size, 1, none⟩ = some (.int .u32 st.b) := r2.cell 1
      have e2 : wr.cell? ⟨w1.heap.size, 2, none⟩ = some (.int .u32 st.c) := r2.cell 2
      have e3 : wr.cell? ⟨w1.heap.size, 3, none⟩ = some (.int .u32 st.d) := r2.cell 3
      have e4 : wr.cell? ⟨w1.heap.size, 4, none⟩ = some (.int .u32 st.e) := r2.cell 4
      have e5 : wr.cell? ⟨w1.heap.size, 5, none⟩ = some (.int .u32 st.f) := r2.cell 5
      have e6 : wr.cell? ⟨w1.heap.size, 6, none⟩ = some (.int .u32 st.g) := r2.cell 6
      have e7 : wr.cell? ⟨w1.heap.size, 7, none⟩ = some (.int .u32 st.h) := r2.cell 7
      have R0 : Hid (Row wr.drew w.heap.size 29 (arrB 32 [])) := r0
      have R1' : Hid (Row wr.drew (w.heap.size + 1) 5 (arrB (q * 64) pp)) := r1
      have R2 : Hid (Row wr.drew w1.heap.size 60 st.cells) := r2
      clear r0 r1 r2 hrows
      have hl2 : (k : Int) < (q : Int) := by omega
      have a1 : IntKind.i64.wrap ((k : Int) * 64) = (k : Int) * 64 := IntWalk.i64_in _ (by omega)
      have a2 : IntKind.i64.wrap ((k : Int) + 1) = (k : Int) + 1 := IntWalk.i64_in _ (by omega)
      have a3 : IntKind.i64.wrap (((k : Int) + 1) * 64) = ((k : Int) + 1) * 64 := IntWalk.i64_in _ (by omega)
      have a4 : (((k : Int) + 1) * 64).toNat = (k + 1) * 64 := by omega
      have a5 : ((k : Int) * 64).toNat = k * 64 := by omega
      have a6 : 0 ≤ (k : Int) * 64 := by omega
      have a7 : (k : Int) * 64 ≤ ((k : Int) + 1) * 64 := by omega
      have a8 : ((k : Int) + 1) * 64 ≤ (q : Int) * 64 := by omega
      have a9 : ¬ (q * 64 = k * 64) := by omega
      have aa : (k + 1) * 64 - k * 64 = 64 := by omega
      have ab : 0 ≤ ((k : Int) + 1) * 64 := by omega
      have ac : (k : Int) + 1 ≤ (q : Int) := by omega
      have ad : (k : Int) ≤ (k : Int) + 1 := by omega
      go_wp2_with fail
      go_still_tail 8, (by kernel_rfl)
      clear a1 a2 a3 a4 a5 a6 a7 a8 a9 aa ab ac ad
      change wpList _ _ _ _ _ wr.drew
      go_wp2_with fail
      change Calls Tryd.prog 39 #[Value.agg st.cells, Value.slice (some ⟨w.heap.size + 1, k * 64, none⟩) 64 (q * 64 - k * 64)] _ _
      refine (mix_any st (w.heap.size + 1) (k * 64) 64 (q * 64 - k * 64) (pp.drop (64 * k)) _ (by omega) (by omega) (by omega) R1'.out.lt ?_ ?_ ?_ ?_).mono ?_
      · intro i hi
        rw [R1'.out.cell, arrB_get _ _ _ (by rw [HQ.out]; omega) (by omega)]
        simp [List.getD, List.getElem?_drop, Nat.mul_comm]
      · exact getD_range _ (fun x hx => HP.out x (List.mem_of_mem_drop hx))
      · exact Nat.lt_of_lt_of_le ht.there hbl.size
      · exact (ht.below hbl).rounds
      rintro e w3 ⟨rfl, hb3⟩
      have Q2 : Hid (w3.heap[w1.heap.size]? = some (.cells st.cells 60 (0, 0))) := R2.out.below hb3 R2.out.lt
      have Q1 : Hid (Row w3 (w.heap.size + 1) 5 (arrB (q * 64) pp)) := R1'.out.below hb3 R1'.out.lt
      have Q0 : Hid (Row w3 w.heap.size 29 (arrB 32 [])) := R0.out.below hb3 R0.out.lt
      have bl3 : Below w.heap.size w w3 := hbl.drew.trans (hb3.mono hbl.size)
      clear hb3 e0 e1 e2 e3 e4 e5 e6 e7
      generalize mixS st (pp.drop (64 * k)) = st2 at *
      go_wp2_with ((with_reducible refine wpList_store_row (o := ⟨none, .store 60 _ _, _, _, _, _⟩) ?_ 60 (.tmp 4) (.tmp 23) ?_ w1.heap.size st2.cells ?_ ?_ 60 st.cells Q2.out (info40 st2) ?_ st2.cells_one ?_); (rfl); (rfl); (rfl); (rfl); (rfl))
      go_roundw
      case rel =>
        refine ⟨k + 1, by omega, by go_num, below_setRow bl3 (by omega) _, Q0.out.setRowFar (by omega), Q1.out.setRowFar (by omega), ?_⟩
        rw [hst.out]
        exact Row.setRow Q2.out
      case measure => simp [intOf]; omega
    · obtain rfl : k = q := by omega
      have hfin : Hid (sumL xs = idPre (sumK pp k) 8) := hsum
      generalize sumK pp k = st at *
      have Z2 : Hid (wr.heap[w1.heap.size]? = some (.cells st.cells 60 (0, 0))) := r2
      have Z0 : Hid (Row wr w.heap.size 29 (arrB 32 [])) := r0
      clear r0 r1 r2 hrows
      go_wp2_with ((with_reducible refine wpList_load_row (o := ⟨some 25, _, _, _, _, _⟩) ?_ 60 (.tmp 4) ?_ w1.heap.size ?_ 60 st.cells (0, 0) _ Z2.out Tryd.underlying60 ?_ (info40 st) ?_); (rfl); (rfl); (rfl); (rfl))
      refine (id_any st wr).mono ?_
      rintro e w3 ⟨rfl, hb3⟩
      have hsz : Hid ((arrB 32 (idPre st 8)).size = 32 ∧ (arrB 32 []).size = (arrB 32 (idPre st 8)).size ∧ (arrB 32 (idPre st 8)).all (·.oneCell') = true) :=
        Lib.hid ⟨arrB_size _ _ (by rw [idPre_len]; omega), by rw [arrB_size 32 (idPre st 8) (by rw [idPre_len]; omega), arrB_size 32 [] (by simp)], arrB_one _ _⟩
      have Q0 : Hid (w3.heap[w.heap.size]? = some (.cells (arrB 32 []) 29 (0, 0))) := Z0.out.below hb3 Z0.out.lt
      have bl3 : Below w.heap.size w w3 := hbl.trans (hb3.mono hbl.size)
      clear hb3 Z0 Z2
      have HF : Hid (arrB 32 (sumL xs) = arrB 32 (idPre st 8)) := by show _ = _; rw [hfin.out]
      generalize arrB 32 (idPre st 8) = cs at *
      generalize arrB 32 [] = zs at *
      go_wp2_with (first
        | ((with_reducible refine wpList_store_row (o := ⟨none, .store 29 _ _, _, _, _, _⟩) ?_ 29 (.tmp 2) (.tmp 26) ?_ w.heap.size cs ?_ ?_ 29 zs Q0.out (info26 cs hsz.out.1) hsz.out.2.1 hsz.out.2.2 ?_); (rfl); (rfl); (rfl); (rfl))
        | ((with_reducible refine bodyPost_ret (v := .agg cs) ?_ ?_ ?_); (exact results_cell_row (p := 2) (ty := 29) Tryd.results23 _ _ w.heap.size 29 cs (0, 0) _ rfl (setRow_heap _ _ zs cs 29 (0, 0) Q0.out) Tryd.underlying29 rfl (info26 cs hsz.out.1)); (rfl)))
      exact ⟨by rw [HF.out], below_setRow bl3 (Nat.le_refl _) _⟩
theorem sumL_len (xs : List Int) : (sumL xs).length = 32 := by unfold sumL; rw [idPre_len]
theorem Bytes.of_row {w : World} {g : Nat} {t : TypeId} {xs : List Int} {fr : Nat × Nat} (h : w.heap[g]? = some (.cells (xs.map u8v).toArray t fr)) : Bytes w w.heap.size (some ⟨g, 0, none⟩) xs := by
  intro _
  refine ⟨_, rfl, ?_, fun j v hv => ?_⟩
  · rcases Nat.lt_or_ge g w.heap.size with hl | hl
    · exact hl
    · rw [Array.getElem?_eq_none hl] at h
      cases h
  · rw [Addr.add_mid, Nat.zero_add, cell_of_row w g j _ t fr h]
    simpa using hv
end Go.Proofs.YtgiacilkecoenaaDoor

/- What the rows of this seat share: the two tables out of what is laid, an id opened, the world of the witness. -/
namespace Go.Proofs.YtgiacilkecoenaaDoor
open Go.ChangeShapes Go.WideShapes Go.ChangeAt Go.RowKit

theorem gFirst : Tryd.prog.globalNamed "stepladder/sha.firstWords" = some 0 := by kernel_rfl
theorem gFirstType : (Tryd.prog.globals[0]?).map (·.type) = some 60 := by kernel_rfl
theorem gRound : Tryd.prog.globalNamed "stepladder/sha.roundNumbers" = some 1 := by kernel_rfl
theorem gRoundType : (Tryd.prog.globals[1]?).map (·.type) = some 84 := by kernel_rfl
theorem cells40 : Tryd.prog.cellsOf 60 = 8 := by kernel_rfl
theorem cells48 : Tryd.prog.cellsOf 84 = 64 := by kernel_rfl
theorem cells39 : Tryd.prog.cellsOf 59 = 1 := by kernel_rfl
theorem cells26 : Tryd.prog.cellsOf 29 = 32 := by kernel_rfl

def laidBoth : List (String × DataW Unit) := [("stepladder/sha.firstWords", Rows.laid_stepladder_sha_firstWords), ("stepladder/sha.roundNumbers", Rows.laid_stepladder_sha_roundNumbers)]
theorem tables_of_laid {W : World} (h : laidMetH Tryd.prog laidBoth W) : Tables W := by
  have h1 : Lib.TabIs Tryd.prog W "stepladder/sha.firstWords" .u32 [1779033703, 3144134277, 1013904242, 2773480762, 1359893119, 2600822924, 528734635, 1541459225] :=
    Lib.tabIs_of_head (rest := [("stepladder/sha.roundNumbers", Rows.laid_stepladder_sha_roundNumbers)]) gFirst gFirstType Tryd.underlying60 Tryd.underlying59 cells39 cells40 h
  have h2 : Lib.TabIs Tryd.prog W "stepladder/sha.roundNumbers" .u32 roundNs :=
    Lib.tabIs_of_head (rest := []) gRound gRoundType Tryd.underlying84 Tryd.underlying59 cells39 cells48 (h.filter (fun x => x.1 == "stepladder/sha.roundNumbers"))
  refine ⟨fun i hi => h1.cell gFirst i hi, fun i hi => h2.cell gRound i hi, ?_⟩
  have := h2.cell gRound 0 (by decide)
  rcases Nat.lt_or_ge 1 W.heap.size with hl | hl
  · exact hl
  · simp [World.cell?, Array.getElem?_eq_none hl] at this

theorem open_id {H : Type} {enc : TypeId × Value → H} {W : World} {base : Nat} {v : Value} {d : DataW H} {p : List MemPlace} (hok : Value.okWide Tryd.prog W .any base 29 v)
    (h : DataW.Trod enc Tryd.prog W 0 (fun _ => true) true 29 v d p) : ∃ xs : List Int, v = .agg (arrB 32 xs) ∧ xs.length = 32 ∧ ∀ x ∈ xs, 0 ≤ x ∧ x ≤ 255 := by
  obtain ⟨cs, rfl, hsz, _⟩ : ∃ cs, v = .agg cs ∧ cs.size = Tryd.prog.cellsOf 29 ∧ Row.okWide Tryd.prog W .any base 29 cs := by
    simpa [Value.okWide, Tryd.underlying29] using hok
  rw [cells26] at hsz
  obtain ⟨fuel, hf⟩ := h
  obtain ⟨ys, m, _, _, _, hl, hall⟩ := DataW.trod_array Tryd.underlying29 hf
  have hc : ∀ i, i < 32 → ∃ n : Int, cs[i]? = some (.int .u8 n) ∧ 0 ≤ n ∧ n ≤ 255 := by
    intro i hi
    have h1 := hall i hi
    rw [List.getElem?_eq_getElem (by omega : i < ys.length)] at h1
    obtain ⟨n, e, _, wf⟩ := DataW.trod_int Tryd.underlying5 h1
    refine ⟨n, ?_, ?_⟩
    · rw [cellsB, Nat.mul_one] at e
      have hi' : i < cs.toList.length := by simp [hsz, hi]
      simp only [Value.cells, List.drop_eq_getElem_cons hi', List.take_succ_cons, List.take_zero, List.cons.injEq, and_true] at e
      rw [Array.getElem?_eq_getElem (by omega)]
      simpa using e
    · have := bounds_u8 wf
      omega
  refine ⟨cs.toList.map intOf, ?_, by simp [hsz], ?_⟩
  · congr 1
    apply arrB_ext
    · simp [hsz]
    · exact hsz
    · intro i hi
      obtain ⟨n, e, _⟩ := hc i hi
      have e' : cs.toList[i]? = some (.int .u8 n) := by simpa using e
      simp [e, List.getD, List.getElem?_map, e', intOf]
  · intro x hx
    obtain ⟨u, hu, rfl⟩ := List.mem_map.1 hx
    obtain ⟨i, hi, rfl⟩ := List.getElem_of_mem hu
    obtain ⟨n, e, hn⟩ := hc i (by simp at hi; omega)
    have e' : cs.toList[i]? = some (.int .u8 n) := by simpa using e
    rw [List.getElem?_eq_getElem hi] at e'
    rw [Option.some.inj e']
    exact hn

/-- The id of zeros, as a value and as it reads. -/
def zeroId : Value := .agg (arrB 32 [])
def zeroD {H : Type} : DataW H := .agg (List.replicate 32 (.lit (.int .u8 0)))
/-- The same block with other cells. -/
def withCells (cs : Array Value) : Obj → Obj
  | .cells _ t frozen => .cells cs t frozen
  | o => o
/-- A WORLD FOR THE WITNESS: the settled one, the two tables holding what their initialisers lay. -/
noncomputable def laidWorld (os : Os) : World :=
  { World.holding Tryd.prog os ⟨#[], #[], []⟩ with heap := ((World.holding Tryd.prog os ⟨#[], #[], []⟩).heap.modify 0 (withCells firstW.cells)).modify 1 (withCells (roundNs.map u32v).toArray) }
end Go.Proofs.YtgiacilkecoenaaDoor
