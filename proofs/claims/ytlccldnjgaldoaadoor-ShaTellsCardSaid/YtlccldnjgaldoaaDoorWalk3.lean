/- The walk of mix: the eight words behind 64 bytes. -/
import Derived.Test.YtlccldnjgaldoaaDoorWalk2
import Derived.WalkKit
import Derived.ProofKit
import Derived.Handy
import Derived.Deep.WholeRow
import Derived.Deep.Cut
import Derived.Deep.QuietTactic
import Derived.BigQuiet
import Derived.StillTailTactics
import Derived.Lib.Hide
namespace Go.Proofs.YtlccldnjgaldoaaDoor
open Go.RowKit


theorem info40 (s : S8) : (Tryd.prog.info? 40).map (·.size) = some s.cells.size := by rw [s.cells_size]; kernel_rfl
set_option maxHeartbeats 4000000 in
theorem mix_any (s : S8) (b o n c : Nat) (xs : List Int) (w : World) (hn : 64 ≤ n) (hnc : n ≤ c) (hm : c ≤ 140737488355328) (hb : b < w.heap.size)
    (hx : ∀ i, i < 64 → w.cell? ⟨b, o + i, none⟩ = some (.int .u8 (xs.getD i 0))) (hr : ∀ i, 0 ≤ xs.getD i 0 ∧ xs.getD i 0 ≤ 255)
    (h1 : 1 < w.heap.size) (hk : ∀ i, i < 64 → w.cell? ⟨1, i, none⟩ = some (.int .u32 (roundNs.getD i 0))) :
    Calls Tryd.prog 18 #[.agg s.cells, .slice (some ⟨b, o, none⟩) n c] w fun e w' => e = .returned (.agg (mixS s xs).cells) ∧ Below w.heap.size w w' := by
  have HX := Lib.hid hx
  clear hx
  have HR := Lib.hid hr
  clear hr
  have HK := Lib.hid hk
  clear hk
  go_enter Tryd.func18, Tryd.ntmps18
  go_wp2_with fail
  refine (sched_any b o n c xs _ hn hnc hm ?_ ?_ HR.out).mono ?_
  · simp; omega
  · intro i hi
    rw [World.cell?_alloc_lt _ _ _ (by simp; omega), World.cell?_alloc_lt _ _ _ hb]
    exact HX.out i hi
  rintro e w1 ⟨rfl, hb1⟩
  have bw : Below w.heap.size w w1 := (((Below.refl _ _).alloc (Nat.le_refl _) _).alloc (by simp) _).trans (hb1.mono (by simp; omega))
  have sz : w.heap.size + 2 ≤ w1.heap.size := by have := hb1.size; simp at this; omega
  have r0 : Hid (Row w1 w.heap.size 40 s.cells) := ((Row.new w 40 _).alloc _).below hb1 (by simp; omega)
  have r1 : Hid (Row w1 (w.heap.size + 1) 40 zero8.cells) := (Row.newAt (by simp) 40 _).below hb1 (by simp)
  clear hb1
  have hcs : Hid ((Tryd.prog.info? 48).map (·.size) = some (arr64 (moreL xs 48)).size ∧ 64 = (arr64 (moreL xs 48)).size ∧ (arr64 (moreL xs 48)).all (·.oneCell') = true ∧ ∀ i, i < 64 → (arr64 (moreL xs 48))[i]? = some (.int .u32 ((moreL xs 48).getD i 0))) :=
    Lib.hid ⟨by rw [arr64_size _ (by rw [moreL_len]; omega)]; exact info48, by rw [arr64_size (moreL xs 48) (by rw [moreL_len]; omega)], arr64_one _, fun i hi => arr64_get _ i (by rw [moreL_len]; omega) hi⟩
  generalize hcsE : arr64 (moreL xs 48) = cs at *
  clear hcsE
  have hrun : Hid (mixS s xs = s.add (runL s (moreL xs 48) 64)) := rfl
  generalize moreL xs 48 = ws at *
  have a0 : Hid ((w1.alloc (.cells cs 48)).heap[w.heap.size]? = some (.cells s.cells 40 (0, 0))) := r0.out.alloc _
  have a1 : Hid (((w1.alloc (.cells cs 48)).alloc (.cells zero8.cells 40)).heap[w1.heap.size + 1]? = some (.cells zero8.cells 40 (0, 0))) := Row.newAt (by simp) 40 _
  go_wp2_with (first
    | ((with_reducible refine wpList_store_row (o := ⟨none, .store 48 _ _, _, _, _, _⟩) ?_ 48 (.tmp 5) (.tmp 10) ?_ w1.heap.size cs ?_ ?_ 48 _ (heap_alloc_last w1 _) hcs.out.1 ?_ hcs.out.2.2.1 ?_); (rfl); (rfl); (rfl); (rfl); (exact hcs.out.2.1); rw [World.setRow_alloc_new])
    | ((with_reducible refine wpList_load_row (o := ⟨some 11, _, _, _, _, _⟩) ?_ 40 (.tmp 2) ?_ w.heap.size ?_ 40 s.cells (0, 0) _ a0.out Tryd.underlying40 ?_ (info40 s) ?_); (rfl); (rfl); (rfl); (rfl))
    | ((with_reducible refine wpList_store_row (o := ⟨none, .store 40 _ _, _, _, _, _⟩) ?_ 40 (.tmp 6) (.tmp 11) ?_ (w1.heap.size + 1) s.cells ?_ ?_ 40 zero8.cells ?_ (info40 s) ?_ s.cells_one ?_); (rfl); (rfl); (rfl); (rfl); (exact a1.out); (rfl)))
  have z8 : Hid (Row ((w1.alloc (.cells cs 48)).alloc (.cells zero8.cells 40)) (w1.heap.size + 1) 40 zero8.cells) := a1
  have zc : Hid (Row (w1.alloc (.cells cs 48)) w1.heap.size 48 cs) := Row.new w1 48 cs
  go_loopw [12] (fun i u => ∃ k : Nat, k ≤ 64 ∧ i = .int .i64 k ∧ Below w.heap.size w u ∧ Hid (Row u w.heap.size 40 s.cells ∧ Row u (w.heap.size + 1) 40 zero8.cells ∧ Row u w1.heap.size 48 cs ∧ Row u (w1.heap.size + 1) 40 (runL s ws k).cells)) (fun i _ => 64 - (intOf i).toNat)
  case atStart =>
    refine ⟨0, by omega, rfl, below_setRow ((bw.alloc (by omega) _).alloc (by simp; omega) _) (by omega) _, ?_, ?_, ?_, ?_⟩
    · exact ((r0.out.alloc _).alloc _).setRowFar (by omega)
    · exact ((r1.out.alloc _).alloc _).setRowFar (by omega)
    · exact (zc.out.alloc _).setRowFar (by omega)
    · exact z8.out.setRow
  case round =>
    clear a0 a1 z8 zc r0 r1
    obtain ⟨k, hk, rfl, hbl, hrows⟩ := hrel
    obtain ⟨r0, r1, r2, r3⟩ := hrows.out
    by_cases hlt : k < 64
    · have kk : wr.cell? ⟨1, k, none⟩ = some (.int .u32 (roundNs.getD k 0)) := (hbl.cell (p := ⟨1, k, none⟩) h1).trans (HK.out k hlt)
      have wk : wr.cell? ⟨w1.heap.size, k, none⟩ = some (.int .u32 (ws.getD k 0)) := (r2.cell k).trans (hcs.out.2.2.2 k hlt)
      have hst : Hid (runL s ws (k + 1) = (runL s ws k).step (roundNs.getD k 0) (ws.getD k 0)) := rfl
      generalize roundNs.getD k 0 = kv at *
      generalize ws.getD k 0 = wv at *
      generalize runL s ws k = st at *
      have e0 : wr.cell? ⟨w1.heap.size + 1, 0, none⟩ = some (.int .u32 st.a) := r3.cell 0
      have e1 : wr.cell? ⟨w1.heap.size + 1, 1, none⟩ = some (.int .u32 st.b) := r3.cell 1
      have e2 : wr.cell? ⟨w1.heap.size + 1, 2, none⟩ = some (.int .u32 st.c) := r3.cell 2
      have e3 : wr.cell? ⟨w1.heap.size + 1, 3, none⟩ = some (.int .u32 st.d) := r3.cell 3
      have e4 : wr.cell? ⟨w1.heap.size + 1, 4, none⟩ = some (.int .u32 st.e) := r3.cell 4
      have e5 : wr.cell? ⟨w1.heap.size + 1, 5, none⟩ = some (.int .u32 st.f) := r3.cell 5
      have e6 : wr.cell? ⟨w1.heap.size + 1, 6, none⟩ = some (.int .u32 st.g) := r3.cell 6
      have e7 : wr.cell? ⟨w1.heap.size + 1, 7, none⟩ = some (.int .u32 st.h) := r3.cell 7
      have R3 : Hid (Row wr.drew (w1.heap.size + 1) 40 st.cells) := r3
      have R2 : Hid (Row wr.drew w1.heap.size 48 cs) := r2
      have R1 : Hid (Row wr.drew (w.heap.size + 1) 40 zero8.cells) := r1
      have R0 : Hid (Row wr.drew w.heap.size 40 s.cells) := r0
      clear r0 r1 r2 r3 hrows
      have hl2 : (k : Int) < 64 := by omega
      go_wp2_with fail
      go_still_tail 7, (by kernel_rfl)
      change wpList _ _ _ _ _ wr.drew
      go_wp2_with fail
      change Calls Tryd.prog 24 #[Value.agg st.cells, Value.int IntKind.u32 kv, Value.int IntKind.u32 wv] _ _
      refine (round_any st kv wv _).mono ?_
      rintro e w3 ⟨rfl, hb3⟩
      have s3 : w1.heap.size + 2 ≤ wr.drew.heap.size := by have := R3.out.lt; omega
      have Q3 : Hid (w3.heap[w1.heap.size + 1]? = some (.cells st.cells 40 (0, 0))) := R3.out.below hb3 (by omega)
      have Q2 : Hid (Row w3 w1.heap.size 48 cs) := R2.out.below hb3 (by omega)
      have Q1 : Hid (Row w3 (w.heap.size + 1) 40 zero8.cells) := R1.out.below hb3 (by omega)
      have Q0 : Hid (Row w3 w.heap.size 40 s.cells) := R0.out.below hb3 (by omega)
      have bl3 : Below w.heap.size w w3 := hbl.drew.trans (hb3.mono (by omega))
      clear hb3 e0 e1 e2 e3 e4 e5 e6 e7 kk wk
      generalize st.step kv wv = st2 at *
      go_wp2_with ((with_reducible refine wpList_store_row (o := ⟨none, .store 40 _ _, _, _, _, _⟩) ?_ 40 (.tmp 6) (.tmp 22) ?_ (w1.heap.size + 1) st2.cells ?_ ?_ 40 st.cells Q3.out (info40 st2) ?_ st2.cells_one ?_); (rfl); (rfl); (rfl); (rfl); (rfl))
      go_roundw
      case rel =>
        refine ⟨k + 1, by omega, by go_num, below_setRow bl3 (by omega) _, Q0.out.setRowFar (by omega), Q1.out.setRowFar (by omega), Q2.out.setRowFar (by omega), ?_⟩
        rw [hst.out]
        exact Row.setRow Q3.out
      case measure => simp [intOf]; omega
    · obtain rfl : k = 64 := by omega
      generalize runL s ws 64 = tt at *
      obtain ⟨r0, r1, r2, r3⟩ := hrows.out
      have R3 : Hid (Row wr (w1.heap.size + 1) 40 tt.cells) := r3
      have R1 : Hid (Row wr (w.heap.size + 1) 40 zero8.cells) := r1
      have R0 : Hid (Row wr w.heap.size 40 s.cells) := r0
      clear r0 r1 r2 r3 hrows
      go_wp2_with fail
      go_loopw [24] (fun i u => ∃ k : Nat, k ≤ 8 ∧ i = .int .i64 k ∧ Below w.heap.size w u ∧ Hid (Row u w.heap.size 40 (s.addTo tt k).cells ∧ Row u (w.heap.size + 1) 40 zero8.cells ∧ Row u (w1.heap.size + 1) 40 tt.cells)) (fun i _ => 8 - (intOf i).toNat)
      case atStart => exact ⟨0, by omega, rfl, hbl, R0.out, R1.out, R3.out⟩
      case round =>
        clear R0 R1 R3 hbl
        obtain ⟨k, hk, rfl, hbl, hrows⟩ := hrel
        obtain ⟨r0, r1, r3⟩ := hrows.out
        by_cases hlt : k < 8
        · have e0 : wr.cell? ⟨w.heap.size, k, none⟩ = some (.int .u32 (s.get k)) := by rw [r0.cell k, S8.cells_get _ k hlt, S8.addTo_get s tt k hlt]
          have e1 : wr.cell? ⟨w1.heap.size + 1, k, none⟩ = some (.int .u32 (tt.get k)) := by rw [r3.cell k, S8.cells_get _ k hlt]
          have f0 := r0.frozen k
          have R0 : Hid (Row wr w.heap.size 40 (s.addTo tt k).cells) := r0
          have R1 : Hid (Row wr (w.heap.size + 1) 40 zero8.cells) := r1
          have R3 : Hid (Row wr (w1.heap.size + 1) 40 tt.cells) := r3
          have HP := Lib.hid (S8.addTo_put s tt k hlt)
          clear r0 r1 r3 hrows
          have hl2 : (k : Int) < 8 := by omega
          go_wp2_with fail
          go_still_tail 7, (by kernel_rfl)
          change wpList _ _ _ _ _ wr.drew
          go_wp2
          go_roundw
          case rel =>
            repeat apply Exists.intro
            refine ⟨⟨k + 1, by omega, by go_num, hbl.drew.setCell (Nat.le_refl _) _, ?_, R1.out.drew.far (by simp) _, R3.out.drew.far (by simp; omega) _⟩, rfl⟩
            rw [← HP.out]
            exact R0.out.drew.put k _
          case measure => simp [intOf]; omega
        · obtain rfl : k = 8 := by omega
          rw [S8.addTo_all] at r0
          have hfin : Hid (mixS s xs = s.add tt) := hrun
          generalize s.add tt = ss at *
          have R0 : Hid (wr.heap[w.heap.size]? = some (.cells ss.cells 40 (0, 0))) := r0
          have R1 : Hid (wr.heap[w.heap.size + 1]? = some (.cells zero8.cells 40 (0, 0))) := r1
          clear r0 r1 r3 hrows
          go_wp2_with (first
            | ((with_reducible refine wpList_load_row (o := ⟨some 36, _, _, _, _, _⟩) ?_ 40 (.tmp 2) ?_ w.heap.size ?_ 40 ss.cells (0, 0) _ R0.out Tryd.underlying40 ?_ (info40 ss) ?_); (rfl); (rfl); (rfl); (rfl))
            | ((with_reducible refine wpList_store_row (o := ⟨none, .store 40 _ _, _, _, _, _⟩) ?_ 40 (.tmp 4) (.tmp 36) ?_ (w.heap.size + 1) ss.cells ?_ ?_ 40 zero8.cells R1.out (info40 ss) ?_ ss.cells_one ?_); (rfl); (rfl); (rfl); (rfl); (rfl))
            | ((with_reducible refine bodyPost_ret (v := .agg ss.cells) ?_ ?_ ?_); (exact results_cell_row (p := 4) (ty := 40) Tryd.results18 _ _ (w.heap.size + 1) 40 ss.cells (0, 0) _ rfl (setRow_heap _ _ zero8.cells ss.cells 40 (0, 0) R1.out) Tryd.underlying40 rfl (info40 ss)); (rfl)))
          exact ⟨by rw [hfin.out], below_setRow hbl (by omega) _⟩
end Go.Proofs.YtlccldnjgaldoaaDoor
