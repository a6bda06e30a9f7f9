/- The walk of schedule: the 64 words of 64 bytes. -/
import Derived.Test.YtlccldnjgaldoaaDoorWalk1
import Derived.WalkKit
import Derived.ProofKit
import Derived.Handy
import Derived.Deep.Cut
import Derived.Deep.QuietTactic
import Derived.BigQuiet
import Derived.StillTailTactics
import Derived.Lib.Hide
namespace Go.Proofs.YtlccldnjgaldoaaDoor
open Go.RowKit

theorem info48 : (Tryd.prog.info? 48).map (·.size) = some 64 := by kernel_rfl
theorem info48a {xs : List Int} : (Tryd.prog.info? 48).map (·.size) = some (arr64 (moreL xs 48)).size := by rw [arr64_size _ (by rw [moreL_len]; omega)]; exact info48
set_option maxHeartbeats 2000000 in
theorem sched_any (b o n c : Nat) (xs : List Int) (w : World) (hn : 64 ≤ n) (hnc : n ≤ c) (hm : c ≤ 140737488355328) (hb : b < w.heap.size)
    (hx : ∀ i, i < 64 → w.cell? ⟨b, o + i, none⟩ = some (.int .u8 (xs.getD i 0))) (hr : ∀ i, 0 ≤ xs.getD i 0 ∧ xs.getD i 0 ≤ 255) :
    Calls Tryd.prog 23 #[.slice (some ⟨b, o, none⟩) n c] w fun e w' => e = .returned (.agg (arr64 (moreL xs 48))) ∧ Below w.heap.size w w' := by
  have HX := Lib.hid hx
  clear hx
  have HR := Lib.hid hr
  clear hr
  go_enter Tryd.func23, Tryd.ntmps23
  go_wp2
  go_loopw [10] (fun i u => ∃ k : Nat, k ≤ 16 ∧ i = .int .i64 k ∧ Below w.heap.size w u ∧ u.heap.size = w.heap.size + 2 ∧ Row u w.heap.size 48 (arr64 []) ∧ Row u (w.heap.size + 1) 48 (arr64 (firstL xs k))) (fun i _ => 16 - (intOf i).toNat)
  case atStart => exact ⟨0, by omega, rfl, by go_grown, by simp, (Row.new w 48 _).alloc _, Row.newAt (by simp) 48 _⟩
  case round =>
    obtain ⟨k, hk, rfl, hbl, hsz, hr0, hr1⟩ := hrel
    have HZ := Lib.hid hsz
    clear hsz
    by_cases hlt : k < 16
    · have g0 := (hbl.cell (p := ⟨b, o + 4 * k, none⟩) hb).trans (HX.out (4 * k) (by omega))
      have g1 := (hbl.cell (p := ⟨b, o + 4 * k + 1, none⟩) hb).trans (HX.out (4 * k + 1) (by omega))
      have g2 := (hbl.cell (p := ⟨b, o + 4 * k + 2, none⟩) hb).trans (HX.out (4 * k + 2) (by omega))
      have g3 := (hbl.cell (p := ⟨b, o + 4 * k + 3, none⟩) hb).trans (HX.out (4 * k + 3) (by omega))
      have G0 := Lib.hid g0
      have G1 := Lib.hid g1
      have G2 := Lib.hid g2
      have G3 := Lib.hid g3
      clear g0 g1 g2 g3
      have c1 := (hr1.cell k).trans (arr64_get _ k (by rw [firstL_len]; omega) (by omega))
      have f1 := hr1.frozen k
      have HR0 := Lib.hid hr0
      have HR1 := Lib.hid hr1
      clear hr0 hr1
      go_wp2_with fail
      refine (word_any b (o + 4 * k) _ _ _ _ _ _ G0.out G1.out G2.out G3.out (HR.out _).1 (HR.out _).2 (HR.out _).1 (HR.out _).2 (HR.out _).1 (HR.out _).2 (HR.out _).1 (HR.out _).2).mono ?_
      rintro e w' ⟨rfl, nq, rfl⟩
      go_wp2
      go_roundw
      case rel => exact ⟨k + 1, by omega, by go_num, (below_drewN hbl _).setCell (by simp) _, by simpa using HZ.out, (HR0.out.drewN _).far (by simp) _, by
          have h := (HR1.out.drewN nq).put k (.int .u32 (wordAt xs k))
          have e := arr64_put (firstL xs k) (wordAt xs k) (by rw [firstL_len]; omega)
          rw [firstL_len] at e
          rw [e] at h
          exact h⟩
      case measure => simp [intOf]; omega
    · obtain rfl : k = 16 := by omega
      have HR0 := Lib.hid hr0
      have HR1 := Lib.hid hr1
      clear hr0 hr1
      go_wp2
      go_loopw [5] (fun i u => ∃ j : Nat, j ≤ 48 ∧ i = .int .i64 (j + 16) ∧ Below w.heap.size w u ∧ u.heap.size = w.heap.size + 2 ∧ Row u w.heap.size 48 (arr64 []) ∧ Row u (w.heap.size + 1) 48 (arr64 (moreL xs j))) (fun i _ => 64 - (intOf i).toNat)
      case atStart => exact ⟨0, by omega, rfl, hbl, HZ.out, HR0.out, HR1.out⟩
      case round =>
        clear hbl HZ HR0 HR1
        obtain ⟨j, hj, rfl, hbl, hsz, hr0, hr1⟩ := hrel
        have HZ := Lib.hid hsz
        clear hsz
        have hl := moreL_len xs j
        by_cases hlt : j < 48
        · have c0 := (hr1.cell j).trans (arr64_get _ j (by omega) (by omega))
          have c1 := (hr1.cell (j + 1)).trans (arr64_get _ (j + 1) (by omega) (by omega))
          have c9 := (hr1.cell (j + 9)).trans (arr64_get _ (j + 9) (by omega) (by omega))
          have c14 := (hr1.cell (j + 14)).trans (arr64_get _ (j + 14) (by omega) (by omega))
          have c16 := (hr1.cell (j + 16)).trans (arr64_get _ (j + 16) (by omega) (by omega))
          have f16 := hr1.frozen (j + 16)
          have HL := Lib.hid hl
          have HR0 := Lib.hid hr0
          have HR1 := Lib.hid hr1
          clear hr0 hr1 hl
          go_wp2_with fail
          go_quiet (fail)
          go_wp2_with (go_at_call 28; refine (turn_any _ _ _ (by omega) (by omega)).mono ?_; rintro e w' ⟨rfl, rfl⟩)
          have s16 : IntKind.i64.wrap ((j : Int) + 16 - 16) = (j : Int) := by rw [IntWalk.i64_in _ (by omega)]; omega
          have s16' : IntKind.i64.wrap (j : Int) = (j : Int) := by rw [IntWalk.i64_in _ (by omega)]
          have s7 : IntKind.i64.wrap ((j : Int) + 16 - 7) = ((j + 9 : Nat) : Int) := by rw [IntWalk.i64_in _ (by omega)]; omega
          have q0 : j < 64 := by omega
          have q9 : j + 9 < 64 := by omega
          have q0' : (j : Int) < 64 := by omega
          have q9' : (j : Int) + 9 < 64 := by omega
          have q9'' : ((j : Int) + 9).toNat = j + 9 := by omega
          have q99 : 0 ≤ (j : Int) + 9 := by omega
          have d0 : (wr.drewN nq).cell? _ = _ := c0
          have d9 : (wr.drewN nq).cell? _ = _ := c9
          have d16 : (wr.drewN nq).cell? _ = _ := c16
          have e16 : (wr.drewN nq).frozen? _ = _ := f16
          have HR1' : Hid (Row (wr.drewN nq) (w.heap.size + 1) 48 (arr64 (moreL xs j))) := HR1
          have HR0' : Hid (Row (wr.drewN nq) w.heap.size 48 (arr64 [])) := HR0
          have hbl' := below_drewN hbl nq
          have HZ' : Hid ((wr.drewN nq).heap.size = w.heap.size + 2) := HZ
          clear c0 c1 c9 c14 c16 f16 HR1 HR0 hbl HZ
          generalize wr.drewN nq = w2 at *
          go_still_tail 14, (by kernel_rfl)
          clear s16 s16' s7 q9''
          change wpList _ _ _ _ _ w2.drew
          go_wp2
          go_roundw
          case rel =>
            repeat apply Exists.intro
            refine ⟨⟨j + 1, by omega, by go_num, hbl'.drew.setCell (by simp) _, by simpa using HZ'.out, HR0'.out.drew.far (by simp) _, by
              have h := HR1'.out.drew.put (j + 16) (.int .u32 (nextW (moreL xs j) j))
              have e := arr64_put (moreL xs j) (nextW (moreL xs j) j) (by rw [HL.out]; omega)
              rw [HL.out, Nat.add_comm] at e
              rw [e] at h
              exact h⟩, rfl⟩
          case measure => simp [intOf]; omega
        · obtain rfl : j = 48 := by omega
          have hcs : Hid ((Tryd.prog.info? 48).map (·.size) = some (arr64 (moreL xs 48)).size ∧ (arr64 []).size = (arr64 (moreL xs 48)).size ∧ (arr64 (moreL xs 48)).all (·.oneCell') = true) :=
            Lib.hid ⟨by rw [arr64_size _ (by omega)]; exact info48, by rw [arr64_size (moreL xs 48) (by omega), arr64_size [] (by simp)], arr64_one _⟩
          generalize hcsE : arr64 (moreL xs 48) = cs at *
          have HE := Lib.hid hcsE
          clear hcsE
          generalize arr64 [] = zs at *
          have R1 : Hid (wr.heap[w.heap.size + 1]? = some (.cells cs 48 (0, 0))) := hr1
          have R0 : Hid (wr.heap[w.heap.size]? = some (.cells zs 48 (0, 0))) := hr0
          clear hr0 hr1 hl
          go_upto_region 14 with fail
          refine wp_region_lit ?_
          refine wpList_load_row (o := ⟨some 67, _, _, _, _, _⟩) rfl 48 (.tmp 3) rfl (w.heap.size + 1) rfl 48 cs (0, 0) _ R1.out Tryd.underlying48 rfl hcs.out.1 ?_
          refine wpList_store_row rfl 48 (.tmp 2) (.tmp 67) rfl w.heap.size cs rfl rfl 48 zs R0.out hcs.out.1 hcs.out.2.1 hcs.out.2.2 ?_
          go_wp2_with ((with_reducible refine bodyPost_ret (v := .agg cs) ?_ ?_ ?_); (exact results_cell_row (p := 2) (ty := 48) Tryd.results23 _ _ w.heap.size 48 cs (0, 0) _ rfl (setRow_heap _ _ zs cs 48 (0, 0) R0.out) Tryd.underlying48 rfl hcs.out.1); (rfl))
          exact ⟨by rw [HE.out], below_setRow hbl (Nat.le_refl _) _⟩
end Go.Proofs.YtlccldnjgaldoaaDoor
