/- The reference's Sub. -/
import Derived.Test.YtcombekbeljflaaEnv2
import Derived.Test.YtcombekbeljflaaRef1
import Derived.Test.YtcombekbeljflaaRef2
import Derived.Deep.RegionHeld3
import Derived.Deep.DrawnRows
namespace Go.Proofs.Ytcombekbeljflaa
open Go.RowKit
attribute [local go_sem ↓] Go.wp_at_zero Go.wp_at_succ

/-- the first k words with all bits turned round -/
def compL (b : Nat) : Nat → List Int
  | 0 => []
  | k + 1 => compL b k ++ [18446744073709551615 - (W b k : Int)]
theorem compL_len (b k : Nat) : (compL b k).length = k := by
  induction k with
  | zero => rfl
  | succ k ih => simp [compL, ih]
theorem comp_words (b : Nat) (hb : b < Big) : compL b 4 = wl (Big - 1 - b) := by
  obtain ⟨x, y, z, u, rfl, hx, hy, hz, hu⟩ := split4 b hb
  have e := wl_mk4 x y z u hx hy hz hu
  rw [wl_W] at e
  simp only [List.cons.injEq, and_true] at e
  obtain ⟨e0, e1, e2, e3⟩ := e
  simp only [compL, List.nil_append, List.cons_append, e0, e1, e2, e3]
  rw [show Big - 1 - mk4 x y z u = mk4 (18446744073709551615 - x) (18446744073709551615 - y) (18446744073709551615 - z) (18446744073709551615 - u) by unfold mk4 Big; omega]
  rw [wl_mk4 _ _ _ _ (by omega) (by omega) (by omega) (by omega)]
  simp only [List.cons.injEq, and_true]
  refine ⟨?_, ?_, ?_, ?_⟩ <;> omega
theorem sub_facts (a b : Nat) (ha : a < Big) (hb : b < Big) : Big - 1 - b < Big ∧ (((a + (Big - 1 - b)) % Big) + 1) % Big = (a + (Big - b)) % Big ∧ decide (0 ≤ cmpI a b) = decide (b ≤ a) := by
  refine ⟨by unfold Big at *; omega, by unfold Big at *; omega, ?_⟩
  rw [decide_eq_decide]; unfold cmpI; split
  · omega
  · split <;> omega
set_option maxHeartbeats 8000000 in
set_option maxRecDepth 100000 in
theorem rsub_any (a b : Nat) (w : World) (ha : a < Big) (hb : b < Big) :
    Calls Try.prog 14 #[.agg (wcs a), .agg (wcs b)] w fun e w' => e = .returned (.tuple #[.agg (wcs ((a + (Big - b)) % Big)), .bool (decide (b ≤ a))]) ∧ Below w.heap.size w w' := by
  have HA := Lib.hid ha
  have HB := Lib.hid hb
  have HF := Lib.hid (sub_facts a b ha hb)
  have HCW := Lib.hid (comp_words b hb)
  clear ha hb
  go_enter Try.func14, Try.ntmps14
  go_wp2_with fail
  go_loopw [7] (fun i u => ∃ k : Nat, k ≤ 4 ∧ i = .int .i64 k ∧ Below w.heap.size w u ∧ Hid (Row u w.heap.size 24 (wcs a) ∧ Row u (w.heap.size + 1) 24 (wcs b) ∧ Row u (w.heap.size + 1 + 1) 24 (wcs 0) ∧ Row u (w.heap.size + 1 + 1 + 1) 24 (arrW 4 (compL b k)))) (fun i _ => 4 - (intOf i).toNat)
  case atStart => exact ⟨0, by omega, rfl, by go_grown, (((Row.new w 24 _).alloc _).alloc _).alloc _, ((Row.newAt (by simp) 24 _).alloc _).alloc _, (Row.newAt (by simp) 24 _).alloc _, Row.newAt (by simp) 24 _⟩
  case round =>
    obtain ⟨k, hk, rfl, hbl, hrows⟩ := hrel
    obtain ⟨r0, r1, r2, r3⟩ := hrows.out
    by_cases hlt : k < 4
    · have e1 : wr.cell? ⟨w.heap.size + 1, k, none⟩ = some (.int .u64 (W b k)) := (r1.cell k).trans (wc_get b k hlt)
      have e3 := (r3.cell k).trans (arrW_get 4 _ k (by rw [compL_len]; omega) hlt)
      have f3 := r3.frozen k
      have R0 := Lib.hid r0
      have R1 := Lib.hid r1
      have R2 := Lib.hid r2
      have R3 := Lib.hid r3
      have hWl := W_lt b k
      have hput := Lib.hid (arrW_put_at 4 (compL b k) (18446744073709551615 - (W b k : Int)) k (compL_len _ _) hlt)
      have hL : Hid (compL b (k + 1) = compL b k ++ [18446744073709551615 - (W b k : Int)]) := rfl
      clear r0 r1 r2 r3 hrows
      have hk0 : (0 : Int) ≤ (k : Int) := by omega
      have hk4 : (k : Int) < 4 := by omega
      generalize W b k = x at *
      generalize (compL b k).getD k 0 = z at *
      have hx0 : (0 : Int) ≤ (x : Int) := by omega
      have hx1 : (x : Int) ≤ 18446744073709551615 := by omega
      have wx : IntKind.u64.wrap (18446744073709551615 - (x : Int)) = 18446744073709551615 - (x : Int) := by rw [IntKind.wrap_u64]; omega
      go_wp2
      go_roundw
      case rel =>
        refine ⟨k + 1, by omega, by go_num, hbl.setCell (by simp; omega) _, R0.out.farAt (by omega) _, R1.out.farAt (by omega) _, R2.out.farAt (by omega) _, ?_⟩
        rw [hL.out, ← hput.out]
        first
          | exact R3.out.put k _
          | (have h9 := R3.out.put k (.int .u64 (18446744073709551615 - (x : Int))); simpa [wx] using h9)
      case measure => simp [intOf]; omega
    · obtain rfl : k = 4 := by omega
      have E0 : Hid (Env w wr [(w.heap.size + 1 + 1 + 1, Big - 1 - b), (w.heap.size + 1 + 1, 0), (w.heap.size + 1, b), (w.heap.size, a)]) := by
        show Env _ _ _
        refine Env.cons (Env.cons (Env.cons (Env.cons ⟨hbl, fun _ _ h => by cases h⟩ r0) r1) r2) ?_
        rw [HCW.out] at r3
        exact r3
      clear r0 r1 r2 r3 hrows HCW hbl
      have HX : Hid ((a + (Big - 1 - b)) % Big < Big) := Nat.mod_lt _ Big_pos
      go_wp2_with (first
    | ((with_reducible refine wpList_load_row (o := ⟨some 23, _, _, _, _, _⟩) ?_ 24 (.tmp 2) ?_ (w.heap.size) ?_ 24 (wcs (a)) (0, 0) _ (E0.out.box (w.heap.size) (a) (by simp)) Try.underlying24 ?_ (wc_info _) ?_); (rfl); (rfl); (rfl); (rfl))
    | ((with_reducible refine wpList_load_row (o := ⟨some 24, _, _, _, _, _⟩) ?_ 24 (.tmp 6) ?_ (w.heap.size + 1 + 1 + 1) ?_ 24 (wcs (Big - 1 - b)) (0, 0) _ (E0.out.box (w.heap.size + 1 + 1 + 1) (Big - 1 - b) (by simp)) Try.underlying24 ?_ (wc_info _) ?_); (rfl); (rfl); (rfl); (rfl)))
      refine (radd_any a (Big - 1 - b) wr HA.out HF.out.1).mono ?_
      rintro e w2 ⟨rfl, hb⟩
      generalize hx : (a + (Big - 1 - b)) % Big = x at *
      have HXX := Lib.hid hx
      clear hx
      have E2 := Lib.hid ((E0.out.below hb).new x)
      clear hb E0
      go_upto_region 7 with (first
    | ((with_reducible refine wpList_store_row (o := ⟨none, .store 24 (.tmp 8) _, _, _, _, _⟩) ?_ 24 (.tmp 8) (.tmp 26) ?_ w2.heap.size (wcs (x)) ?_ ?_ 24 _ (heap_alloc_last w2 _) (wc_info _) ?_ (wc_one _) ?_); (rfl); (rfl); (rfl); (rfl); (rw [wc_size]; rfl); rw [World.setRow_alloc_new]))
      generalize w2.alloc (.cells (wcs x) 24) = w3 at *
      generalize w2.heap.size = g8 at *
      generalize Big - 1 - b = lb at *
      try rw [put_none]
      have EB := EnvB.start E2.out
      clear E2
      have hcs := fun u (h : EnvB w u [(g8, x), (w.heap.size + 1 + 1 + 1, lb), (w.heap.size + 1 + 1, 0), (w.heap.size + 1, b), (w.heap.size, a)] w3.heap.size) => h.cells (g := g8) (n := x) (by simp)
      have MK := Lib.hid hcs
      clear hcs
      go_cut [10] (fun s10 wx => Hid (∃ g, s10 = .pointer (some ⟨g, 0, none⟩) ∧ Row wx g 24 (wcs ((x + 1) % Big)) ∧ EnvB w wx [(g8, x), (w.heap.size + 1 + 1 + 1, lb), (w.heap.size + 1 + 1, 0), (w.heap.size + 1, b), (w.heap.size, a)] w3.heap.size ∧ w3.heap.size ≤ g))
      case first =>
        have fx := fold4 x
        go_region_held3 (fun u => u.cell? ⟨g8, 0, none⟩ = some (.int .u64 (W x 0)) ∧ u.cell? ⟨g8, 1, none⟩ = some (.int .u64 (W x 1)) ∧ u.cell? ⟨g8, 2, none⟩ = some (.int .u64 (W x 2)) ∧ u.cell? ⟨g8, 3, none⟩ = some (.int .u64 (W x 3))) ((refine MK.out _ ?_; repeat' (first | (with_reducible assumption) | (with_reducible refine EnvB.drew ?_) | (with_reducible refine EnvB.alloc ?_ _) | (with_reducible refine EnvB.set ?_ (by omega) _))))
          (first
            | (go_at_call 26; (with_reducible refine (rof_1 _).mono ?_); rintro e w' ⟨rfl, rfl⟩)
            | (go_at_call 12; rw [fold_1]; (with_reducible refine (radd_any x 1 _ HX.out (by decide)).mono ?_); rintro e w' ⟨rfl, hb⟩; have E' : EnvB w w' [(g8, x), (w.heap.size + 1 + 1 + 1, lb), (w.heap.size + 1 + 1, 0), (w.heap.size + 1, b), (w.heap.size, a)] w3.heap.size := EnvB.below (by repeat' (first | (with_reducible assumption) | (with_reducible refine EnvB.drew ?_) | (with_reducible refine EnvB.alloc ?_ _) | (with_reducible refine EnvB.set ?_ (by omega) _))) hb; have sz := hb.size; (try simp only [World.size_alloc, World.size_drew] at sz); (try (have lt0 : w3.heap.size < w'.heap.size := ?_; rotate_left; focus omega)); (try (have lt1 : w3.heap.size + 1 < w'.heap.size := ?_; rotate_left; focus omega)); (try (have y0 : Row w' (w3.heap.size) 24 #[.int .u64 0, .int .u64 0, .int .u64 0, .int .u64 0] := (by first | with_reducible exact Row.kept (Row.new w3 24 _).drew hb | with_reducible exact Row.kept (Row.new w3 24 _) hb | with_reducible exact Row.kept ((Row.new w3 24 _).alloc _).drew hb | with_reducible exact Row.kept ((Row.new w3 24 _).alloc _) hb | with_reducible exact Row.kept (((Row.new w3 24 _).alloc _).alloc _).drew hb | with_reducible exact Row.kept (((Row.new w3 24 _).alloc _).alloc _) hb); obtain ⟨m0, m1, m2, m3, n0, n1, n2, n3⟩ := row_zero y0; have Y0 := Lib.hid y0; clear y0)); (try (have y1 : Row w' (w3.heap.size + 1) 24 #[.int .u64 0, .int .u64 0, .int .u64 0, .int .u64 0] := (by first | with_reducible exact Row.kept (Row.newAt (World.size_alloc w3 _) 24 _).drew hb | with_reducible exact Row.kept (Row.newAt (World.size_alloc w3 _) 24 _) hb | with_reducible exact Row.kept ((Row.newAt (World.size_alloc w3 _) 24 _).alloc _).drew hb | with_reducible exact Row.kept ((Row.newAt (World.size_alloc w3 _) 24 _).alloc _) hb); obtain ⟨m0, m1, m2, m3, n0, n1, n2, n3⟩ := row_zero y1; have Y1 := Lib.hid y1; clear y1)); clear hb; rw [wc_cells ((x + 1) % Big)]))
        all_goals
          go_wp2_with fail
          go_meet
          refine ⟨_, rfl, ?_, ?_, ?_⟩
          · rw [wc_cells ((x + 1) % Big)]
            repeat' (first | (with_reducible exact Y0.out) | (with_reducible exact Y1.out) | (with_reducible exact Y2.out) | (with_reducible refine Row.drew ?_) | (with_reducible refine Row.put4 (a0 := .int .u64 0) (a1 := .int .u64 0) (a2 := .int .u64 0) (a3 := .int .u64 0) ?_) | ((with_reducible refine Row.farAt ?_ ?_ _); (focus skip); rotate_left; (focus omega)) | ((with_reducible refine Row.newAt ?_ 24 _); (simp only [World.size_alloc, World.size_setCell, World.size_drew]; done)) | (with_reducible refine Row.alloc ?_ _))
          · repeat' (first | (with_reducible assumption) | (with_reducible refine EnvB.drew ?_) | (with_reducible refine EnvB.alloc ?_ _) | (with_reducible refine EnvB.set ?_ (by omega) _))
          · omega
      case rest =>
        obtain ⟨g10, rfl, hrow, hEB, hge⟩ := hcut.out
        rw [HF.out.2.1] at hrow
        have hO : Hid ((a + (Big - b)) % Big < Big) := Nat.mod_lt _ Big_pos
        generalize hoo : (a + (Big - b)) % Big = o at *
        have HO := Lib.hid hoo
        clear hoo
        have hlt2 := EB.lt (w.heap.size + 1 + 1) 0 (by simp)
        have hne1 : Hid (g10 ≠ w.heap.size + 1 + 1) := by show _ ≠ _; omega
        have E4 := Lib.hid (Env.cons hEB.env hrow)
        clear hcut hrow hEB MK EB hge hlt2
        generalize wc = w4 at *
        have hdec := HF.out.2.2
        generalize hle : decide (b ≤ a) = le at *
        have HLE := Lib.hid hle
        clear hle
        have MK : Hid (∀ u : World, Env w u [(g10, o), (g8, x), (w.heap.size + 1 + 1 + 1, lb), (w.heap.size + 1 + 1, 0), (w.heap.size + 1, b), (w.heap.size, a)] → ((u.cell? ⟨g10, 0, none⟩ = some (.int .u64 (W o 0)) ∧ u.cell? ⟨g10, 1, none⟩ = some (.int .u64 (W o 1)) ∧ u.cell? ⟨g10, 2, none⟩ = some (.int .u64 (W o 2)) ∧ u.cell? ⟨g10, 3, none⟩ = some (.int .u64 (W o 3))) ∧ (u.cell? ⟨w.heap.size, 0, none⟩ = some (.int .u64 (W a 0)) ∧ u.cell? ⟨w.heap.size, 1, none⟩ = some (.int .u64 (W a 1)) ∧ u.cell? ⟨w.heap.size, 2, none⟩ = some (.int .u64 (W a 2)) ∧ u.cell? ⟨w.heap.size, 3, none⟩ = some (.int .u64 (W a 3))) ∧ u.cell? ⟨w.heap.size + 1, 0, none⟩ = some (.int .u64 (W b 0)) ∧ u.cell? ⟨w.heap.size + 1, 1, none⟩ = some (.int .u64 (W b 1)) ∧ u.cell? ⟨w.heap.size + 1, 2, none⟩ = some (.int .u64 (W b 2)) ∧ u.cell? ⟨w.heap.size + 1, 3, none⟩ = some (.int .u64 (W b 3)))) := fun u h => ⟨cells_of h (by simp), cells_of h (by simp), cells_of h (by simp)⟩
        have FAR : Hid (∀ u : World, Env w u [(g10, o), (g8, x), (w.heap.size + 1 + 1 + 1, lb), (w.heap.size + 1 + 1, 0), (w.heap.size + 1, b), (w.heap.size, a)] → ∀ v0 v1 v2 v3 : Value, ((((((u.setCell ⟨w.heap.size + 1 + 1, 0, none⟩ v0).setCell ⟨w.heap.size + 1 + 1, 1, none⟩ v1).setCell ⟨w.heap.size + 1 + 1, 2, none⟩ v2).setCell ⟨w.heap.size + 1 + 1, 3, none⟩ v3).cell? ⟨g10, 0, none⟩ = some (.int .u64 (W o 0)) ∧ ((((u.setCell ⟨w.heap.size + 1 + 1, 0, none⟩ v0).setCell ⟨w.heap.size + 1 + 1, 1, none⟩ v1).setCell ⟨w.heap.size + 1 + 1, 2, none⟩ v2).setCell ⟨w.heap.size + 1 + 1, 3, none⟩ v3).cell? ⟨g10, 1, none⟩ = some (.int .u64 (W o 1)) ∧ ((((u.setCell ⟨w.heap.size + 1 + 1, 0, none⟩ v0).setCell ⟨w.heap.size + 1 + 1, 1, none⟩ v1).setCell ⟨w.heap.size + 1 + 1, 2, none⟩ v2).setCell ⟨w.heap.size + 1 + 1, 3, none⟩ v3).cell? ⟨g10, 2, none⟩ = some (.int .u64 (W o 2)) ∧ ((((u.setCell ⟨w.heap.size + 1 + 1, 0, none⟩ v0).setCell ⟨w.heap.size + 1 + 1, 1, none⟩ v1).setCell ⟨w.heap.size + 1 + 1, 2, none⟩ v2).setCell ⟨w.heap.size + 1 + 1, 3, none⟩ v3).cell? ⟨g10, 3, none⟩ = some (.int .u64 (W o 3))) ∧ (((((u.setCell ⟨w.heap.size + 1 + 1, 0, none⟩ v0).setCell ⟨w.heap.size + 1 + 1, 1, none⟩ v1).setCell ⟨w.heap.size + 1 + 1, 2, none⟩ v2).setCell ⟨w.heap.size + 1 + 1, 3, none⟩ v3).cell? ⟨w.heap.size, 0, none⟩ = some (.int .u64 (W a 0)) ∧ ((((u.setCell ⟨w.heap.size + 1 + 1, 0, none⟩ v0).setCell ⟨w.heap.size + 1 + 1, 1, none⟩ v1).setCell ⟨w.heap.size + 1 + 1, 2, none⟩ v2).setCell ⟨w.heap.size + 1 + 1, 3, none⟩ v3).cell? ⟨w.heap.size, 1, none⟩ = some (.int .u64 (W a 1)) ∧ ((((u.setCell ⟨w.heap.size + 1 + 1, 0, none⟩ v0).setCell ⟨w.heap.size + 1 + 1, 1, none⟩ v1).setCell ⟨w.heap.size + 1 + 1, 2, none⟩ v2).setCell ⟨w.heap.size + 1 + 1, 3, none⟩ v3).cell? ⟨w.heap.size, 2, none⟩ = some (.int .u64 (W a 2)) ∧ ((((u.setCell ⟨w.heap.size + 1 + 1, 0, none⟩ v0).setCell ⟨w.heap.size + 1 + 1, 1, none⟩ v1).setCell ⟨w.heap.size + 1 + 1, 2, none⟩ v2).setCell ⟨w.heap.size + 1 + 1, 3, none⟩ v3).cell? ⟨w.heap.size, 3, none⟩ = some (.int .u64 (W a 3))) ∧ ((((u.setCell ⟨w.heap.size + 1 + 1, 0, none⟩ v0).setCell ⟨w.heap.size + 1 + 1, 1, none⟩ v1).setCell ⟨w.heap.size + 1 + 1, 2, none⟩ v2).setCell ⟨w.heap.size + 1 + 1, 3, none⟩ v3).cell? ⟨w.heap.size + 1, 0, none⟩ = some (.int .u64 (W b 0)) ∧ ((((u.setCell ⟨w.heap.size + 1 + 1, 0, none⟩ v0).setCell ⟨w.heap.size + 1 + 1, 1, none⟩ v1).setCell ⟨w.heap.size + 1 + 1, 2, none⟩ v2).setCell ⟨w.heap.size + 1 + 1, 3, none⟩ v3).cell? ⟨w.heap.size + 1, 1, none⟩ = some (.int .u64 (W b 1)) ∧ ((((u.setCell ⟨w.heap.size + 1 + 1, 0, none⟩ v0).setCell ⟨w.heap.size + 1 + 1, 1, none⟩ v1).setCell ⟨w.heap.size + 1 + 1, 2, none⟩ v2).setCell ⟨w.heap.size + 1 + 1, 3, none⟩ v3).cell? ⟨w.heap.size + 1, 2, none⟩ = some (.int .u64 (W b 2)) ∧ ((((u.setCell ⟨w.heap.size + 1 + 1, 0, none⟩ v0).setCell ⟨w.heap.size + 1 + 1, 1, none⟩ v1).setCell ⟨w.heap.size + 1 + 1, 2, none⟩ v2).setCell ⟨w.heap.size + 1 + 1, 3, none⟩ v3).cell? ⟨w.heap.size + 1, 3, none⟩ = some (.int .u64 (W b 3)))) := fun u h v0 v1 v2 v3 => ⟨cells_far h (by simp) hne1.out v0 v1 v2 v3, cells_far h (by simp) (by omega) v0 v1 v2 v3, cells_far h (by simp) (by omega) v0 v1 v2 v3⟩
        have Ex := E4.out
        have Exd := E4.out.drew
        clear E4
        have fa := fold4 a
        have fb := fold4 b
        go_upto_region 8 with fail
        go_region_held3 (fun u => (u.cell? ⟨g10, 0, none⟩ = some (.int .u64 (W o 0)) ∧ u.cell? ⟨g10, 1, none⟩ = some (.int .u64 (W o 1)) ∧ u.cell? ⟨g10, 2, none⟩ = some (.int .u64 (W o 2)) ∧ u.cell? ⟨g10, 3, none⟩ = some (.int .u64 (W o 3))) ∧ (u.cell? ⟨w.heap.size, 0, none⟩ = some (.int .u64 (W a 0)) ∧ u.cell? ⟨w.heap.size, 1, none⟩ = some (.int .u64 (W a 1)) ∧ u.cell? ⟨w.heap.size, 2, none⟩ = some (.int .u64 (W a 2)) ∧ u.cell? ⟨w.heap.size, 3, none⟩ = some (.int .u64 (W a 3))) ∧ u.cell? ⟨w.heap.size + 1, 0, none⟩ = some (.int .u64 (W b 0)) ∧ u.cell? ⟨w.heap.size + 1, 1, none⟩ = some (.int .u64 (W b 1)) ∧ u.cell? ⟨w.heap.size + 1, 2, none⟩ = some (.int .u64 (W b 2)) ∧ u.cell? ⟨w.heap.size + 1, 3, none⟩ = some (.int .u64 (W b 3))) (first | exact MK.out _ (by with_reducible assumption) | exact FAR.out _ E' _ _ _ _)
          (first
            | (go_at_call 24; (with_reducible refine (rcmp_any a b _ HA.out HB.out).mono ?_); rintro e w' ⟨rfl, hb⟩; have E' : Env w w' [(g10, o), (g8, x), (w.heap.size + 1 + 1 + 1, lb), (w.heap.size + 1 + 1, 0), (w.heap.size + 1, b), (w.heap.size, a)] := Env.below (by with_reducible assumption) hb; have y := row_of E' (g := w.heap.size + 1 + 1) (n := 0) (by simp); rw [wc_zero] at y; obtain ⟨m0, m1, m2, m3, n0, n1, n2, n3⟩ := row_zero y; have Y := Lib.hid y; clear y hb))
        have F1 := Lib.hid (Row.put4 (x0 := .int .u64 (W o 0)) (x1 := .int .u64 (W o 1)) (x2 := .int .u64 (W o 2)) (x3 := .int .u64 (W o 3)) Y.out)
        clear m0 m1 m2 m3 n0 n1 n2 n3 fa fb hdec
        go_wp2_with ((with_reducible refine bodyPost_ret (v := .tuple #[.agg #[.int .u64 (W o 0), .int .u64 (W o 1), .int .u64 (W o 2), .int .u64 (W o 3)], .bool le]) ?_ ?_ ?_); (exact results_row_slot (p := 4) (q := 5) (ty := 24) Try.results14 _ _ (w.heap.size + 1 + 1) 24 #[.int .u64 (W o 0), .int .u64 (W o 1), .int .u64 (W o 2), .int .u64 (W o 3)] (0, 0) _ rfl _ rfl F1.out Try.underlying24 rfl (infoW _ rfl)); (rfl))
        refine ⟨by rw [HO.out, HLE.out, wc_cells o], ?_⟩
        repeat (refine Below.setCell ?_ (by simp; omega) _)
        exact E'.bel
end Go.Proofs.Ytcombekbeljflaa
