/- The walk of the law WideDivides. -/
import Derived.Test.YtmmhjjiighmliaaAwake
import Derived.Test.YtmmhjjiighmliaaRef4
namespace Go.Proofs.Ytmmhjjiighmliaa
open Go.RowKit

theorem divides_facts (a b : Nat) (ha : a < Big) (hb : 0 < b) : a / b < Big ∧ a % b < Big ∧ cmpI (a % b) b = -1 ∧ cmpI (a / b) a ≤ 0 := by
  have h1 := Nat.div_le_self a b
  have h2 := Nat.mod_lt a hb
  have h3 := Nat.mod_le a b
  refine ⟨by omega, by omega, ?_, ?_⟩
  · unfold cmpI; rw [if_pos h2]
  · unfold cmpI; split
    · omega
    · split <;> omega
set_option maxHeartbeats 8000000 in
set_option maxRecDepth 100000 in
theorem law_divides (a b : Nat) (w : World) (ha : a < Big) (hb : b < Big) :
    Calls Try.prog 4 #[.agg (wcs a), .agg (wcs b)] w fun e w' => e = .returned (.bool true) ∧ Below w.heap.size w w' := by
  have HA := Lib.hid ha
  have HB := Lib.hid hb
  clear ha hb
  have E0 := Lib.hid (((Env.start w).new a).new b)
  rw [World.size_alloc] at E0
  go_enter Try.func4, Try.ntmps4
  go_wp2_with fail
  generalize (w.alloc (.cells (wcs a) 24)).alloc (.cells (wcs b) 24) = w0 at *
  refine (awake_any w0).mono ?_
  rintro e w1 ⟨rfl, hb⟩
  have E1 := Lib.hid (E0.out.below hb)
  clear hb E0
  by_cases hz : b = 0
  · subst hz
    have k0 : ∀ u : World, (binOp .neq 24 (.agg (wcs 0)) (.agg (wcs 0))).run Try.prog u = .ok (.bool false) u := fun u => neq_wide 0 0 Big_pos Big_pos u
    have kz : ∀ u : World, (binOp .neq 24 (.agg (wcs 0)) (.agg #[.int .u64 0, .int .u64 0, .int .u64 0, .int .u64 0])).run Try.prog u = .ok (.bool false) u := fun u => neq_zero 0 Big_pos u
    go_wp2_with (first
    | ((with_reducible refine wpList_load_row (o := ⟨some 14, _, _, _, _, _⟩) ?_ 24 (.tmp 2) ?_ (w.heap.size) ?_ 24 (wcs (a)) (0, 0) _ (E1.out.box (w.heap.size) (a) (by simp)) Try.underlying24 ?_ (wc_info _) ?_); (rfl); (rfl); (rfl); (rfl))
    | ((with_reducible refine wpList_load_row (o := ⟨some 15, _, _, _, _, _⟩) ?_ 24 (.tmp 3) ?_ (w.heap.size + 1) ?_ 24 (wcs (0)) (0, 0) _ (E1.out.box (w.heap.size + 1) (0) (by simp)) Try.underlying24 ?_ (wc_info _) ?_); (rfl); (rfl); (rfl); (rfl)))
    refine (div_no a w1).mono ?_
    rintro e w2 ⟨rfl, hb⟩
    have E2 := Lib.hid (((E1.out.below hb).new 0).new 0)
    rw [World.size_alloc] at E2
    clear hb E1
    go_wp2_with (first
    | ((with_reducible refine wpList_store_row (o := ⟨none, .store 24 (.tmp 6) _, _, _, _, _⟩) ?_ 24 (.tmp 6) (.tmp 17) ?_ w2.heap.size (wcs (0)) ?_ ?_ 24 _ (heap_alloc2_old w2 _ _) (wc_info _) ?_ (wc_one _) ?_); (rfl); (rfl); (rfl); (rfl); (rw [wc_size]; rfl); rw [setRow_two1])
    | ((with_reducible refine wpList_store_row (o := ⟨none, .store 24 (.tmp 7) _, _, _, _, _⟩) ?_ 24 (.tmp 7) (.tmp 18) ?_ (w2.heap.size + 1) (wcs (0)) ?_ ?_ 24 _ (heap_alloc2_new w2 _ _) (wc_info _) ?_ (wc_one _) ?_); (rfl); (rfl); (rfl); (rfl); (rw [wc_size]; rfl); rw [setRow_two2])
    | ((with_reducible refine wpList_load_row (o := ⟨some 21, _, _, _, _, _⟩) ?_ 24 (.tmp 2) ?_ (w.heap.size) ?_ 24 (wcs (a)) (0, 0) _ (E2.out.box (w.heap.size) (a) (by simp)) Try.underlying24 ?_ (wc_info _) ?_); (rfl); (rfl); (rfl); (rfl))
    | ((with_reducible refine wpList_load_row (o := ⟨some 22, _, _, _, _, _⟩) ?_ 24 (.tmp 3) ?_ (w.heap.size + 1) ?_ 24 (wcs (0)) (0, 0) _ (E2.out.box (w.heap.size + 1) (0) (by simp)) Try.underlying24 ?_ (wc_info _) ?_); (rfl); (rfl); (rfl); (rfl)))
    generalize (w2.alloc (.cells (wcs 0) 24)).alloc (.cells (wcs 0) 24) = w3 at *
    generalize w2.heap.size = g2 at *
    refine (rdiv_no a w3).mono ?_
    rintro e w4 ⟨rfl, hb⟩
    have E4 := Lib.hid (((E2.out.below hb).new 0).new 0)
    rw [World.size_alloc] at E4
    clear hb E2
    go_wp2_with (first
    | ((with_reducible refine wpList_store_row (o := ⟨none, .store 24 (.tmp 9) _, _, _, _, _⟩) ?_ 24 (.tmp 9) (.tmp 24) ?_ w4.heap.size (wcs (0)) ?_ ?_ 24 _ (heap_alloc2_old w4 _ _) (wc_info _) ?_ (wc_one _) ?_); (rfl); (rfl); (rfl); (rfl); (rw [wc_size]; rfl); rw [setRow_two1])
    | ((with_reducible refine wpList_store_row (o := ⟨none, .store 24 (.tmp 10) _, _, _, _, _⟩) ?_ 24 (.tmp 10) (.tmp 25) ?_ (w4.heap.size + 1) (wcs (0)) ?_ ?_ 24 _ (heap_alloc2_new w4 _ _) (wc_info _) ?_ (wc_one _) ?_); (rfl); (rfl); (rfl); (rfl); (rw [wc_size]; rfl); rw [setRow_two2])
    | ((with_reducible refine wpList_load_guarded (o := ⟨some 30, _, _, _, _, _⟩) ?_ 24 (.tmp 6) ?_ (g2) ?_ 24 (wcs (0)) (0, 0) _ (E4.out.box (g2) (0) (by simp)) Try.underlying24 ?_ (wc_info _) ?_); (rfl); (rfl); (rfl); (rfl))
    | ((with_reducible refine wpList_load_guarded (o := ⟨some 31, _, _, _, _, _⟩) ?_ 24 (.tmp 9) ?_ (w4.heap.size) ?_ 24 (wcs (0)) (0, 0) _ (E4.out.box (w4.heap.size) (0) (by simp)) Try.underlying24 ?_ (wc_info _) ?_); (rfl); (rfl); (rfl); (rfl))
    | ((with_reducible refine wpList_load_guarded (o := ⟨some 35, _, _, _, _, _⟩) ?_ 24 (.tmp 7) ?_ (g2 + 1) ?_ 24 (wcs (0)) (0, 0) _ (E4.out.box (g2 + 1) (0) (by simp)) Try.underlying24 ?_ (wc_info _) ?_); (rfl); (rfl); (rfl); (rfl))
    | ((with_reducible refine wpList_load_guarded (o := ⟨some 36, _, _, _, _, _⟩) ?_ 24 (.tmp 10) ?_ (w4.heap.size + 1) ?_ 24 (wcs (0)) (0, 0) _ (E4.out.box (w4.heap.size + 1) (0) (by simp)) Try.underlying24 ?_ (wc_info _) ?_); (rfl); (rfl); (rfl); (rfl))
    | ((with_reducible refine wpList_load_guarded (o := ⟨some 46, _, _, _, _, _⟩) ?_ 24 (.tmp 3) ?_ (w.heap.size + 1) ?_ 24 (wcs (0)) (0, 0) _ (E4.out.box (w.heap.size + 1) (0) (by simp)) Try.underlying24 ?_ (wc_info _) ?_); (rfl); (rfl); (rfl); (rfl)))
    go_ret
    exact ⟨rfl, E4.out.bel⟩
  · have HZ : Hid (0 < b) := by show _ < _; omega
    have HF := Lib.hid (divides_facts a b HA.out HZ.out)
    have kz := neq_zero b HB.out
    rw [show (!eqN b 0) = true by simp [eqN, hz]] at kz
    clear hz
    go_wp2_with (first
    | ((with_reducible refine wpList_load_row (o := ⟨some 14, _, _, _, _, _⟩) ?_ 24 (.tmp 2) ?_ (w.heap.size) ?_ 24 (wcs (a)) (0, 0) _ (E1.out.box (w.heap.size) (a) (by simp)) Try.underlying24 ?_ (wc_info _) ?_); (rfl); (rfl); (rfl); (rfl))
    | ((with_reducible refine wpList_load_row (o := ⟨some 15, _, _, _, _, _⟩) ?_ 24 (.tmp 3) ?_ (w.heap.size + 1) ?_ 24 (wcs (b)) (0, 0) _ (E1.out.box (w.heap.size + 1) (b) (by simp)) Try.underlying24 ?_ (wc_info _) ?_); (rfl); (rfl); (rfl); (rfl)))
    refine (div_yes a b w1 HA.out HB.out HZ.out).mono ?_
    rintro e w2 ⟨rfl, hb⟩
    generalize hq : a / b = q at *
    generalize hr : a % b = r at *
    have HQ := Lib.hid hq
    have HR := Lib.hid hr
    clear hq hr
    have E2 := Lib.hid (((E1.out.below hb).new q).new r)
    rw [World.size_alloc] at E2
    clear hb E1
    go_wp2_with (first
    | ((with_reducible refine wpList_store_row (o := ⟨none, .store 24 (.tmp 6) _, _, _, _, _⟩) ?_ 24 (.tmp 6) (.tmp 17) ?_ w2.heap.size (wcs (q)) ?_ ?_ 24 _ (heap_alloc2_old w2 _ _) (wc_info _) ?_ (wc_one _) ?_); (rfl); (rfl); (rfl); (rfl); (rw [wc_size]; rfl); rw [setRow_two1])
    | ((with_reducible refine wpList_store_row (o := ⟨none, .store 24 (.tmp 7) _, _, _, _, _⟩) ?_ 24 (.tmp 7) (.tmp 18) ?_ (w2.heap.size + 1) (wcs (r)) ?_ ?_ 24 _ (heap_alloc2_new w2 _ _) (wc_info _) ?_ (wc_one _) ?_); (rfl); (rfl); (rfl); (rfl); (rw [wc_size]; rfl); rw [setRow_two2])
    | ((with_reducible refine wpList_load_row (o := ⟨some 21, _, _, _, _, _⟩) ?_ 24 (.tmp 2) ?_ (w.heap.size) ?_ 24 (wcs (a)) (0, 0) _ (E2.out.box (w.heap.size) (a) (by simp)) Try.underlying24 ?_ (wc_info _) ?_); (rfl); (rfl); (rfl); (rfl))
    | ((with_reducible refine wpList_load_row (o := ⟨some 22, _, _, _, _, _⟩) ?_ 24 (.tmp 3) ?_ (w.heap.size + 1) ?_ 24 (wcs (b)) (0, 0) _ (E2.out.box (w.heap.size + 1) (b) (by simp)) Try.underlying24 ?_ (wc_info _) ?_); (rfl); (rfl); (rfl); (rfl)))
    generalize (w2.alloc (.cells (wcs q) 24)).alloc (.cells (wcs r) 24) = w3 at *
    generalize w2.heap.size = g2 at *
    refine (rdiv_yes a b w3 HA.out HB.out HZ.out).mono ?_
    rintro e w4 ⟨rfl, hb⟩
    rw [HQ.out, HR.out]
    have E4 := Lib.hid (((E2.out.below hb).new q).new r)
    rw [World.size_alloc] at E4
    clear hb E2
    have kq : ∀ u : World, (binOp .neq 24 (.agg (wcs q)) (.agg (wcs q))).run Try.prog u = .ok (.bool false) u := fun u => by
      have h9 := neq_wide q q HF.out.1 HF.out.1 u
      rwa [show (!eqN q q) = false by simp [eqN]] at h9
    have kr : ∀ u : World, (binOp .neq 24 (.agg (wcs r)) (.agg (wcs r))).run Try.prog u = .ok (.bool false) u := fun u => by
      have h9 := neq_wide r r HF.out.2.1 HF.out.2.1 u
      rwa [show (!eqN r r) = false by simp [eqN]] at h9
    go_wp2_with (first
    | ((with_reducible refine wpList_store_row (o := ⟨none, .store 24 (.tmp 9) _, _, _, _, _⟩) ?_ 24 (.tmp 9) (.tmp 24) ?_ w4.heap.size (wcs (q)) ?_ ?_ 24 _ (heap_alloc2_old w4 _ _) (wc_info _) ?_ (wc_one _) ?_); (rfl); (rfl); (rfl); (rfl); (rw [wc_size]; rfl); rw [setRow_two1])
    | ((with_reducible refine wpList_store_row (o := ⟨none, .store 24 (.tmp 10) _, _, _, _, _⟩) ?_ 24 (.tmp 10) (.tmp 25) ?_ (w4.heap.size + 1) (wcs (r)) ?_ ?_ 24 _ (heap_alloc2_new w4 _ _) (wc_info _) ?_ (wc_one _) ?_); (rfl); (rfl); (rfl); (rfl); (rw [wc_size]; rfl); rw [setRow_two2])
    | ((with_reducible refine wpList_load_guarded (o := ⟨some 30, _, _, _, _, _⟩) ?_ 24 (.tmp 6) ?_ (g2) ?_ 24 (wcs (q)) (0, 0) _ (E4.out.box (g2) (q) (by simp)) Try.underlying24 ?_ (wc_info _) ?_); (rfl); (rfl); (rfl); (rfl))
    | ((with_reducible refine wpList_load_guarded (o := ⟨some 31, _, _, _, _, _⟩) ?_ 24 (.tmp 9) ?_ (w4.heap.size) ?_ 24 (wcs (q)) (0, 0) _ (E4.out.box (w4.heap.size) (q) (by simp)) Try.underlying24 ?_ (wc_info _) ?_); (rfl); (rfl); (rfl); (rfl))
    | ((with_reducible refine wpList_load_guarded (o := ⟨some 35, _, _, _, _, _⟩) ?_ 24 (.tmp 7) ?_ (g2 + 1) ?_ 24 (wcs (r)) (0, 0) _ (E4.out.box (g2 + 1) (r) (by simp)) Try.underlying24 ?_ (wc_info _) ?_); (rfl); (rfl); (rfl); (rfl))
    | ((with_reducible refine wpList_load_guarded (o := ⟨some 36, _, _, _, _, _⟩) ?_ 24 (.tmp 10) ?_ (w4.heap.size + 1) ?_ 24 (wcs (r)) (0, 0) _ (E4.out.box (w4.heap.size + 1) (r) (by simp)) Try.underlying24 ?_ (wc_info _) ?_); (rfl); (rfl); (rfl); (rfl))
    | ((with_reducible refine wpList_load_guarded (o := ⟨some 46, _, _, _, _, _⟩) ?_ 24 (.tmp 3) ?_ (w.heap.size + 1) ?_ 24 (wcs (b)) (0, 0) _ (E4.out.box (w.heap.size + 1) (b) (by simp)) Try.underlying24 ?_ (wc_info _) ?_); (rfl); (rfl); (rfl); (rfl))
    | ((with_reducible refine wpList_load_guarded (o := ⟨some 54, _, _, _, _, _⟩) ?_ 24 (.tmp 7) ?_ (g2 + 1) ?_ 24 (wcs (r)) (0, 0) _ (E4.out.box (g2 + 1) (r) (by simp)) Try.underlying24 ?_ (wc_info _) ?_); (rfl); (rfl); (rfl); (rfl))
    | ((with_reducible refine wpList_load_guarded (o := ⟨some 55, _, _, _, _, _⟩) ?_ 24 (.tmp 3) ?_ (w.heap.size + 1) ?_ 24 (wcs (b)) (0, 0) _ (E4.out.box (w.heap.size + 1) (b) (by simp)) Try.underlying24 ?_ (wc_info _) ?_); (rfl); (rfl); (rfl); (rfl)))
    clear kq kr kz
    generalize (w4.alloc (.cells (wcs q) 24)).alloc (.cells (wcs r) 24) = w5 at *
    refine (cmp_any r b w5 HF.out.2.1 HB.out).mono ?_
    rintro e w6 ⟨rfl, hb⟩
    rw [HF.out.2.2.1]
    have E6 := Lib.hid (E4.out.below hb)
    clear hb E4
    go_wp2_with (first
    | ((with_reducible refine wpList_load_guarded (o := ⟨some 59, _, _, _, _, _⟩) ?_ 24 (.tmp 6) ?_ (g2) ?_ 24 (wcs (q)) (0, 0) _ (E6.out.box (g2) (q) (by simp)) Try.underlying24 ?_ (wc_info _) ?_); (rfl); (rfl); (rfl); (rfl))
    | ((with_reducible refine wpList_load_guarded (o := ⟨some 60, _, _, _, _, _⟩) ?_ 24 (.tmp 2) ?_ (w.heap.size) ?_ 24 (wcs (a)) (0, 0) _ (E6.out.box (w.heap.size) (a) (by simp)) Try.underlying24 ?_ (wc_info _) ?_); (rfl); (rfl); (rfl); (rfl)))
    refine (cmp_any q a w6 HF.out.1 HA.out).mono ?_
    rintro e w7 ⟨rfl, hb⟩
    have E7 := Lib.hid (E6.out.below hb)
    have hcm := HF.out.2.2.2
    clear hb E6
    go_wp2
    go_ret
    exact ⟨rfl, E7.out.bel⟩
end Go.Proofs.Ytmmhjjiighmliaa
