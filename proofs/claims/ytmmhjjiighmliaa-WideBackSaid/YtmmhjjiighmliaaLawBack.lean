/- The walk of the law WideBack. -/
import Derived.Test.YtmmhjjiighmliaaAwake
namespace Go.Proofs.Ytmmhjjiighmliaa
open Go.RowKit

theorem back_facts (a b : Nat) (ha : a < Big) (hb : b < Big) :
    ((a + b) % Big + (Big - b)) % Big = a ∧ (b + a) % Big = (a + b) % Big ∧ decide (b + a < Big) = decide (a + b < Big) ∧ ((a + (Big - b)) % Big + b) % Big = a ∧
    decide ((a + (Big - b)) % Big + b < Big) = decide (b ≤ a) ∧ decide (0 ≤ cmpI a b) = decide (b ≤ a) ∧ decide (0 ≤ cmpI ((a + b) % Big) a) = decide (a + b < Big) := by
  refine ⟨?_, by rw [Nat.add_comm], by rw [Nat.add_comm], ?_, ?_, ?_, ?_⟩
  · unfold Big at *; omega
  · unfold Big at *; omega
  · rw [decide_eq_decide]; unfold Big at *; omega
  · rw [decide_eq_decide]; unfold cmpI; split
    · omega
    · split <;> omega
  · rw [decide_eq_decide]; unfold cmpI Big at *; split
    · omega
    · split <;> omega
set_option maxHeartbeats 8000000 in
set_option maxRecDepth 100000 in
theorem law_back (a b : Nat) (w : World) (ha : a < Big) (hb : b < Big) :
    Calls Try.prog 5 #[.agg (wcs a), .agg (wcs b)] w fun e w' => e = .returned (.bool true) ∧ Below w.heap.size w w' := by
  have HA := Lib.hid ha
  have HB := Lib.hid hb
  have HF := Lib.hid (back_facts a b ha hb)
  clear ha hb
  have E0 := Lib.hid (((Env.start w).new a).new b)
  rw [World.size_alloc] at E0
  go_enter Try.func5, Try.ntmps5
  go_wp2_with fail
  generalize (w.alloc (.cells (wcs a) 24)).alloc (.cells (wcs b) 24) = w0 at *
  refine (awake_any w0).mono ?_
  rintro e w1 ⟨rfl, hb⟩
  have E1 := Lib.hid (E0.out.below hb)
  clear hb E0
  go_wp2_with (first
    | ((with_reducible refine wpList_load_row (o := ⟨some 18, _, _, _, _, _⟩) ?_ 24 (.tmp 2) ?_ (w.heap.size) ?_ 24 (wcs (a)) (0, 0) _ (E1.out.box (w.heap.size) (a) (by simp)) Try.underlying24 ?_ (wc_info _) ?_); (rfl); (rfl); (rfl); (rfl))
    | ((with_reducible refine wpList_load_row (o := ⟨some 19, _, _, _, _, _⟩) ?_ 24 (.tmp 3) ?_ (w.heap.size + 1) ?_ 24 (wcs (b)) (0, 0) _ (E1.out.box (w.heap.size + 1) (b) (by simp)) Try.underlying24 ?_ (wc_info _) ?_); (rfl); (rfl); (rfl); (rfl)))
  refine (add_any a b w1 HA.out HB.out).mono ?_
  rintro e w2 ⟨rfl, hb⟩
  have HS : Hid ((a + b) % Big < Big) := Nat.mod_lt _ Big_pos
  have HD : Hid ((a + (Big - b)) % Big < Big) := Nat.mod_lt _ Big_pos
  generalize hs : (a + b) % Big = s at *
  generalize hd : (a + (Big - b)) % Big = d at *
  generalize hall : decide (a + b < Big) = all at *
  generalize hle : decide (b ≤ a) = le at *
  have HSS := Lib.hid hs
  have HDD := Lib.hid hd
  have HALL := Lib.hid hall
  have HLE := Lib.hid hle
  clear hs hd hall hle
  have E2 := Lib.hid ((E1.out.below hb).new s)
  clear hb E1
  go_wp2_with (first
    | ((with_reducible refine wpList_store_row (o := ⟨none, .store 24 (.tmp 6) _, _, _, _, _⟩) ?_ 24 (.tmp 6) (.tmp 21) ?_ w2.heap.size (wcs (s)) ?_ ?_ 24 _ (heap_alloc_last w2 _) (wc_info _) ?_ (wc_one _) ?_); (rfl); (rfl); (rfl); (rfl); (rw [wc_size]; rfl); rw [World.setRow_alloc_new])
    | ((with_reducible refine wpList_load_row (o := ⟨some 24, _, _, _, _, _⟩) ?_ 24 (.tmp 6) ?_ (w2.heap.size) ?_ 24 (wcs (s)) (0, 0) _ (E2.out.box (w2.heap.size) (s) (by simp)) Try.underlying24 ?_ (wc_info _) ?_); (rfl); (rfl); (rfl); (rfl))
    | ((with_reducible refine wpList_load_row (o := ⟨some 25, _, _, _, _, _⟩) ?_ 24 (.tmp 3) ?_ (w.heap.size + 1) ?_ 24 (wcs (b)) (0, 0) _ (E2.out.box (w.heap.size + 1) (b) (by simp)) Try.underlying24 ?_ (wc_info _) ?_); (rfl); (rfl); (rfl); (rfl)))
  generalize w2.alloc (.cells (wcs s) 24) = w3 at *
  refine (sub_any s b w3 HS.out HB.out).mono ?_
  rintro e w4 ⟨rfl, hb⟩
  rw [HF.out.1]
  have E4 := Lib.hid ((E2.out.below hb).new a)
  clear hb E2
  go_wp2_with (first
    | ((with_reducible refine wpList_store_row (o := ⟨none, .store 24 (.tmp 8) _, _, _, _, _⟩) ?_ 24 (.tmp 8) (.tmp 27) ?_ w4.heap.size (wcs (a)) ?_ ?_ 24 _ (heap_alloc_last w4 _) (wc_info _) ?_ (wc_one _) ?_); (rfl); (rfl); (rfl); (rfl); (rw [wc_size]; rfl); rw [World.setRow_alloc_new])
    | ((with_reducible refine wpList_load_row (o := ⟨some 30, _, _, _, _, _⟩) ?_ 24 (.tmp 3) ?_ (w.heap.size + 1) ?_ 24 (wcs (b)) (0, 0) _ (E4.out.box (w.heap.size + 1) (b) (by simp)) Try.underlying24 ?_ (wc_info _) ?_); (rfl); (rfl); (rfl); (rfl))
    | ((with_reducible refine wpList_load_row (o := ⟨some 31, _, _, _, _, _⟩) ?_ 24 (.tmp 2) ?_ (w.heap.size) ?_ 24 (wcs (a)) (0, 0) _ (E4.out.box (w.heap.size) (a) (by simp)) Try.underlying24 ?_ (wc_info _) ?_); (rfl); (rfl); (rfl); (rfl)))
  generalize w4.alloc (.cells (wcs a) 24) = w5 at *
  refine (add_any b a w5 HB.out HA.out).mono ?_
  rintro e w6 ⟨rfl, hb⟩
  rw [HF.out.2.1, HF.out.2.2.1]
  have E6 := Lib.hid ((E4.out.below hb).new s)
  clear hb E4
  go_wp2_with (first
    | ((with_reducible refine wpList_store_row (o := ⟨none, .store 24 (.tmp 10) _, _, _, _, _⟩) ?_ 24 (.tmp 10) (.tmp 33) ?_ w6.heap.size (wcs (s)) ?_ ?_ 24 _ (heap_alloc_last w6 _) (wc_info _) ?_ (wc_one _) ?_); (rfl); (rfl); (rfl); (rfl); (rw [wc_size]; rfl); rw [World.setRow_alloc_new])
    | ((with_reducible refine wpList_load_row (o := ⟨some 36, _, _, _, _, _⟩) ?_ 24 (.tmp 2) ?_ (w.heap.size) ?_ 24 (wcs (a)) (0, 0) _ (E6.out.box (w.heap.size) (a) (by simp)) Try.underlying24 ?_ (wc_info _) ?_); (rfl); (rfl); (rfl); (rfl))
    | ((with_reducible refine wpList_load_row (o := ⟨some 37, _, _, _, _, _⟩) ?_ 24 (.tmp 3) ?_ (w.heap.size + 1) ?_ 24 (wcs (b)) (0, 0) _ (E6.out.box (w.heap.size + 1) (b) (by simp)) Try.underlying24 ?_ (wc_info _) ?_); (rfl); (rfl); (rfl); (rfl)))
  generalize w6.alloc (.cells (wcs s) 24) = w7 at *
  refine (sub_any a b w7 HA.out HB.out).mono ?_
  rintro e w8 ⟨rfl, hb⟩
  rw [HDD.out, HLE.out]
  have E8 := Lib.hid ((E6.out.below hb).new d)
  clear hb E6
  go_wp2_with (first
    | ((with_reducible refine wpList_store_row (o := ⟨none, .store 24 (.tmp 12) _, _, _, _, _⟩) ?_ 24 (.tmp 12) (.tmp 39) ?_ w8.heap.size (wcs (d)) ?_ ?_ 24 _ (heap_alloc_last w8 _) (wc_info _) ?_ (wc_one _) ?_); (rfl); (rfl); (rfl); (rfl); (rw [wc_size]; rfl); rw [World.setRow_alloc_new])
    | ((with_reducible refine wpList_load_row (o := ⟨some 42, _, _, _, _, _⟩) ?_ 24 (.tmp 12) ?_ (w8.heap.size) ?_ 24 (wcs (d)) (0, 0) _ (E8.out.box (w8.heap.size) (d) (by simp)) Try.underlying24 ?_ (wc_info _) ?_); (rfl); (rfl); (rfl); (rfl))
    | ((with_reducible refine wpList_load_row (o := ⟨some 43, _, _, _, _, _⟩) ?_ 24 (.tmp 3) ?_ (w.heap.size + 1) ?_ 24 (wcs (b)) (0, 0) _ (E8.out.box (w.heap.size + 1) (b) (by simp)) Try.underlying24 ?_ (wc_info _) ?_); (rfl); (rfl); (rfl); (rfl)))
  generalize w8.alloc (.cells (wcs d) 24) = w9 at *
  refine (add_any d b w9 HD.out HB.out).mono ?_
  rintro e w10 ⟨rfl, hb⟩
  rw [HF.out.2.2.2.1, HF.out.2.2.2.2.1]
  have E10 := Lib.hid ((E8.out.below hb).new a)
  clear hb E8
  have ka := eql_wide a a HA.out HA.out
  have ks := eql_wide s s HS.out HS.out
  rw [show eqN a a = true by simp [eqN]] at ka
  rw [show eqN s s = true by simp [eqN]] at ks
  go_wp2_with (first
    | ((with_reducible refine wpList_store_row (o := ⟨none, .store 24 (.tmp 14) _, _, _, _, _⟩) ?_ 24 (.tmp 14) (.tmp 45) ?_ w10.heap.size (wcs (a)) ?_ ?_ 24 _ (heap_alloc_last w10 _) (wc_info _) ?_ (wc_one _) ?_); (rfl); (rfl); (rfl); (rfl); (rw [wc_size]; rfl); rw [World.setRow_alloc_new])
    | ((with_reducible refine wpList_load_guarded (o := ⟨some 49, _, _, _, _, _⟩) ?_ 24 (.tmp 8) ?_ (w4.heap.size) ?_ 24 (wcs (a)) (0, 0) _ (E10.out.box (w4.heap.size) (a) (by simp)) Try.underlying24 ?_ (wc_info _) ?_); (rfl); (rfl); (rfl); (rfl))
    | ((with_reducible refine wpList_load_guarded (o := ⟨some 50, _, _, _, _, _⟩) ?_ 24 (.tmp 2) ?_ (w.heap.size) ?_ 24 (wcs (a)) (0, 0) _ (E10.out.box (w.heap.size) (a) (by simp)) Try.underlying24 ?_ (wc_info _) ?_); (rfl); (rfl); (rfl); (rfl))
    | ((with_reducible refine wpList_load_guarded (o := ⟨some 54, _, _, _, _, _⟩) ?_ 24 (.tmp 6) ?_ (w2.heap.size) ?_ 24 (wcs (s)) (0, 0) _ (E10.out.box (w2.heap.size) (s) (by simp)) Try.underlying24 ?_ (wc_info _) ?_); (rfl); (rfl); (rfl); (rfl))
    | ((with_reducible refine wpList_load_guarded (o := ⟨some 55, _, _, _, _, _⟩) ?_ 24 (.tmp 10) ?_ (w6.heap.size) ?_ 24 (wcs (s)) (0, 0) _ (E10.out.box (w6.heap.size) (s) (by simp)) Try.underlying24 ?_ (wc_info _) ?_); (rfl); (rfl); (rfl); (rfl))
    | ((with_reducible refine wpList_load_guarded (o := ⟨some 64, _, _, _, _, _⟩) ?_ 24 (.tmp 14) ?_ (w10.heap.size) ?_ 24 (wcs (a)) (0, 0) _ (E10.out.box (w10.heap.size) (a) (by simp)) Try.underlying24 ?_ (wc_info _) ?_); (rfl); (rfl); (rfl); (rfl))
    | ((with_reducible refine wpList_load_guarded (o := ⟨some 65, _, _, _, _, _⟩) ?_ 24 (.tmp 2) ?_ (w.heap.size) ?_ 24 (wcs (a)) (0, 0) _ (E10.out.box (w.heap.size) (a) (by simp)) Try.underlying24 ?_ (wc_info _) ?_); (rfl); (rfl); (rfl); (rfl))
    | ((with_reducible refine wpList_load_guarded (o := ⟨some 75, _, _, _, _, _⟩) ?_ 24 (.tmp 2) ?_ (w.heap.size) ?_ 24 (wcs (a)) (0, 0) _ (E10.out.box (w.heap.size) (a) (by simp)) Try.underlying24 ?_ (wc_info _) ?_); (rfl); (rfl); (rfl); (rfl))
    | ((with_reducible refine wpList_load_guarded (o := ⟨some 76, _, _, _, _, _⟩) ?_ 24 (.tmp 3) ?_ (w.heap.size + 1) ?_ 24 (wcs (b)) (0, 0) _ (E10.out.box (w.heap.size + 1) (b) (by simp)) Try.underlying24 ?_ (wc_info _) ?_); (rfl); (rfl); (rfl); (rfl)))
  generalize w10.alloc (.cells (wcs a) 24) = w11 at *
  refine (cmp_any a b w11 HA.out HB.out).mono ?_
  rintro e w12 ⟨rfl, hb⟩
  have E12 := Lib.hid (E10.out.below hb)
  clear hb E10
  have q1 := HF.out.2.2.2.2.2.1
  have q2 := HF.out.2.2.2.2.2.2
  have bb : ∀ x : Bool, (x == x) = true := fun x => by cases x <;> rfl
  go_wp2_with (first
    | ((with_reducible refine wpList_load_guarded (o := ⟨some 83, _, _, _, _, _⟩) ?_ 24 (.tmp 6) ?_ (w2.heap.size) ?_ 24 (wcs (s)) (0, 0) _ (E12.out.box (w2.heap.size) (s) (by simp)) Try.underlying24 ?_ (wc_info _) ?_); (rfl); (rfl); (rfl); (rfl))
    | ((with_reducible refine wpList_load_guarded (o := ⟨some 84, _, _, _, _, _⟩) ?_ 24 (.tmp 2) ?_ (w.heap.size) ?_ 24 (wcs (a)) (0, 0) _ (E12.out.box (w.heap.size) (a) (by simp)) Try.underlying24 ?_ (wc_info _) ?_); (rfl); (rfl); (rfl); (rfl)))
  refine (cmp_any s a w12 HS.out HA.out).mono ?_
  rintro e w13 ⟨rfl, hb⟩
  have E13 := Lib.hid (E12.out.below hb)
  clear hb E12
  go_wp2
  go_ret
  exact ⟨rfl, E13.out.bel⟩
end Go.Proofs.Ytmmhjjiighmliaa
