/- The walk of the law WideTells. -/
import Derived.Test.YtmmhjjiighmliaaAwake
import Derived.Test.YtmmhjjiighmliaaEnv2
import Derived.Test.YtmmhjjiighmliaaBoth
import Derived.Deep.DeepCutAuto
namespace Go.Proofs.Ytmmhjjiighmliaa
open Go.RowKit
attribute [local go_sem ↓] Go.wp_at_zero Go.wp_at_succ

set_option maxHeartbeats 16000000 in
set_option maxRecDepth 100000 in
theorem law_tells (a b : Nat) (n : Int) (w : World) (ha : a < Big) (hb : b < Big) (hn : n ≤ 9223372036854775807) :
    Calls Try.prog 3 #[.agg (wcs a), .agg (wcs b), .int .i64 n] w fun e w' => e = .returned (.bool true) ∧ Below w.heap.size w w' := by
  have HA := Lib.hid ha
  have HB := Lib.hid hb
  have HN := Lib.hid hn
  clear ha hb hn
  have E0 := Lib.hid (((Env.start w).new a).new b)
  rw [World.size_alloc] at E0
  go_enter Try.func3, Try.ntmps3
  go_wp2_with fail
  generalize (w.alloc (.cells (wcs a) 24)).alloc (.cells (wcs b) 24) = w0 at *
  refine (awake_any w0).mono ?_
  rintro e w1 ⟨rfl, hb⟩
  have E1 := Lib.hid (E0.out.below hb)
  clear hb E0
  go_wp2_with (first
    | ((with_reducible refine wpList_load_row (o := ⟨some 20, _, _, _, _, _⟩) ?_ 24 (.tmp 3) ?_ (w.heap.size) ?_ 24 (wcs (a)) (0, 0) _ (E1.out.box (w.heap.size) (a) (by simp)) Try.underlying24 ?_ (wc_info _) ?_); (rfl); (rfl); (rfl); (rfl))
    | ((with_reducible refine wpList_load_row (o := ⟨some 21, _, _, _, _, _⟩) ?_ 24 (.tmp 4) ?_ (w.heap.size + 1) ?_ 24 (wcs (b)) (0, 0) _ (E1.out.box (w.heap.size + 1) (b) (by simp)) Try.underlying24 ?_ (wc_info _) ?_); (rfl); (rfl); (rfl); (rfl)))
  refine (add_any a b w1 HA.out HB.out).mono ?_
  rintro e w2 ⟨rfl, hb⟩
  have HS : Hid ((a + b) % Big < Big) := Nat.mod_lt _ Big_pos
  have HD : Hid ((a + (Big - b)) % Big < Big) := Nat.mod_lt _ Big_pos
  generalize hs : (a + b) % Big = s at *
  generalize hd : (a + (Big - b)) % Big = d at *
  generalize hall : decide (a + b < Big) = all at *
  generalize hle : decide (b ≤ a) = le at *
  have HSS := Lib.hid hs
  have HDD := Lib.hid hd
  have HALL := Lib.hid hall
  have HLE := Lib.hid hle
  clear hs hd hall hle
  have E2 := Lib.hid ((E1.out.below hb).new s)
  clear hb E1
  go_wp2_with (first
    | ((with_reducible refine wpList_store_row (o := ⟨none, .store 24 (.tmp 8) _, _, _, _, _⟩) ?_ 24 (.tmp 8) (.tmp 23) ?_ w2.heap.size (wcs (s)) ?_ ?_ 24 _ (heap_alloc_last w2 _) (wc_info _) ?_ (wc_one _) ?_); (rfl); (rfl); (rfl); (rfl); (rw [wc_size]; rfl); rw [World.setRow_alloc_new])
    | ((with_reducible refine wpList_load_row (o := ⟨some 26, _, _, _, _, _⟩) ?_ 24 (.tmp 3) ?_ (w.heap.size) ?_ 24 (wcs (a)) (0, 0) _ (E2.out.box (w.heap.size) (a) (by simp)) Try.underlying24 ?_ (wc_info _) ?_); (rfl); (rfl); (rfl); (rfl))
    | ((with_reducible refine wpList_load_row (o := ⟨some 27, _, _, _, _, _⟩) ?_ 24 (.tmp 4) ?_ (w.heap.size + 1) ?_ 24 (wcs (b)) (0, 0) _ (E2.out.box (w.heap.size + 1) (b) (by simp)) Try.underlying24 ?_ (wc_info _) ?_); (rfl); (rfl); (rfl); (rfl)))
  generalize w2.alloc (.cells (wcs s) 24) = w3 at *
  refine (radd_any a b w3 HA.out HB.out).mono ?_
  rintro e w4 ⟨rfl, hb⟩
  rw [HSS.out, HALL.out]
  have E4 := Lib.hid ((E2.out.below hb).new s)
  clear hb E2
  go_wp2_with (first
    | ((with_reducible refine wpList_store_row (o := ⟨none, .store 24 (.tmp 10) _, _, _, _, _⟩) ?_ 24 (.tmp 10) (.tmp 29) ?_ w4.heap.size (wcs (s)) ?_ ?_ 24 _ (heap_alloc_last w4 _) (wc_info _) ?_ (wc_one _) ?_); (rfl); (rfl); (rfl); (rfl); (rw [wc_size]; rfl); rw [World.setRow_alloc_new])
    | ((with_reducible refine wpList_load_row (o := ⟨some 32, _, _, _, _, _⟩) ?_ 24 (.tmp 3) ?_ (w.heap.size) ?_ 24 (wcs (a)) (0, 0) _ (E4.out.box (w.heap.size) (a) (by simp)) Try.underlying24 ?_ (wc_info _) ?_); (rfl); (rfl); (rfl); (rfl))
    | ((with_reducible refine wpList_load_row (o := ⟨some 33, _, _, _, _, _⟩) ?_ 24 (.tmp 4) ?_ (w.heap.size + 1) ?_ 24 (wcs (b)) (0, 0) _ (E4.out.box (w.heap.size + 1) (b) (by simp)) Try.underlying24 ?_ (wc_info _) ?_); (rfl); (rfl); (rfl); (rfl)))
  generalize w4.alloc (.cells (wcs s) 24) = w5 at *
  refine (sub_any a b w5 HA.out HB.out).mono ?_
  rintro e w6 ⟨rfl, hb⟩
  rw [HDD.out, HLE.out]
  have E6 := Lib.hid ((E4.out.below hb).new d)
  clear hb E4
  go_wp2_with (first
    | ((with_reducible refine wpList_store_row (o := ⟨none, .store 24 (.tmp 12) _, _, _, _, _⟩) ?_ 24 (.tmp 12) (.tmp 35) ?_ w6.heap.size (wcs (d)) ?_ ?_ 24 _ (heap_alloc_last w6 _) (wc_info _) ?_ (wc_one _) ?_); (rfl); (rfl); (rfl); (rfl); (rw [wc_size]; rfl); rw [World.setRow_alloc_new])
    | ((with_reducible refine wpList_load_row (o := ⟨some 38, _, _, _, _, _⟩) ?_ 24 (.tmp 3) ?_ (w.heap.size) ?_ 24 (wcs (a)) (0, 0) _ (E6.out.box (w.heap.size) (a) (by simp)) Try.underlying24 ?_ (wc_info _) ?_); (rfl); (rfl); (rfl); (rfl))
    | ((with_reducible refine wpList_load_row (o := ⟨some 39, _, _, _, _, _⟩) ?_ 24 (.tmp 4) ?_ (w.heap.size + 1) ?_ 24 (wcs (b)) (0, 0) _ (E6.out.box (w.heap.size + 1) (b) (by simp)) Try.underlying24 ?_ (wc_info _) ?_); (rfl); (rfl); (rfl); (rfl)))
  generalize w6.alloc (.cells (wcs d) 24) = w7 at *
  refine (rsub_any a b w7 HA.out HB.out).mono ?_
  rintro e w8 ⟨rfl, hb⟩
  rw [HDD.out, HLE.out]
  have E8 := Lib.hid ((E6.out.below hb).new d)
  clear hb E6
  have ks := neq_same s HS.out
  have kd := neq_same d HD.out
  have nn : ∀ x : Bool, (x != x) = false := fun x => by cases x <;> rfl
  go_upto_region 8 with (first
    | ((with_reducible refine wpList_store_row (o := ⟨none, .store 24 (.tmp 14) _, _, _, _, _⟩) ?_ 24 (.tmp 14) (.tmp 41) ?_ w8.heap.size (wcs (d)) ?_ ?_ 24 _ (heap_alloc_last w8 _) (wc_info _) ?_ (wc_one _) ?_); (rfl); (rfl); (rfl); (rfl); (rw [wc_size]; rfl); rw [World.setRow_alloc_new])
    | ((with_reducible refine wpList_load_guarded (o := ⟨some 46, _, _, _, _, _⟩) ?_ 24 (.tmp 8) ?_ (w2.heap.size) ?_ 24 (wcs (s)) (0, 0) _ (E8.out.box (w2.heap.size) (s) (by simp)) Try.underlying24 ?_ (wc_info _) ?_); (rfl); (rfl); (rfl); (rfl))
    | ((with_reducible refine wpList_load_guarded (o := ⟨some 47, _, _, _, _, _⟩) ?_ 24 (.tmp 10) ?_ (w4.heap.size) ?_ 24 (wcs (s)) (0, 0) _ (E8.out.box (w4.heap.size) (s) (by simp)) Try.underlying24 ?_ (wc_info _) ?_); (rfl); (rfl); (rfl); (rfl))
    | ((with_reducible refine wpList_load_guarded (o := ⟨some 56, _, _, _, _, _⟩) ?_ 24 (.tmp 12) ?_ (w6.heap.size) ?_ 24 (wcs (d)) (0, 0) _ (E8.out.box (w6.heap.size) (d) (by simp)) Try.underlying24 ?_ (wc_info _) ?_); (rfl); (rfl); (rfl); (rfl))
    | ((with_reducible refine wpList_load_guarded (o := ⟨some 57, _, _, _, _, _⟩) ?_ 24 (.tmp 14) ?_ (w8.heap.size) ?_ 24 (wcs (d)) (0, 0) _ (E8.out.box (w8.heap.size) (d) (by simp)) Try.underlying24 ?_ (wc_info _) ?_); (rfl); (rfl); (rfl); (rfl)))
  clear ks kd nn
  generalize w8.alloc (.cells (wcs d) 24) = w9 at *
  have E9 := Lib.hid (Env.two E8.out (g := w.heap.size) (n := a) (g' := w.heap.size + 1) (n' := b) (by simp) (by simp))
  clear E8
  have MK : Hid (∀ u : World, Env w u [(w.heap.size, a), (w.heap.size + 1, b)] → ((u.cell? ⟨w.heap.size, 0, none⟩ = some (.int .u64 (W a 0)) ∧ u.cell? ⟨w.heap.size, 1, none⟩ = some (.int .u64 (W a 1)) ∧ u.cell? ⟨w.heap.size, 2, none⟩ = some (.int .u64 (W a 2)) ∧ u.cell? ⟨w.heap.size, 3, none⟩ = some (.int .u64 (W a 3))) ∧ u.cell? ⟨w.heap.size + 1, 0, none⟩ = some (.int .u64 (W b 0)) ∧ u.cell? ⟨w.heap.size + 1, 1, none⟩ = some (.int .u64 (W b 1)) ∧ u.cell? ⟨w.heap.size + 1, 2, none⟩ = some (.int .u64 (W b 2)) ∧ u.cell? ⟨w.heap.size + 1, 3, none⟩ = some (.int .u64 (W b 3)))) := fun u h => ⟨cells_of h (by simp), cells_of h (by simp)⟩
  have kU := eql_same _ (upV_lt a n HA.out)
  have kD := eql_same _ (downV_lt a n HA.out)
  have fa := fold4 a
  have fb := fold4 b
  try rw [put_none]
  go_cut [16] (fun s16 wx => Hid (s16 = .bool true ∧ Env w wx [(w.heap.size, a), (w.heap.size + 1, b)]))
  case first =>
    have Ex := E9.out
    have Exd := E9.out.drew
    clear E9
    go_region_held3 (fun u => (u.cell? ⟨w.heap.size, 0, none⟩ = some (.int .u64 (W a 0)) ∧ u.cell? ⟨w.heap.size, 1, none⟩ = some (.int .u64 (W a 1)) ∧ u.cell? ⟨w.heap.size, 2, none⟩ = some (.int .u64 (W a 2)) ∧ u.cell? ⟨w.heap.size, 3, none⟩ = some (.int .u64 (W a 3))) ∧ u.cell? ⟨w.heap.size + 1, 0, none⟩ = some (.int .u64 (W b 0)) ∧ u.cell? ⟨w.heap.size + 1, 1, none⟩ = some (.int .u64 (W b 1)) ∧ u.cell? ⟨w.heap.size + 1, 2, none⟩ = some (.int .u64 (W b 2)) ∧ u.cell? ⟨w.heap.size + 1, 3, none⟩ = some (.int .u64 (W b 3))) (exact MK.out _ (by with_reducible assumption))
      (first
        | (go_at_call 15; (with_reducible refine (up_v a n _ HA.out HN.out).mono ?_); rintro e w' ⟨rfl, hb⟩; have E' : Env w w' [(w.heap.size, a), (w.heap.size + 1, b)] := Env.below (by with_reducible assumption) hb; clear hb)
        | (go_at_call 16; (with_reducible refine (rup_v a n _ HA.out).mono ?_); rintro e w' ⟨rfl, hb⟩; have E' : Env w w' [(w.heap.size, a), (w.heap.size + 1, b)] := Env.below (by with_reducible assumption) hb; clear hb)
        | (go_at_call 17; (with_reducible refine (down_v a n _ HA.out HN.out).mono ?_); rintro e w' ⟨rfl, hb⟩; have E' : Env w w' [(w.heap.size, a), (w.heap.size + 1, b)] := Env.below (by with_reducible assumption) hb; clear hb)
        | (go_at_call 18; (with_reducible refine (rdown_v a n _ HA.out).mono ?_); rintro e w' ⟨rfl, hb⟩; have E' : Env w w' [(w.heap.size, a), (w.heap.size + 1, b)] := Env.below (by with_reducible assumption) hb; clear hb))
    all_goals
      go_wp2_with fail
      go_meet
      exact ⟨rfl, by first | (with_reducible assumption) | exact Env.drew (by with_reducible assumption)⟩
  case rest =>
    obtain ⟨rfl, E10⟩ := hcut.out
    clear hcut E9 kU kD
    generalize wc = w10 at *
    have kI := eql_id_same (bytesOf a)
    have kN := eql_same _ (numOf_b b)
    go_upto_region 9 with fail
    go_cut [17] (fun s17 wx => Hid (s17 = .bool true ∧ Env w wx [(w.heap.size, a), (w.heap.size + 1, b)]))
    case first =>
      have Exd := E10.drew
      go_region_held3 (fun u => (u.cell? ⟨w.heap.size, 0, none⟩ = some (.int .u64 (W a 0)) ∧ u.cell? ⟨w.heap.size, 1, none⟩ = some (.int .u64 (W a 1)) ∧ u.cell? ⟨w.heap.size, 2, none⟩ = some (.int .u64 (W a 2)) ∧ u.cell? ⟨w.heap.size, 3, none⟩ = some (.int .u64 (W a 3))) ∧ u.cell? ⟨w.heap.size + 1, 0, none⟩ = some (.int .u64 (W b 0)) ∧ u.cell? ⟨w.heap.size + 1, 1, none⟩ = some (.int .u64 (W b 1)) ∧ u.cell? ⟨w.heap.size + 1, 2, none⟩ = some (.int .u64 (W b 2)) ∧ u.cell? ⟨w.heap.size + 1, 3, none⟩ = some (.int .u64 (W b 3))) (exact MK.out _ (by with_reducible assumption))
        (first
          | (go_at_call 19; (with_reducible refine (bytes_any a _).mono ?_); rintro e w' ⟨rfl, hb⟩; have E' : Env w w' [(w.heap.size, a), (w.heap.size + 1, b)] := Env.below (by with_reducible assumption) hb; clear hb)
          | (go_at_call 20; (with_reducible refine (rbytes_any a _).mono ?_); rintro e w' ⟨rfl, hb⟩; have E' : Env w w' [(w.heap.size, a), (w.heap.size + 1, b)] := Env.below (by with_reducible assumption) hb; clear hb)
          | (go_at_call 20; (with_reducible refine (rbytes_any b _).mono ?_); rintro e w' ⟨rfl, hb⟩; have E' : Env w w' [(w.heap.size, a), (w.heap.size + 1, b)] := Env.below (by with_reducible assumption) hb; clear hb)
          | (go_at_call 21; (with_reducible refine (of32_b b _).mono ?_); rintro e w' ⟨rfl, hb⟩; have E' : Env w w' [(w.heap.size, a), (w.heap.size + 1, b)] := Env.below (by with_reducible assumption) hb; clear hb)
          | (go_at_call 22; (with_reducible refine (rof32_b b _).mono ?_); rintro e w' ⟨rfl, hb⟩; have E' : Env w w' [(w.heap.size, a), (w.heap.size + 1, b)] := Env.below (by with_reducible assumption) hb; clear hb))
      all_goals
        go_wp2_with fail
        go_meet
        exact ⟨rfl, by first | (with_reducible assumption) | exact Env.drew (by with_reducible assumption)⟩
    case rest =>
      obtain ⟨rfl, E11⟩ := hcut.out
      clear hcut E10 kI kN
      generalize wc = w11 at *
      have kW := eql_same (W a 0) (small_big (W_lt a 0))
      have kc : (cmpI a b == cmpI a b) = true := by simp
      have Exd := E11.drew
      go_upto_region 10 with fail
      go_region_held3 (fun u => (u.cell? ⟨w.heap.size, 0, none⟩ = some (.int .u64 (W a 0)) ∧ u.cell? ⟨w.heap.size, 1, none⟩ = some (.int .u64 (W a 1)) ∧ u.cell? ⟨w.heap.size, 2, none⟩ = some (.int .u64 (W a 2)) ∧ u.cell? ⟨w.heap.size, 3, none⟩ = some (.int .u64 (W a 3))) ∧ u.cell? ⟨w.heap.size + 1, 0, none⟩ = some (.int .u64 (W b 0)) ∧ u.cell? ⟨w.heap.size + 1, 1, none⟩ = some (.int .u64 (W b 1)) ∧ u.cell? ⟨w.heap.size + 1, 2, none⟩ = some (.int .u64 (W b 2)) ∧ u.cell? ⟨w.heap.size + 1, 3, none⟩ = some (.int .u64 (W b 3))) (exact MK.out _ (by with_reducible assumption))
        (first
          | (go_at_call 23; (with_reducible refine (cmp_any a b _ HA.out HB.out).mono ?_); rintro e w' ⟨rfl, hb⟩; have E' : Env w w' [(w.heap.size, a), (w.heap.size + 1, b)] := Env.below (by with_reducible assumption) hb; clear hb)
          | (go_at_call 24; (with_reducible refine (rcmp_any a b _ HA.out HB.out).mono ?_); rintro e w' ⟨rfl, hb⟩; have E' : Env w w' [(w.heap.size, a), (w.heap.size + 1, b)] := Env.below (by with_reducible assumption) hb; clear hb)
          | (go_at_call 25; (with_reducible refine (of_n (W a 0) _ (W_lt a 0)).mono ?_); rintro e w' ⟨rfl, hb⟩; have E' : Env w w' [(w.heap.size, a), (w.heap.size + 1, b)] := Env.below (by with_reducible assumption) hb; clear hb)
          | (go_at_call 26; (with_reducible refine (rof_n (W a 0) _ (W_lt a 0)).mono ?_); rintro e w' ⟨rfl, hb⟩; have E' : Env w w' [(w.heap.size, a), (w.heap.size + 1, b)] := Env.below (by with_reducible assumption) hb; clear hb))
      all_goals
        clear kW kc fa fb
        go_wp2
        go_ret
        exact ⟨rfl, Env.bel (by with_reducible assumption)⟩
end Go.Proofs.Ytmmhjjiighmliaa
