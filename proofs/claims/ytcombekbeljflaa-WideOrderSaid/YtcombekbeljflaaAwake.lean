/- The walk of awake: it answers true. -/
import Derived.Test.YtcombekbeljflaaBase
import Derived.Deep.RegionHeld3
import Derived.Deep.DrawnRows
namespace Go.Proofs.Ytcombekbeljflaa
open Go.RowKit
attribute [local go_sem ↓] Go.wp_at_zero Go.wp_at_succ

set_option maxHeartbeats 8000000 in
set_option maxRecDepth 100000 in
theorem awake_any (w : World) :
    Calls Try.prog 10 #[] w fun e w' => e = .returned (.bool true) ∧ Below w.heap.size w w' := by
  go_enter Try.func10, Try.ntmps10
  go_wp2_with fail
  refine (of_n 100 w (by decide)).mono ?_
  rintro e w1 ⟨rfl, hb⟩
  have E1 := Lib.hid ((Env.start w).below hb)
  clear hb
  go_wp2_with fail
  refine (of_n 7 w1 (by decide)).mono ?_
  rintro e w2 ⟨rfl, hb⟩
  have E2 := Lib.hid (E1.out.below hb)
  clear hb E1
  go_wp2_with fail
  refine (div_yes 100 7 w2 (by decide) (by decide) (by decide)).mono ?_
  rintro e w3 ⟨rfl, hb⟩
  have E3 := Lib.hid (((E2.out.below hb).new (100 / 7)).new (100 % 7))
  clear hb E2
  rw [World.size_alloc] at E3
  have hq : Hid (100 / 7 = 14) := by show _ = _; decide
  have hr : Hid (100 % 7 = 2) := by show _ = _; decide
  rw [hq.out, hr.out] at E3 ⊢
  clear hq hr
  go_wp2_with (first
    | ((with_reducible refine wpList_store_row (o := ⟨none, .store 24 (.tmp 1) _, _, _, _, _⟩) ?_ 24 (.tmp 1) (.tmp 11) ?_ w3.heap.size (wcs (14)) ?_ ?_ 24 _ (heap_alloc2_old w3 _ _) (wc_info _) ?_ (wc_one _) ?_); (rfl); (rfl); (rfl); (rfl); (rw [wc_size]; rfl); rw [setRow_two1])
    | ((with_reducible refine wpList_store_row (o := ⟨none, .store 24 (.tmp 2) _, _, _, _, _⟩) ?_ 24 (.tmp 2) (.tmp 12) ?_ (w3.heap.size + 1) (wcs (2)) ?_ ?_ 24 _ (heap_alloc2_new w3 _ _) (wc_info _) ?_ (wc_one _) ?_); (rfl); (rfl); (rfl); (rfl); (rw [wc_size]; rfl); rw [setRow_two2]))
  generalize (w3.alloc (.cells (wcs 14) 24)).alloc (.cells (wcs 2) 24) = w4 at *
  refine (of_n 1 w4 (by decide)).mono ?_
  rintro e w5 ⟨rfl, hb⟩
  have E5 := Lib.hid (E3.out.below hb)
  clear hb E3
  go_wp2_with fail
  refine (up_255 1 w5 (by decide)).mono ?_
  rintro e w6 ⟨rfl, hb⟩
  have hh : Hid (1 * 2 ^ 255 % Big < Big) := Nat.mod_lt _ Big_pos
  have h3 : Hid (W (1 * 2 ^ 255 % Big) 3 = 9223372036854775808) := by show _ = _; decide +kernel
  have h0 : Hid ((1 * 2 ^ 255 % Big + 1 * 2 ^ 255 % Big) % Big = 0) := by show _ = _; decide +kernel
  have hno : Hid (decide (1 * 2 ^ 255 % Big + 1 * 2 ^ 255 % Big < Big) = false) := by show _ = _; decide +kernel
  have E6 := Lib.hid (E5.out.below hb)
  clear hb E5
  generalize 1 * 2 ^ 255 % Big = h at *
  have E7 := Lib.hid (E6.out.new h)
  clear E6
  go_wp2_with (first
    | ((with_reducible refine wpList_store_row (o := ⟨none, .store 24 (.tmp 4) _, _, _, _, _⟩) ?_ 24 (.tmp 4) (.tmp 15) ?_ w6.heap.size (wcs (h)) ?_ ?_ 24 _ (heap_alloc_last w6 _) (wc_info _) ?_ (wc_one _) ?_); (rfl); (rfl); (rfl); (rfl); (rw [wc_size]; rfl); rw [World.setRow_alloc_new])
    | ((with_reducible refine wpList_load_row (o := ⟨some 17, _, _, _, _, _⟩) ?_ 24 (.tmp 4) ?_ (w6.heap.size) ?_ 24 (wcs (h)) (0, 0) _ (E7.out.box (w6.heap.size) (h) (by simp)) Try.underlying24 ?_ (wc_info _) ?_); (rfl); (rfl); (rfl); (rfl))
    | ((with_reducible refine wpList_load_row (o := ⟨some 18, _, _, _, _, _⟩) ?_ 24 (.tmp 4) ?_ (w6.heap.size) ?_ 24 (wcs (h)) (0, 0) _ (E7.out.box (w6.heap.size) (h) (by simp)) Try.underlying24 ?_ (wc_info _) ?_); (rfl); (rfl); (rfl); (rfl)))
  generalize w6.alloc (.cells (wcs h) 24) = w7 at *
  refine (add_any h h w7 hh.out hh.out).mono ?_
  rintro e w8 ⟨rfl, hb⟩
  rw [h0.out, hno.out]
  have E9 := Lib.hid ((E7.out.below hb).new 0)
  clear hb E7 h0 hno
  go_upto_region 4 with (first
    | ((with_reducible refine wpList_store_row (o := ⟨none, .store 24 (.tmp 5) _, _, _, _, _⟩) ?_ 24 (.tmp 5) (.tmp 20) ?_ w8.heap.size (wcs (0)) ?_ ?_ 24 _ (heap_alloc_last w8 _) (wc_info _) ?_ (wc_one _) ?_); (rfl); (rfl); (rfl); (rfl); (rw [wc_size]; rfl); rw [World.setRow_alloc_new]))
  generalize hg1 : w3.heap.size = g1 at *
  generalize hg2 : w6.heap.size = g2 at *
  generalize hg3 : w8.heap.size = g3 at *
  generalize w8.alloc (.cells (wcs 0) 24) = w9 at *
  clear hg1 hg2 hg3
  have k14 : ∀ u : World, (binOp .eql 24 (.agg (wcs 14)) (.agg (wcs 14))).run Try.prog u = .ok (.bool true) u := fun u => eql_wide 14 14 (by decide) (by decide) u
  have k2 : ∀ u : World, (binOp .eql 24 (.agg (wcs 2)) (.agg (wcs 2))).run Try.prog u = .ok (.bool true) u := fun u => eql_wide 2 2 (by decide) (by decide) u
  have k3 : ∀ u : World, (binOp .neq 24 (.agg (wcs 2)) (.agg (wcs 3))).run Try.prog u = .ok (.bool true) u := fun u => neq_wide 2 3 (by decide) (by decide) u
  have k0 : ∀ u : World, (binOp .eql 24 (.agg (wcs 0)) (.agg #[.int .u64 0, .int .u64 0, .int .u64 0, .int .u64 0])).run Try.prog u = .ok (.bool true) u := fun u => eql_zero 0 (by decide) u
  have f14 := fold4 14
  have f2 := fold4 2
  have f0 := fold4 0
  have mk : ∀ u : World, Env w u [(g3, 0), (g2, h), (g1 + 1, 2), (g1, 14)] → (Env w u [(g3, 0), (g2, h), (g1 + 1, 2), (g1, 14)] ∧ (u.cell? ⟨g1, 0, none⟩ = some (.int .u64 (W 14 0)) ∧ u.cell? ⟨g1, 1, none⟩ = some (.int .u64 (W 14 1)) ∧ u.cell? ⟨g1, 2, none⟩ = some (.int .u64 (W 14 2)) ∧ u.cell? ⟨g1, 3, none⟩ = some (.int .u64 (W 14 3))) ∧ (u.cell? ⟨g1 + 1, 0, none⟩ = some (.int .u64 (W 2 0)) ∧ u.cell? ⟨g1 + 1, 1, none⟩ = some (.int .u64 (W 2 1)) ∧ u.cell? ⟨g1 + 1, 2, none⟩ = some (.int .u64 (W 2 2)) ∧ u.cell? ⟨g1 + 1, 3, none⟩ = some (.int .u64 (W 2 3))) ∧ (u.cell? ⟨g3, 0, none⟩ = some (.int .u64 (W 0 0)) ∧ u.cell? ⟨g3, 1, none⟩ = some (.int .u64 (W 0 1)) ∧ u.cell? ⟨g3, 2, none⟩ = some (.int .u64 (W 0 2)) ∧ u.cell? ⟨g3, 3, none⟩ = some (.int .u64 (W 0 3))) ∧ u.cell? ⟨g2, 3, none⟩ = some (.int .u64 9223372036854775808)) := fun u E =>
    ⟨E, cells_of_env E (by simp), cells_of_env E (by simp), cells_of_env E (by simp), (E.cell (g := g2) (n := h) (by simp) 3 (by decide)).trans (by rw [h3.out]; rfl)⟩
  have MK := Lib.hid mk
  clear mk
  have E := E9.out
  have Ed := E9.out.drew
  clear E9
  go_region_held3 (fun u => Env w u [(g3, 0), (g2, h), (g1 + 1, 2), (g1, 14)] ∧ (u.cell? ⟨g1, 0, none⟩ = some (.int .u64 (W 14 0)) ∧ u.cell? ⟨g1, 1, none⟩ = some (.int .u64 (W 14 1)) ∧ u.cell? ⟨g1, 2, none⟩ = some (.int .u64 (W 14 2)) ∧ u.cell? ⟨g1, 3, none⟩ = some (.int .u64 (W 14 3))) ∧ (u.cell? ⟨g1 + 1, 0, none⟩ = some (.int .u64 (W 2 0)) ∧ u.cell? ⟨g1 + 1, 1, none⟩ = some (.int .u64 (W 2 1)) ∧ u.cell? ⟨g1 + 1, 2, none⟩ = some (.int .u64 (W 2 2)) ∧ u.cell? ⟨g1 + 1, 3, none⟩ = some (.int .u64 (W 2 3))) ∧ (u.cell? ⟨g3, 0, none⟩ = some (.int .u64 (W 0 0)) ∧ u.cell? ⟨g3, 1, none⟩ = some (.int .u64 (W 0 1)) ∧ u.cell? ⟨g3, 2, none⟩ = some (.int .u64 (W 0 2)) ∧ u.cell? ⟨g3, 3, none⟩ = some (.int .u64 (W 0 3))) ∧ u.cell? ⟨g2, 3, none⟩ = some (.int .u64 9223372036854775808)) (exact MK.out _ (by assumption))
    (first
      | (go_at_call 25; refine (of_n 14 _ (by decide)).mono ?_; rintro e w' ⟨rfl, hb⟩; have E' := Env.below (by assumption) hb; clear hb)
      | (go_at_call 25; refine (of_n 2 _ (by decide)).mono ?_; rintro e w' ⟨rfl, hb⟩; have E' := Env.below (by assumption) hb; clear hb)
      | (go_at_call 25; refine (of_n 3 _ (by decide)).mono ?_; rintro e w' ⟨rfl, hb⟩; have E' := Env.below (by assumption) hb; clear hb)
      | (go_at_call 23; refine (cmp_any 2 14 _ (by decide) (by decide)).mono ?_; rintro e w' ⟨rfl, hb⟩; rw [show cmpI 2 14 = -1 from rfl]; have E' := Env.below (by assumption) hb; clear hb))
  clear k14 k2 k3 k0 f14 f2 f0
  go_wp2
  go_ret
  exact ⟨rfl, Env.bel (by assumption)⟩
end Go.Proofs.Ytcombekbeljflaa
