/- The walk of the law WideShare. -/
import Derived.Test.YtmmhjjiighmliaaAwake
namespace Go.Proofs.Ytmmhjjiighmliaa
open Go.RowKit
attribute [local go_sem ↓] Go.wp_at_zero Go.wp_at_succ

theorem share_facts (a b c : Nat) (h : a + b < Big) (hc : 0 < c) :
    a / c < Big ∧ b / c < Big ∧ a / c + b / c < Big ∧ (a + b) / c < Big ∧ cmpI (a / c + b / c) ((a + b) / c) ≤ 0 ∧ (a / c + b / c + 1 < Big → cmpI ((a + b) / c) (a / c + b / c + 1) ≤ 0) := by
  have h1 := Nat.div_le_self a c
  have h2 := Nat.div_le_self b c
  have h3 := Nat.div_le_self (a + b) c
  have h4 : a / c + b / c ≤ (a + b) / c := by
    rw [Nat.le_div_iff_mul_le hc, Nat.add_mul]
    exact Nat.add_le_add (Nat.div_mul_le_self a c) (Nat.div_mul_le_self b c)
  have h5 : (a + b) / c ≤ a / c + b / c + 1 := by
    have e1 := Nat.div_add_mod a c
    have e2 := Nat.div_add_mod b c
    have l1 := Nat.mod_lt a hc
    have l2 := Nat.mod_lt b hc
    apply Nat.le_of_lt_succ
    rw [Nat.div_lt_iff_lt_mul hc, Nat.succ_eq_add_one, show a / c + b / c + 1 + 1 = a / c + b / c + 2 by omega, Nat.mul_comm, Nat.mul_add, Nat.mul_add]
    omega
  refine ⟨by omega, by omega, by omega, by omega, ?_, fun _ => ?_⟩
  · unfold cmpI; split
    · omega
    · split <;> omega
  · unfold cmpI; split
    · omega
    · split <;> omega
set_option maxHeartbeats 8000000 in
set_option maxRecDepth 100000 in
theorem law_share (a b c : Nat) (w : World) (ha : a < Big) (hb : b < Big) (hc : c < Big) :
    Calls Try.prog 8 #[.agg (wcs a), .agg (wcs b), .agg (wcs c)] w fun e w' => e = .returned (.bool true) ∧ Below w.heap.size w w' := by
  have HA := Lib.hid ha
  have HB := Lib.hid hb
  have HC := Lib.hid hc
  clear ha hb hc
  have E0 := Lib.hid ((((Env.start w).new a).new b).new c)
  rw [World.size_alloc, World.size_alloc] at E0
  go_enter Try.func8, Try.ntmps8
  go_wp2_with fail
  generalize ((w.alloc (.cells (wcs a) 24)).alloc (.cells (wcs b) 24)).alloc (.cells (wcs c) 24) = w0 at *
  refine (awake_any w0).mono ?_
  rintro e w1 ⟨rfl, hb⟩
  have E1 := Lib.hid (E0.out.below hb)
  clear hb E0
  go_wp2_with (first
    | ((with_reducible refine wpList_load_row (o := ⟨some 25, _, _, _, _, _⟩) ?_ 24 (.tmp 3) ?_ (w.heap.size) ?_ 24 (wcs (a)) (0, 0) _ (E1.out.box (w.heap.size) (a) (by simp)) Try.underlying24 ?_ (wc_info _) ?_); (rfl); (rfl); (rfl); (rfl))
    | ((with_reducible refine wpList_load_row (o := ⟨some 26, _, _, _, _, _⟩) ?_ 24 (.tmp 4) ?_ (w.heap.size + 1) ?_ 24 (wcs (b)) (0, 0) _ (E1.out.box (w.heap.size + 1) (b) (by simp)) Try.underlying24 ?_ (wc_info _) ?_); (rfl); (rfl); (rfl); (rfl)))
  refine (add_any a b w1 HA.out HB.out).mono ?_
  rintro e w2 ⟨rfl, hb⟩
  have E2 := Lib.hid ((E1.out.below hb).new ((a + b) % Big))
  clear hb E1
  by_cases hall : a + b < Big
  · have hall' : decide (a + b < Big) = true := by simpa using hall
    have HALL := Lib.hid hall
    rw [Nat.mod_eq_of_lt hall] at E2 ⊢
    rw [hall']
    clear hall hall'
    have kc := eql_zero c HC.out
    by_cases hz : c = 0
    · have hq : eqN c 0 = true := by simp [eqN, hz]
      rw [hq] at kc
      clear hz hq
      go_wp2_with (first
    | ((with_reducible refine wpList_store_row (o := ⟨none, .store 24 (.tmp 8) _, _, _, _, _⟩) ?_ 24 (.tmp 8) (.tmp 28) ?_ w2.heap.size (wcs (a + b)) ?_ ?_ 24 _ (heap_alloc_last w2 _) (wc_info _) ?_ (wc_one _) ?_); (rfl); (rfl); (rfl); (rfl); (rw [wc_size]; rfl); rw [World.setRow_alloc_new])
    | ((with_reducible refine wpList_load_guarded (o := ⟨some 37, _, _, _, _, _⟩) ?_ 24 (.tmp 5) ?_ (w.heap.size + 1 + 1) ?_ 24 (wcs (c)) (0, 0) _ (E2.out.box (w.heap.size + 1 + 1) (c) (by simp)) Try.underlying24 ?_ (wc_info _) ?_); (rfl); (rfl); (rfl); (rfl)))
      go_ret
      exact ⟨rfl, E2.out.bel⟩
    · have hq : eqN c 0 = false := by simp [eqN, hz]
      have HZ : Hid (0 < c) := by show _ < _; omega
      rw [hq] at kc
      clear hz hq
      have HF := Lib.hid (share_facts a b c HALL.out HZ.out)
      go_wp2_with (first
    | ((with_reducible refine wpList_store_row (o := ⟨none, .store 24 (.tmp 8) _, _, _, _, _⟩) ?_ 24 (.tmp 8) (.tmp 28) ?_ w2.heap.size (wcs (a + b)) ?_ ?_ 24 _ (heap_alloc_last w2 _) (wc_info _) ?_ (wc_one _) ?_); (rfl); (rfl); (rfl); (rfl); (rw [wc_size]; rfl); rw [World.setRow_alloc_new])
    | ((with_reducible refine wpList_load_guarded (o := ⟨some 37, _, _, _, _, _⟩) ?_ 24 (.tmp 5) ?_ (w.heap.size + 1 + 1) ?_ 24 (wcs (c)) (0, 0) _ (E2.out.box (w.heap.size + 1 + 1) (c) (by simp)) Try.underlying24 ?_ (wc_info _) ?_); (rfl); (rfl); (rfl); (rfl))
    | ((with_reducible refine wpList_load_row (o := ⟨some 43, _, _, _, _, _⟩) ?_ 24 (.tmp 3) ?_ (w.heap.size) ?_ 24 (wcs (a)) (0, 0) _ (E2.out.box (w.heap.size) (a) (by simp)) Try.underlying24 ?_ (wc_info _) ?_); (rfl); (rfl); (rfl); (rfl))
    | ((with_reducible refine wpList_load_row (o := ⟨some 44, _, _, _, _, _⟩) ?_ 24 (.tmp 5) ?_ (w.heap.size + 1 + 1) ?_ 24 (wcs (c)) (0, 0) _ (E2.out.box (w.heap.size + 1 + 1) (c) (by simp)) Try.underlying24 ?_ (wc_info _) ?_); (rfl); (rfl); (rfl); (rfl)))
      clear kc
      generalize hs : a + b = s at *
      have HS := Lib.hid hs
      clear hs
      generalize w2.alloc (.cells (wcs s) 24) = w3 at *
      refine (div_yes a c w3 HA.out HC.out HZ.out).mono ?_
      rintro e w4 ⟨rfl, hb⟩
      have E4 := Lib.hid (((E2.out.below hb).new (a / c)).new (a % c))
      rw [World.size_alloc] at E4
      clear hb E2
      generalize a / c = x at *
      generalize a % c = x' at *
      go_wp2_with (first
    | ((with_reducible refine wpList_store_row (o := ⟨none, .store 24 (.tmp 10) _, _, _, _, _⟩) ?_ 24 (.tmp 10) (.tmp 46) ?_ w4.heap.size (wcs (x)) ?_ ?_ 24 _ (heap_alloc2_old w4 _ _) (wc_info _) ?_ (wc_one _) ?_); (rfl); (rfl); (rfl); (rfl); (rw [wc_size]; rfl); rw [setRow_two1])
    | ((with_reducible refine wpList_store_row (o := ⟨none, .store 24 (.tmp 11) _, _, _, _, _⟩) ?_ 24 (.tmp 11) (.tmp 47) ?_ (w4.heap.size + 1) (wcs (x')) ?_ ?_ 24 _ (heap_alloc2_new w4 _ _) (wc_info _) ?_ (wc_one _) ?_); (rfl); (rfl); (rfl); (rfl); (rw [wc_size]; rfl); rw [setRow_two2])
    | ((with_reducible refine wpList_load_row (o := ⟨some 50, _, _, _, _, _⟩) ?_ 24 (.tmp 4) ?_ (w.heap.size + 1) ?_ 24 (wcs (b)) (0, 0) _ (E4.out.box (w.heap.size + 1) (b) (by simp)) Try.underlying24 ?_ (wc_info _) ?_); (rfl); (rfl); (rfl); (rfl))
    | ((with_reducible refine wpList_load_row (o := ⟨some 51, _, _, _, _, _⟩) ?_ 24 (.tmp 5) ?_ (w.heap.size + 1 + 1) ?_ 24 (wcs (c)) (0, 0) _ (E4.out.box (w.heap.size + 1 + 1) (c) (by simp)) Try.underlying24 ?_ (wc_info _) ?_); (rfl); (rfl); (rfl); (rfl)))
      generalize (w4.alloc (.cells (wcs x) 24)).alloc (.cells (wcs x') 24) = w5 at *
      refine (div_yes b c w5 HB.out HC.out HZ.out).mono ?_
      rintro e w6 ⟨rfl, hb⟩
      have E6 := Lib.hid (((E4.out.below hb).new (b / c)).new (b % c))
      rw [World.size_alloc] at E6
      clear hb E4
      generalize b / c = y at *
      generalize b % c = y' at *
      go_wp2_with (first
    | ((with_reducible refine wpList_store_row (o := ⟨none, .store 24 (.tmp 13) _, _, _, _, _⟩) ?_ 24 (.tmp 13) (.tmp 53) ?_ w6.heap.size (wcs (y)) ?_ ?_ 24 _ (heap_alloc2_old w6 _ _) (wc_info _) ?_ (wc_one _) ?_); (rfl); (rfl); (rfl); (rfl); (rw [wc_size]; rfl); rw [setRow_two1])
    | ((with_reducible refine wpList_store_row (o := ⟨none, .store 24 (.tmp 14) _, _, _, _, _⟩) ?_ 24 (.tmp 14) (.tmp 54) ?_ (w6.heap.size + 1) (wcs (y')) ?_ ?_ 24 _ (heap_alloc2_new w6 _ _) (wc_info _) ?_ (wc_one _) ?_); (rfl); (rfl); (rfl); (rfl); (rw [wc_size]; rfl); rw [setRow_two2])
    | ((with_reducible refine wpList_load_row (o := ⟨some 57, _, _, _, _, _⟩) ?_ 24 (.tmp 8) ?_ (w2.heap.size) ?_ 24 (wcs (s)) (0, 0) _ (E6.out.box (w2.heap.size) (s) (by simp)) Try.underlying24 ?_ (wc_info _) ?_); (rfl); (rfl); (rfl); (rfl))
    | ((with_reducible refine wpList_load_row (o := ⟨some 58, _, _, _, _, _⟩) ?_ 24 (.tmp 5) ?_ (w.heap.size + 1 + 1) ?_ 24 (wcs (c)) (0, 0) _ (E6.out.box (w.heap.size + 1 + 1) (c) (by simp)) Try.underlying24 ?_ (wc_info _) ?_); (rfl); (rfl); (rfl); (rfl)))
      generalize (w6.alloc (.cells (wcs y) 24)).alloc (.cells (wcs y') 24) = w7 at *
      refine (div_yes s c w7 HALL.out HC.out HZ.out).mono ?_
      rintro e w8 ⟨rfl, hb⟩
      have E8 := Lib.hid (((E6.out.below hb).new (s / c)).new (s % c))
      rw [World.size_alloc] at E8
      clear hb E6
      generalize s / c = z at *
      generalize s % c = z' at *
      go_wp2_with (first
    | ((with_reducible refine wpList_store_row (o := ⟨none, .store 24 (.tmp 16) _, _, _, _, _⟩) ?_ 24 (.tmp 16) (.tmp 60) ?_ w8.heap.size (wcs (z)) ?_ ?_ 24 _ (heap_alloc2_old w8 _ _) (wc_info _) ?_ (wc_one _) ?_); (rfl); (rfl); (rfl); (rfl); (rw [wc_size]; rfl); rw [setRow_two1])
    | ((with_reducible refine wpList_store_row (o := ⟨none, .store 24 (.tmp 17) _, _, _, _, _⟩) ?_ 24 (.tmp 17) (.tmp 61) ?_ (w8.heap.size + 1) (wcs (z')) ?_ ?_ 24 _ (heap_alloc2_new w8 _ _) (wc_info _) ?_ (wc_one _) ?_); (rfl); (rfl); (rfl); (rfl); (rw [wc_size]; rfl); rw [setRow_two2])
    | ((with_reducible refine wpList_load_row (o := ⟨some 64, _, _, _, _, _⟩) ?_ 24 (.tmp 10) ?_ (w4.heap.size) ?_ 24 (wcs (x)) (0, 0) _ (E8.out.box (w4.heap.size) (x) (by simp)) Try.underlying24 ?_ (wc_info _) ?_); (rfl); (rfl); (rfl); (rfl))
    | ((with_reducible refine wpList_load_row (o := ⟨some 65, _, _, _, _, _⟩) ?_ 24 (.tmp 13) ?_ (w6.heap.size) ?_ 24 (wcs (y)) (0, 0) _ (E8.out.box (w6.heap.size) (y) (by simp)) Try.underlying24 ?_ (wc_info _) ?_); (rfl); (rfl); (rfl); (rfl)))
      generalize (w8.alloc (.cells (wcs z) 24)).alloc (.cells (wcs z') 24) = w9 at *
      refine (add_any x y w9 HF.out.1 HF.out.2.1).mono ?_
      rintro e w10 ⟨rfl, hb⟩
      have hxy : decide (x + y < Big) = true := by simpa using HF.out.2.2.1
      rw [Nat.mod_eq_of_lt HF.out.2.2.1, hxy]
      clear hxy
      have E10 := Lib.hid ((E8.out.below hb).new (x + y))
      clear hb E8
      generalize x + y = t at *
      go_upto_region 9 with (first
    | ((with_reducible refine wpList_store_row (o := ⟨none, .store 24 (.tmp 19) _, _, _, _, _⟩) ?_ 24 (.tmp 19) (.tmp 67) ?_ w10.heap.size (wcs (t)) ?_ ?_ 24 _ (heap_alloc_last w10 _) (wc_info _) ?_ (wc_one _) ?_); (rfl); (rfl); (rfl); (rfl); (rw [wc_size]; rfl); rw [World.setRow_alloc_new]))
      generalize w10.alloc (.cells (wcs t) 24) = w11 at *
      generalize w10.heap.size = g10 at *
      generalize w8.heap.size = g8 at *
      generalize w6.heap.size = g6 at *
      generalize w4.heap.size = g4 at *
      generalize w2.heap.size = g2 at *
      have EB := EnvB.start E10.out
      clear E10
      have hcs := fun u (h : EnvB w u [(g10, t), (g8 + 1, z'), (g8, z), (g6 + 1, y'), (g6, y), (g4 + 1, x'), (g4, x), (g2, s), (w.heap.size + 1 + 1, c), (w.heap.size + 1, b), (w.heap.size, a)] w11.heap.size) => h.cells (g := g10) (n := t) (by simp)
      have MK := Lib.hid hcs
      clear hcs
      try rw [put_none]
      go_cut [21, 22] (fun s21 s22 wx => Hid (∃ g, s21 = .pointer (some ⟨g, 0, none⟩) ∧ s22 = .bool (decide (t + 1 < Big)) ∧ Row wx g 24 (wcs ((t + 1) % Big)) ∧ EnvB w wx [(g10, t), (g8 + 1, z'), (g8, z), (g6 + 1, y'), (g6, y), (g4 + 1, x'), (g4, x), (g2, s), (w.heap.size + 1 + 1, c), (w.heap.size + 1, b), (w.heap.size, a)] w11.heap.size))
      case first =>
        have ft := fold4 t
        go_region_held3 (fun u => u.cell? ⟨g10, 0, none⟩ = some (.int .u64 (W t 0)) ∧ u.cell? ⟨g10, 1, none⟩ = some (.int .u64 (W t 1)) ∧ u.cell? ⟨g10, 2, none⟩ = some (.int .u64 (W t 2)) ∧ u.cell? ⟨g10, 3, none⟩ = some (.int .u64 (W t 3))) ((refine MK.out _ ?_; repeat' (first | assumption | (with_reducible refine EnvB.drew ?_) | (with_reducible refine EnvB.alloc ?_ _) | (with_reducible refine EnvB.set ?_ ?_ _) | omega)))
          (first
            | (go_at_call 25; with_reducible refine (of_1 _).mono ?_; rintro e w' ⟨rfl, rfl⟩)
            | (go_at_call 11; rw [fold_1]; with_reducible refine (add_any t 1 _ HF.out.2.2.1 (by decide)).mono ?_; rintro e w' ⟨rfl, hb⟩; have E' : EnvB w w' [(g10, t), (g8 + 1, z'), (g8, z), (g6 + 1, y'), (g6, y), (g4 + 1, x'), (g4, x), (g2, s), (w.heap.size + 1 + 1, c), (w.heap.size + 1, b), (w.heap.size, a)] w11.heap.size := EnvB.below (by repeat' (first | assumption | (with_reducible refine EnvB.drew ?_) | (with_reducible refine EnvB.alloc ?_ _) | (with_reducible refine EnvB.set ?_ ?_ _) | omega)) hb; have sz := hb.size; (try simp only [World.size_alloc] at sz); (try (have y1 : Row w' w11.heap.size 24 #[.int .u64 0, .int .u64 0, .int .u64 0, .int .u64 0] := (by first | exact Row.kept ((Row.new w11 24 _).alloc _) hb | exact Row.kept ((Row.new w11 24 _).alloc _).drew hb); obtain ⟨m0, m1, m2, m3, n0, n1, n2, n3⟩ := row_zero y1; have Y1 := Lib.hid y1; clear y1)); (try (have y2 : Row w' (w11.heap.size + 1) 24 #[.int .u64 0, .int .u64 0, .int .u64 0, .int .u64 0] := (by first | exact Row.kept (Row.newAt (by simp) 24 _) hb | exact Row.kept (Row.newAt (by simp) 24 _).drew hb); obtain ⟨m0, m1, m2, m3, n0, n1, n2, n3⟩ := row_zero y2; have Y2 := Lib.hid y2; clear y2)); clear hb; rw [wc_cells ((t + 1) % Big)]))
        all_goals
          go_wp2_with fail
          go_meet
          refine ⟨_, rfl, rfl, ?_, ?_⟩
          · rw [wc_cells ((t + 1) % Big)]
            repeat' (first | exact Y1.out | exact Y2.out | (with_reducible refine Row.drew ?_) | (with_reducible exact Row.new _ _ _) | (with_reducible refine Row.put4 (a0 := .int .u64 0) (a1 := .int .u64 0) (a2 := .int .u64 0) (a3 := .int .u64 0) ?_) | (with_reducible refine Row.farAt ?_ (by omega) _) | (with_reducible refine Row.alloc ?_ _) | omega)
          · repeat' (first | assumption | (with_reducible refine EnvB.drew ?_) | (with_reducible refine EnvB.alloc ?_ _) | (with_reducible refine EnvB.set ?_ ?_ _) | omega)
      case rest =>
        obtain ⟨g12, rfl, rfl, hrow, hEB⟩ := hcut.out
        have E12 := Lib.hid (Env.cons hEB.env hrow)
        clear hcut hrow hEB MK EB
        go_wp2_with (first
    | ((with_reducible refine wpList_load_guarded (o := ⟨some 77, _, _, _, _, _⟩) ?_ 24 (.tmp 19) ?_ (g10) ?_ 24 (wcs (t)) (0, 0) _ (E12.out.box (g10) (t) (by simp)) Try.underlying24 ?_ (wc_info _) ?_); (rfl); (rfl); (rfl); (rfl))
    | ((with_reducible refine wpList_load_guarded (o := ⟨some 78, _, _, _, _, _⟩) ?_ 24 (.tmp 16) ?_ (g8) ?_ 24 (wcs (z)) (0, 0) _ (E12.out.box (g8) (z) (by simp)) Try.underlying24 ?_ (wc_info _) ?_); (rfl); (rfl); (rfl); (rfl)))
        refine (cmp_any t z wc HF.out.2.2.1 HF.out.2.2.2.1).mono ?_
        rintro e w13 ⟨rfl, hb⟩
        have E13 := Lib.hid (E12.out.below hb)
        have hcmp := HF.out.2.2.2.2.1
        clear hb E12
        by_cases hone : t + 1 < Big
        · have hone' : decide (t + 1 < Big) = true := by simpa using hone
          have hcmp2 := HF.out.2.2.2.2.2 hone
          have HO := Lib.hid hone
          rw [Nat.mod_eq_of_lt hone] at E13
          rw [hone']
          clear hone hone'
          go_wp2_with (first
    | ((with_reducible refine wpList_load_guarded (o := ⟨some 86, _, _, _, _, _⟩) ?_ 24 (.tmp 16) ?_ (g8) ?_ 24 (wcs (z)) (0, 0) _ (E13.out.box (g8) (z) (by simp)) Try.underlying24 ?_ (wc_info _) ?_); (rfl); (rfl); (rfl); (rfl))
    | ((with_reducible refine wpList_load_guarded (o := ⟨some 87, _, _, _, _, _⟩) ?_ 24 (.tmp 21) ?_ (g12) ?_ 24 (wcs (t + 1)) (0, 0) _ (E13.out.box (g12) (t + 1) (by simp)) Try.underlying24 ?_ (wc_info _) ?_); (rfl); (rfl); (rfl); (rfl)))
          refine (cmp_any z (t + 1) w13 HF.out.2.2.2.1 HO.out).mono ?_
          rintro e w14 ⟨rfl, hb⟩
          have E14 := Lib.hid (E13.out.below hb)
          clear hb E13
          go_wp2
          go_ret
          exact ⟨rfl, E14.out.bel⟩
        · have hone' : decide (t + 1 < Big) = false := by simpa using hone
          rw [hone']
          clear hone hone'
          go_wp2
          go_ret
          exact ⟨rfl, E13.out.bel⟩
  · have hall' : decide (a + b < Big) = false := by simpa using hall
    rw [hall']
    clear hall hall'
    go_wp2_with (first
    | ((with_reducible refine wpList_store_row (o := ⟨none, .store 24 (.tmp 8) _, _, _, _, _⟩) ?_ 24 (.tmp 8) (.tmp 28) ?_ w2.heap.size (wcs ((a + b) % Big)) ?_ ?_ 24 _ (heap_alloc_last w2 _) (wc_info _) ?_ (wc_one _) ?_); (rfl); (rfl); (rfl); (rfl); (rw [wc_size]; rfl); rw [World.setRow_alloc_new]))
    go_ret
    exact ⟨rfl, E2.out.bel⟩
end Go.Proofs.Ytmmhjjiighmliaa
