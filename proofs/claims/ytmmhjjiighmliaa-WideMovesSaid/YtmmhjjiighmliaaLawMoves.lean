/- The walk of the law WideMoves. -/
import Derived.Test.YtmmhjjiighmliaaAwake
import Derived.Deep.RegionHeld
namespace Go.Proofs.Ytmmhjjiighmliaa
open Go.RowKit
attribute [local go_sem ↓] Go.wp_at_zero Go.wp_at_succ

theorem moves_facts (a n m : Nat) (ha : a < Big) :
    a * 2 ^ n % Big * 2 ^ m % Big = a * 2 ^ (n + m) % Big ∧ a / 2 ^ n / 2 ^ m = a / 2 ^ (n + m) ∧ a * 2 ^ n % Big / 2 ^ n ≤ a ∧ a / 2 ^ n < Big ∧ a * 2 ^ n % Big / 2 ^ n < Big := by
  have h1 : a * 2 ^ n % Big / 2 ^ n ≤ a := by
    have := Nat.mod_le (a * 2 ^ n) Big
    exact Nat.le_trans (Nat.div_le_div_right this) (by rw [Nat.mul_div_cancel _ (Nat.two_pow_pos n)]; exact Nat.le_refl _)
  refine ⟨?_, ?_, h1, Nat.lt_of_le_of_lt (Nat.div_le_self _ _) ha, Nat.lt_of_le_of_lt h1 ha⟩
  · rw [Nat.mod_mul_mod, Nat.mul_assoc, ← Nat.pow_add]
  · rw [Nat.div_div_eq_div_mul, ← Nat.pow_add]
theorem up_n (m : Nat) (n : Int) (w : World) (hm : m < Big) (h0 : 0 ≤ n) (h1 : n ≤ 300 + 300) :
    Calls Try.prog 15 #[.agg (wcs m), .int .i64 n] w fun e w' => e = .returned (.agg (wcs (m * 2 ^ n.toNat % Big))) ∧ Below w.heap.size w w' := by
  obtain ⟨k, rfl⟩ := Int.eq_ofNat_of_zero_le h0
  exact up_any m k w hm (by omega)
theorem down_n (m : Nat) (n : Int) (w : World) (hm : m < Big) (h0 : 0 ≤ n) (h1 : n ≤ 300 + 300) :
    Calls Try.prog 17 #[.agg (wcs m), .int .i64 n] w fun e w' => e = .returned (.agg (wcs (m / 2 ^ n.toNat))) ∧ Below w.heap.size w w' := by
  obtain ⟨k, rfl⟩ := Int.eq_ofNat_of_zero_le h0
  exact down_any m k w hm (by omega)
theorem pick_out (n m : Int) (h : ¬ (0 ≤ n ∧ 0 ≤ m ∧ n ≤ 300 ∧ m ≤ 300)) : n < 0 ∨ (0 ≤ n ∧ m < 0) ∨ (0 ≤ n ∧ 0 ≤ m ∧ 300 < n) ∨ (0 ≤ n ∧ 0 ≤ m ∧ n ≤ 300 ∧ 300 < m) := by omega

set_option maxHeartbeats 8000000 in
set_option maxRecDepth 100000 in
theorem law_moves (a : Nat) (n m : Int) (w : World) (ha : a < Big) :
    Calls Try.prog 7 #[.agg (wcs a), .int .i64 n, .int .i64 m] w fun e w' => e = .returned (.bool true) ∧ Below w.heap.size w w' := by
  have HA := Lib.hid ha
  clear ha
  have E0 := Lib.hid ((Env.start w).new a)
  go_enter Try.func7, Try.ntmps7
  go_wp2_with fail
  generalize w.alloc (.cells (wcs a) 24) = w0 at *
  refine (awake_any w0).mono ?_
  rintro e w1 ⟨rfl, hb⟩
  have E1 := Lib.hid (E0.out.below hb)
  clear hb E0
  go_wp2_with (first
    | ((with_reducible refine wpList_load_row (o := ⟨some 13, _, _, _, _, _⟩) ?_ 24 (.tmp 3) ?_ (w.heap.size) ?_ 24 (wcs (a)) (0, 0) _ (E1.out.box (w.heap.size) (a) (by simp)) Try.underlying24 ?_ (wc_info _) ?_); (rfl); (rfl); (rfl); (rfl))
    | ((with_reducible refine wpList_load_row (o := ⟨some 14, _, _, _, _, _⟩) ?_ 24 (.tmp 3) ?_ (w.heap.size) ?_ 24 (wcs (a)) (0, 0) _ (E1.out.box (w.heap.size) (a) (by simp)) Try.underlying24 ?_ (wc_info _) ?_); (rfl); (rfl); (rfl); (rfl)))
  refine (add_any a a w1 HA.out HA.out).mono ?_
  rintro e w2 ⟨rfl, hb⟩
  rw [show a + a = 2 * a by omega]
  have HT : Hid (2 * a % Big < Big) := Nat.mod_lt _ Big_pos
  generalize htw : 2 * a % Big = tw at *
  have HTW := Lib.hid htw
  clear htw
  have E2 := Lib.hid ((E1.out.below hb).new tw)
  clear hb E1
  have kq : ∀ u : World, (binOp .neq 24 (.agg (wcs tw)) (.agg (wcs tw))).run Try.prog u = .ok (.bool false) u := fun u => by
    have h := neq_wide tw tw HT.out HT.out u
    rwa [show (!eqN tw tw) = false by simp [eqN]] at h
  have ke : ∀ u : World, (binOp .eql 24 (.agg (wcs tw)) (.agg (wcs tw))).run Try.prog u = .ok (.bool true) u := fun u => by
    have h := eql_wide tw tw HT.out HT.out u
    rwa [show eqN tw tw = true by simp [eqN]] at h
  have fa := fold4 a
  have ft := fold4 tw
  go_upto_region 3 with (first
    | ((with_reducible refine wpList_store_row (o := ⟨none, .store 24 (.tmp 8) _, _, _, _, _⟩) ?_ 24 (.tmp 8) (.tmp 16) ?_ w2.heap.size (wcs (tw)) ?_ ?_ 24 _ (heap_alloc_last w2 _) (wc_info _) ?_ (wc_one _) ?_); (rfl); (rfl); (rfl); (rfl); (rw [wc_size]; rfl); rw [World.setRow_alloc_new]))
  generalize w2.alloc (.cells (wcs tw) 24) = w3 at *
  generalize w2.heap.size = g2 at *
  have hcs := fun u (h : Env w u [(g2, tw), (w.heap.size, a)]) => (⟨h.cell (g := w.heap.size) (n := a) (by simp) 0 (by decide), h.cell (g := w.heap.size) (n := a) (by simp) 1 (by decide), h.cell (g := w.heap.size) (n := a) (by simp) 2 (by decide), h.cell (g := w.heap.size) (n := a) (by simp) 3 (by decide), h.cell (g := g2) (n := tw) (by simp) 0 (by decide), h.cell (g := g2) (n := tw) (by simp) 1 (by decide), h.cell (g := g2) (n := tw) (by simp) 2 (by decide), h.cell (g := g2) (n := tw) (by simp) 3 (by decide)⟩ : u.cell? ⟨w.heap.size, 0, none⟩ = some (.int .u64 (W a 0)) ∧ u.cell? ⟨w.heap.size, 1, none⟩ = some (.int .u64 (W a 1)) ∧ u.cell? ⟨w.heap.size, 2, none⟩ = some (.int .u64 (W a 2)) ∧ u.cell? ⟨w.heap.size, 3, none⟩ = some (.int .u64 (W a 3)) ∧ u.cell? ⟨g2, 0, none⟩ = some (.int .u64 (W tw 0)) ∧ u.cell? ⟨g2, 1, none⟩ = some (.int .u64 (W tw 1)) ∧ u.cell? ⟨g2, 2, none⟩ = some (.int .u64 (W tw 2)) ∧ u.cell? ⟨g2, 3, none⟩ = some (.int .u64 (W tw 3)))
  have MK := Lib.hid hcs
  clear hcs
  have Ex := E2.out
  have Exd := E2.out.drew
  clear E2
  try rw [put_none]
  by_cases hin : 0 ≤ n ∧ 0 ≤ m ∧ n ≤ 300 ∧ m ≤ 300
  · obtain ⟨n0, m0, n3, m3⟩ := hin
    have t1 : decide (n < 0) = false := by simpa using n0
    have t2 : decide (m < 0) = false := by simpa using m0
    have t3 : decide ((300 : Int) < n) = false := by simpa using n3
    have t4 : decide ((300 : Int) < m) = false := by simpa using m3
    go_region_held3 (fun u => u.cell? ⟨w.heap.size, 0, none⟩ = some (.int .u64 (W a 0)) ∧ u.cell? ⟨w.heap.size, 1, none⟩ = some (.int .u64 (W a 1)) ∧ u.cell? ⟨w.heap.size, 2, none⟩ = some (.int .u64 (W a 2)) ∧ u.cell? ⟨w.heap.size, 3, none⟩ = some (.int .u64 (W a 3)) ∧ u.cell? ⟨g2, 0, none⟩ = some (.int .u64 (W tw 0)) ∧ u.cell? ⟨g2, 1, none⟩ = some (.int .u64 (W tw 1)) ∧ u.cell? ⟨g2, 2, none⟩ = some (.int .u64 (W tw 2)) ∧ u.cell? ⟨g2, 3, none⟩ = some (.int .u64 (W tw 3))) (exact MK.out _ (by assumption))
      (first
        | (go_at_call 15; with_reducible refine (up_one a _ HA.out).mono ?_; rintro e w' ⟨rfl, hb⟩; rw [HTW.out]; have E' := Env.below (by assumption) hb; clear hb))
    clear Ex Exd kq ke fa ft t1 t2 t3 t4 MK HTW HT
    have E3 := Lib.hid E'
    clear E'
    have e1 : (n + m).toNat = n.toNat + m.toNat := by omega
    have HF := Lib.hid (moves_facts a n.toNat m.toNat HA.out)
    rw [← e1] at HF
    clear e1
    have HU1 : Hid (a * 2 ^ n.toNat % Big < Big) := Nat.mod_lt _ Big_pos
    have HU2 : Hid (a * 2 ^ (n + m).toNat % Big < Big) := Nat.mod_lt _ Big_pos
    have HD2 : Hid (a / 2 ^ (n + m).toNat < Big) := Nat.lt_of_le_of_lt (Nat.div_le_self _ _) HA.out
    generalize w' = w4 at *
    go_wp2_with (first
    | ((with_reducible refine wpList_load_row (o := ⟨some 49, _, _, _, _, _⟩) ?_ 24 (.tmp 3) ?_ (w.heap.size) ?_ 24 (wcs (a)) (0, 0) _ (E3.out.box (w.heap.size) (a) (by simp)) Try.underlying24 ?_ (wc_info _) ?_); (rfl); (rfl); (rfl); (rfl)))
    refine (up_n a n w4 HA.out n0 (by omega)).mono ?_
    rintro e w5 ⟨rfl, hb⟩
    have E5 := Lib.hid (E3.out.below hb)
    clear hb E3
    go_wp2_with fail
    refine (down_n _ n w5 HU1.out n0 (by omega)).mono ?_
    rintro e w6 ⟨rfl, hb⟩
    generalize hlow : a * 2 ^ n.toNat % Big / 2 ^ n.toNat = low at *
    have HLOW := Lib.hid hlow
    clear hlow
    have E6 := Lib.hid ((E5.out.below hb).new low)
    clear hb E5
    generalize hu1 : a * 2 ^ n.toNat % Big = u1 at *
    generalize hd1 : a / 2 ^ n.toNat = d1 at *
    generalize hu2 : a * 2 ^ (n + m).toNat % Big = u2 at *
    generalize hd2 : a / 2 ^ (n + m).toNat = d2 at *
    have HU1E := Lib.hid hu1
    have HD1E := Lib.hid hd1
    have HU2E := Lib.hid hu2
    have HD2E := Lib.hid hd2
    clear hu1 hd1 hu2 hd2
    go_upto_region 6 with (first
    | ((with_reducible refine wpList_store_row (o := ⟨none, .store 24 (.tmp 10) _, _, _, _, _⟩) ?_ 24 (.tmp 10) (.tmp 53) ?_ w6.heap.size (wcs (low)) ?_ ?_ 24 _ (heap_alloc_last w6 _) (wc_info _) ?_ (wc_one _) ?_); (rfl); (rfl); (rfl); (rfl); (rw [wc_size]; rfl); rw [World.setRow_alloc_new]))
    generalize w6.alloc (.cells (wcs low) 24) = w7 at *
    generalize w6.heap.size = g6 at *
    try rw [put_none]
    have kU : ∀ u : World, (binOp .eql 24 (.agg (wcs u2)) (.agg (wcs u2))).run Try.prog u = .ok (.bool true) u := fun u => by
      have h := eql_wide u2 u2 HU2.out HU2.out u
      rwa [show eqN u2 u2 = true by simp [eqN]] at h
    have kD : ∀ u : World, (binOp .eql 24 (.agg (wcs d2)) (.agg (wcs d2))).run Try.prog u = .ok (.bool true) u := fun u => by
      have h := eql_wide d2 d2 HD2.out HD2.out u
      rwa [show eqN d2 d2 = true by simp [eqN]] at h
    have hcmp : cmpI low a ≤ 0 := by
      have := HF.out.2.2.1
      unfold cmpI; split
      · omega
      · split <;> omega
    have hcmp' : decide (cmpI low a ≤ 0) = true := by simpa using hcmp
    have hw : IntKind.i64.wrap (n + m) = n + m := by rw [IntWalk.i64_in _ (by omega)]
    have fa := fold4 a
    have fl := fold4 low
    have hcs := fun u (h : Env w u [(g6, low), (g2, tw), (w.heap.size, a)]) => (⟨h.cell (g := w.heap.size) (n := a) (by simp) 0 (by decide), h.cell (g := w.heap.size) (n := a) (by simp) 1 (by decide), h.cell (g := w.heap.size) (n := a) (by simp) 2 (by decide), h.cell (g := w.heap.size) (n := a) (by simp) 3 (by decide), h.cell (g := g6) (n := low) (by simp) 0 (by decide), h.cell (g := g6) (n := low) (by simp) 1 (by decide), h.cell (g := g6) (n := low) (by simp) 2 (by decide), h.cell (g := g6) (n := low) (by simp) 3 (by decide)⟩ : u.cell? ⟨w.heap.size, 0, none⟩ = some (.int .u64 (W a 0)) ∧ u.cell? ⟨w.heap.size, 1, none⟩ = some (.int .u64 (W a 1)) ∧ u.cell? ⟨w.heap.size, 2, none⟩ = some (.int .u64 (W a 2)) ∧ u.cell? ⟨w.heap.size, 3, none⟩ = some (.int .u64 (W a 3)) ∧ u.cell? ⟨g6, 0, none⟩ = some (.int .u64 (W low 0)) ∧ u.cell? ⟨g6, 1, none⟩ = some (.int .u64 (W low 1)) ∧ u.cell? ⟨g6, 2, none⟩ = some (.int .u64 (W low 2)) ∧ u.cell? ⟨g6, 3, none⟩ = some (.int .u64 (W low 3)))
    have MK := Lib.hid hcs
    clear hcs
    have Ex := E6.out
    have Exd := E6.out.drew
    clear E6
    have B1 : Hid (n ≤ 300 + 300) := by show _ ≤ _; omega
    have B2 : Hid (m ≤ 300 + 300) := by show _ ≤ _; omega
    have B3 : Hid (n + m ≤ 300 + 300) := by show _ ≤ _; omega
    have B4 : Hid (0 ≤ n + m) := by show _ ≤ _; omega
    go_region_held3 (fun u => u.cell? ⟨w.heap.size, 0, none⟩ = some (.int .u64 (W a 0)) ∧ u.cell? ⟨w.heap.size, 1, none⟩ = some (.int .u64 (W a 1)) ∧ u.cell? ⟨w.heap.size, 2, none⟩ = some (.int .u64 (W a 2)) ∧ u.cell? ⟨w.heap.size, 3, none⟩ = some (.int .u64 (W a 3)) ∧ u.cell? ⟨g6, 0, none⟩ = some (.int .u64 (W low 0)) ∧ u.cell? ⟨g6, 1, none⟩ = some (.int .u64 (W low 1)) ∧ u.cell? ⟨g6, 2, none⟩ = some (.int .u64 (W low 2)) ∧ u.cell? ⟨g6, 3, none⟩ = some (.int .u64 (W low 3))) (exact MK.out _ (by assumption))
      (first
        | (go_at_call 15; (with_reducible refine (up_n a n _ HA.out n0 B1.out).mono ?_); rintro e w' ⟨rfl, hb⟩; rw [HU1E.out]; have E' := Env.below (by assumption) hb; clear hb)
        | (go_at_call 15; (with_reducible refine (up_n u1 m _ HU1.out m0 B2.out).mono ?_); rintro e w' ⟨rfl, hb⟩; rw [HF.out.1]; have E' := Env.below (by assumption) hb; clear hb)
        | (go_at_call 15; (with_reducible refine (up_n a (n + m) _ HA.out B4.out B3.out).mono ?_); rintro e w' ⟨rfl, hb⟩; rw [HU2E.out]; have E' := Env.below (by assumption) hb; clear hb)
        | (go_at_call 17; (with_reducible refine (down_n a n _ HA.out n0 B1.out).mono ?_); rintro e w' ⟨rfl, hb⟩; rw [HD1E.out]; have E' := Env.below (by assumption) hb; clear hb)
        | (go_at_call 17; (with_reducible refine (down_n d1 m _ HF.out.2.2.2.1 m0 B2.out).mono ?_); rintro e w' ⟨rfl, hb⟩; rw [HF.out.2.1]; have E' := Env.below (by assumption) hb; clear hb)
        | (go_at_call 17; (with_reducible refine (down_n a (n + m) _ HA.out B4.out B3.out).mono ?_); rintro e w' ⟨rfl, hb⟩; rw [HD2E.out]; have E' := Env.below (by assumption) hb; clear hb)
        | (go_at_call 23; (with_reducible refine (cmp_any low a _ HF.out.2.2.2.2 HA.out).mono ?_); rintro e w' ⟨rfl, hb⟩; have E' := Env.below (by assumption) hb; clear hb))
    all_goals
      clear kU kD hcmp hcmp' hw fa fl
      go_wp2
      go_ret
      exact ⟨rfl, Env.bel (by assumption)⟩
  · rcases pick_out n m hin with h | ⟨h1, h2⟩ | ⟨h1, h2, h3⟩ | ⟨h1, h2, h3, h4⟩
    · have t1 : decide (n < 0) = true := by simpa using h
      clear hin
      first
      | (go_region_held (fun u => u.cell? ⟨w.heap.size, 0, none⟩ = some (.int .u64 (W a 0)) ∧ u.cell? ⟨w.heap.size, 1, none⟩ = some (.int .u64 (W a 1)) ∧ u.cell? ⟨w.heap.size, 2, none⟩ = some (.int .u64 (W a 2)) ∧ u.cell? ⟨w.heap.size, 3, none⟩ = some (.int .u64 (W a 3)) ∧ u.cell? ⟨g2, 0, none⟩ = some (.int .u64 (W tw 0)) ∧ u.cell? ⟨g2, 1, none⟩ = some (.int .u64 (W tw 1)) ∧ u.cell? ⟨g2, 2, none⟩ = some (.int .u64 (W tw 2)) ∧ u.cell? ⟨g2, 3, none⟩ = some (.int .u64 (W tw 3))) (exact MK.out _ (by assumption))
        (first
          | (go_at_call 15; (with_reducible refine (up_one a _ HA.out).mono ?_); rintro e w' ⟨rfl, hb⟩; rw [HTW.out]; have E' := Env.below (by assumption) hb; clear hb)))
      | fail
      have E'd := E'.drew
      go_upto_region 4 with fail
      go_region_held3 (fun u => u.cell? ⟨w.heap.size, 0, none⟩ = some (.int .u64 (W a 0)) ∧ u.cell? ⟨w.heap.size, 1, none⟩ = some (.int .u64 (W a 1)) ∧ u.cell? ⟨w.heap.size, 2, none⟩ = some (.int .u64 (W a 2)) ∧ u.cell? ⟨w.heap.size, 3, none⟩ = some (.int .u64 (W a 3)) ∧ u.cell? ⟨g2, 0, none⟩ = some (.int .u64 (W tw 0)) ∧ u.cell? ⟨g2, 1, none⟩ = some (.int .u64 (W tw 1)) ∧ u.cell? ⟨g2, 2, none⟩ = some (.int .u64 (W tw 2)) ∧ u.cell? ⟨g2, 3, none⟩ = some (.int .u64 (W tw 3))) (exact MK.out _ (by assumption))
        (first
          | (go_at_call 15; (with_reducible refine (up_one a _ HA.out).mono ?_); rintro e w' ⟨rfl, hb⟩; rw [HTW.out]; have E' := Env.below (by assumption) hb; clear hb))
      clear kq ke fa ft
      go_wp2
      go_ret
      exact ⟨rfl, Env.bel (by assumption)⟩
    · have t1 : decide (n < 0) = false := by simpa using h1
      have t2 : decide (m < 0) = true := by simpa using h2
      clear hin
      first
      | (go_region_held (fun u => u.cell? ⟨w.heap.size, 0, none⟩ = some (.int .u64 (W a 0)) ∧ u.cell? ⟨w.heap.size, 1, none⟩ = some (.int .u64 (W a 1)) ∧ u.cell? ⟨w.heap.size, 2, none⟩ = some (.int .u64 (W a 2)) ∧ u.cell? ⟨w.heap.size, 3, none⟩ = some (.int .u64 (W a 3)) ∧ u.cell? ⟨g2, 0, none⟩ = some (.int .u64 (W tw 0)) ∧ u.cell? ⟨g2, 1, none⟩ = some (.int .u64 (W tw 1)) ∧ u.cell? ⟨g2, 2, none⟩ = some (.int .u64 (W tw 2)) ∧ u.cell? ⟨g2, 3, none⟩ = some (.int .u64 (W tw 3))) (exact MK.out _ (by assumption))
        (first
          | (go_at_call 15; (with_reducible refine (up_one a _ HA.out).mono ?_); rintro e w' ⟨rfl, hb⟩; rw [HTW.out]; have E' := Env.below (by assumption) hb; clear hb)))
      | fail
      have E'd := E'.drew
      go_upto_region 4 with fail
      go_region_held3 (fun u => u.cell? ⟨w.heap.size, 0, none⟩ = some (.int .u64 (W a 0)) ∧ u.cell? ⟨w.heap.size, 1, none⟩ = some (.int .u64 (W a 1)) ∧ u.cell? ⟨w.heap.size, 2, none⟩ = some (.int .u64 (W a 2)) ∧ u.cell? ⟨w.heap.size, 3, none⟩ = some (.int .u64 (W a 3)) ∧ u.cell? ⟨g2, 0, none⟩ = some (.int .u64 (W tw 0)) ∧ u.cell? ⟨g2, 1, none⟩ = some (.int .u64 (W tw 1)) ∧ u.cell? ⟨g2, 2, none⟩ = some (.int .u64 (W tw 2)) ∧ u.cell? ⟨g2, 3, none⟩ = some (.int .u64 (W tw 3))) (exact MK.out _ (by assumption))
        (first
          | (go_at_call 15; (with_reducible refine (up_one a _ HA.out).mono ?_); rintro e w' ⟨rfl, hb⟩; rw [HTW.out]; have E' := Env.below (by assumption) hb; clear hb))
      clear kq ke fa ft
      go_wp2
      go_ret
      exact ⟨rfl, Env.bel (by assumption)⟩
    · have t1 : decide (n < 0) = false := by simpa using h1
      have t2 : decide (m < 0) = false := by simpa using h2
      have t3 : decide ((300 : Int) < n) = true := by simpa using h3
      clear hin
      first
      | (go_region_held (fun u => u.cell? ⟨w.heap.size, 0, none⟩ = some (.int .u64 (W a 0)) ∧ u.cell? ⟨w.heap.size, 1, none⟩ = some (.int .u64 (W a 1)) ∧ u.cell? ⟨w.heap.size, 2, none⟩ = some (.int .u64 (W a 2)) ∧ u.cell? ⟨w.heap.size, 3, none⟩ = some (.int .u64 (W a 3)) ∧ u.cell? ⟨g2, 0, none⟩ = some (.int .u64 (W tw 0)) ∧ u.cell? ⟨g2, 1, none⟩ = some (.int .u64 (W tw 1)) ∧ u.cell? ⟨g2, 2, none⟩ = some (.int .u64 (W tw 2)) ∧ u.cell? ⟨g2, 3, none⟩ = some (.int .u64 (W tw 3))) (exact MK.out _ (by assumption))
        (first
          | (go_at_call 15; (with_reducible refine (up_one a _ HA.out).mono ?_); rintro e w' ⟨rfl, hb⟩; rw [HTW.out]; have E' := Env.below (by assumption) hb; clear hb)))
      | fail
      have E'd := E'.drew
      go_upto_region 4 with fail
      go_region_held3 (fun u => u.cell? ⟨w.heap.size, 0, none⟩ = some (.int .u64 (W a 0)) ∧ u.cell? ⟨w.heap.size, 1, none⟩ = some (.int .u64 (W a 1)) ∧ u.cell? ⟨w.heap.size, 2, none⟩ = some (.int .u64 (W a 2)) ∧ u.cell? ⟨w.heap.size, 3, none⟩ = some (.int .u64 (W a 3)) ∧ u.cell? ⟨g2, 0, none⟩ = some (.int .u64 (W tw 0)) ∧ u.cell? ⟨g2, 1, none⟩ = some (.int .u64 (W tw 1)) ∧ u.cell? ⟨g2, 2, none⟩ = some (.int .u64 (W tw 2)) ∧ u.cell? ⟨g2, 3, none⟩ = some (.int .u64 (W tw 3))) (exact MK.out _ (by assumption))
        (first
          | (go_at_call 15; (with_reducible refine (up_one a _ HA.out).mono ?_); rintro e w' ⟨rfl, hb⟩; rw [HTW.out]; have E' := Env.below (by assumption) hb; clear hb))
      clear kq ke fa ft
      go_wp2
      go_ret
      exact ⟨rfl, Env.bel (by assumption)⟩
    · have t1 : decide (n < 0) = false := by simpa using h1
      have t2 : decide (m < 0) = false := by simpa using h2
      have t3 : decide ((300 : Int) < n) = false := by simpa using h3
      have t4 : decide ((300 : Int) < m) = true := by simpa using h4
      clear hin
      first
      | (go_region_held (fun u => u.cell? ⟨w.heap.size, 0, none⟩ = some (.int .u64 (W a 0)) ∧ u.cell? ⟨w.heap.size, 1, none⟩ = some (.int .u64 (W a 1)) ∧ u.cell? ⟨w.heap.size, 2, none⟩ = some (.int .u64 (W a 2)) ∧ u.cell? ⟨w.heap.size, 3, none⟩ = some (.int .u64 (W a 3)) ∧ u.cell? ⟨g2, 0, none⟩ = some (.int .u64 (W tw 0)) ∧ u.cell? ⟨g2, 1, none⟩ = some (.int .u64 (W tw 1)) ∧ u.cell? ⟨g2, 2, none⟩ = some (.int .u64 (W tw 2)) ∧ u.cell? ⟨g2, 3, none⟩ = some (.int .u64 (W tw 3))) (exact MK.out _ (by assumption))
        (first
          | (go_at_call 15; (with_reducible refine (up_one a _ HA.out).mono ?_); rintro e w' ⟨rfl, hb⟩; rw [HTW.out]; have E' := Env.below (by assumption) hb; clear hb)))
      | fail
      have E'd := E'.drew
      go_upto_region 4 with fail
      go_region_held3 (fun u => u.cell? ⟨w.heap.size, 0, none⟩ = some (.int .u64 (W a 0)) ∧ u.cell? ⟨w.heap.size, 1, none⟩ = some (.int .u64 (W a 1)) ∧ u.cell? ⟨w.heap.size, 2, none⟩ = some (.int .u64 (W a 2)) ∧ u.cell? ⟨w.heap.size, 3, none⟩ = some (.int .u64 (W a 3)) ∧ u.cell? ⟨g2, 0, none⟩ = some (.int .u64 (W tw 0)) ∧ u.cell? ⟨g2, 1, none⟩ = some (.int .u64 (W tw 1)) ∧ u.cell? ⟨g2, 2, none⟩ = some (.int .u64 (W tw 2)) ∧ u.cell? ⟨g2, 3, none⟩ = some (.int .u64 (W tw 3))) (exact MK.out _ (by assumption))
        (first
          | (go_at_call 15; (with_reducible refine (up_one a _ HA.out).mono ?_); rintro e w' ⟨rfl, hb⟩; rw [HTW.out]; have E' := Env.below (by assumption) hb; clear hb))
      clear kq ke fa ft
      go_wp2
      go_ret
      exact ⟨rfl, Env.bel (by assumption)⟩
end Go.Proofs.Ytmmhjjiighmliaa
