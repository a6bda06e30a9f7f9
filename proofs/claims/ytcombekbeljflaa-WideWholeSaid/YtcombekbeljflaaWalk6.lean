/- The walk of Div: a round, and all of them. -/
import Derived.Test.YtcombekbeljflaaWalk5
import Derived.BigRegion
namespace Go.Proofs.Ytcombekbeljflaa
open Go.RowKit
attribute [local go_sem ↓] Go.wp_at_zero Go.wp_at_succ

theorem up_one (m : Nat) (w : World) (hm : m < Big) :
    Calls Try.prog 15 #[.agg (wcs m), .int .i64 1] w fun e w' => e = .returned (.agg (wcs (2 * m % Big))) ∧ Below w.heap.size w w' := by
  have h := up_any m 1 w hm (by decide)
  rw [show m * 2 ^ 1 = 2 * m by omega] at h
  exact h
theorem bit_top (m : Nat) (w : World) :
    Calls Try.prog 34 #[.agg (wcs m), .int .i64 255] w fun e w' => e = .returned (.int .u64 (bitN m 255)) ∧ w' = w.alloc (.cells (wcs m) 24) := bit_n m 255 w (by decide)
theorem bit_at (m k : Nat) (w : World) (hk : k < 256) :
    Calls Try.prog 34 #[.agg #[.int .u64 (W m 0), .int .u64 (W m 1), .int .u64 (W m 2), .int .u64 (W m 3)], .int .i64 (255 - (k : Int))] w fun e w' => e = .returned (.int .u64 (bitN m (255 - k))) ∧ w' = w.alloc (.cells #[.int .u64 (W m 0), .int .u64 (W m 1), .int .u64 (W m 2), .int .u64 (W m 3)] 24) := by
  have h := bit_n m (255 - k) w (by omega)
  rw [wc_cells, show ((255 - k : Nat) : Int) = 255 - (k : Int) by omega] at h
  exact h

theorem div_cases (a b k l c l1 : Nat) (hlb : l < b) (hb : b < Big) (hc : bitN l 255 = c) (hl1 : 2 * l % Big = l1) : l1 + bitN a (255 - k) < Big ∧
    ((c = 1 ∧ ¬ b ≤ l1 + bitN a (255 - k) ∧ b ≤ 2 * l + bitN a (255 - k) ∧ (l1 + bitN a (255 - k) + (Big - b)) % Big = 2 * l + bitN a (255 - k) - b) ∨
     (c = 0 ∧ b ≤ l1 + bitN a (255 - k) ∧ b ≤ 2 * l + bitN a (255 - k) ∧ (l1 + bitN a (255 - k) + (Big - b)) % Big = 2 * l + bitN a (255 - k) - b) ∨
     (c = 0 ∧ ¬ b ≤ l1 + bitN a (255 - k) ∧ 2 * l + bitN a (255 - k) < b ∧ l1 + bitN a (255 - k) = 2 * l + bitN a (255 - k))) := by
  have he := bitN_lt a (255 - k)
  generalize bitN a (255 - k) = e at *
  unfold bitN at hc
  rw [show 2 ^ 255 = 57896044618658097711785492504343953926634992332820282019728792003956564819968 from rfl] at hc
  unfold Big at *
  by_cases h : l < 57896044618658097711785492504343953926634992332820282019728792003956564819968
  · have hc0 : c = 0 := by omega
    by_cases h2 : b ≤ l1 + e
    · exact ⟨by omega, .inr (.inl ⟨hc0, h2, by omega, by omega⟩)⟩
    · exact ⟨by omega, .inr (.inr ⟨hc0, h2, by omega, by omega⟩)⟩
  · exact ⟨by omega, .inl ⟨by omega, by omega, by omega, by omega⟩⟩
theorem put_none (a : Act) (v : Value) : a.put none v = a := rfl
set_option maxHeartbeats 8000000 in
set_option maxRecDepth 100000 in
theorem div_yes (a b : Nat) (w : World) (ha : a < Big) (hb : b < Big) (hb0 : 0 < b) :
    Calls Try.prog 27 #[.agg (wcs a), .agg (wcs b)] w fun e w' => e = .returned (.tuple #[.agg (wcs (a / b)), .agg (wcs (a % b)), .bool true]) ∧ Below w.heap.size w w' := by
  have HA := Lib.hid ha
  have HB := Lib.hid hb
  have HB0 := Lib.hid hb0
  have heq := eql_zero b hb
  have hz : eqN b 0 = false := by simp [eqN]; omega
  rw [hz] at heq
  clear ha hb hb0 hz
  have R1 : Hid (((((w.alloc (.cells (wcs a) 24)).alloc (.cells (wcs b) 24)).alloc (.cells (wcs 0) 24)).alloc (.cells (wcs 0) 24)).heap[w.heap.size + 1]? = some (.cells (wcs b) 24 (0, 0))) := ((Row.newAt (by simp) 24 _).alloc _).alloc _
  go_enter Try.func27, Try.ntmps27
  go_wp2_with ((with_reducible refine wpList_load_row (o := ⟨some 13, _, _, _, _, _⟩) ?_ 24 (.tmp 3) ?_ (w.heap.size + 1) ?_ 24 (wcs b) (0, 0) _ ?_ Try.underlying24 ?_ (wc_info _) ?_); (rfl); (rfl); (rfl); (exact R1.out); (rfl))
  clear heq R1
  go_loopw [18] (fun i u => ∃ k : Nat, k ≤ 256 ∧ i = .int .i64 k ∧ Hid (DivAt w u w.heap.size a b (topN a k / b) (topN a k % b))) (fun i _ => 256 - (intOf i).toNat)
  case atStart =>
    refine ⟨0, by omega, rfl, ?_⟩
    show DivAt _ _ _ _ _ _ _
    rw [top_zero a HA.out, Nat.zero_div, Nat.zero_mod]
    exact ⟨((((((Row.new w 24 _).alloc _).alloc _).alloc _).alloc _).alloc _), (((((Row.newAt (by simp) 24 _).alloc _).alloc _).alloc _).alloc _), ((((Row.newAt (by simp) 24 _).alloc _).alloc _).alloc _), (((Row.newAt (by simp) 24 _).alloc _).alloc _), ((Row.newAt (by simp) 24 _).alloc _), (Row.newAt (by simp) 24 _), by simp, by go_grown⟩
  case round =>
    obtain ⟨k, hk, rfl, K0⟩ := hrel
    by_cases hlt : k < 256
    · have hk0 : (0 : Int) ≤ (k : Int) := by omega
      have hlti : (k : Int) < 256 := by omega
      have HD := Lib.hid (div_round a b k HB0.out HB.out _ _ rfl rfl hlt)
      have HLB := Lib.hid (Nat.mod_lt (topN a k) HB0.out)
      have HQ := Lib.hid (Nat.lt_of_le_of_lt (Nat.div_le_self (topN a k) b) (top_lt a k HA.out hk))
      generalize topN a k / b = q at *
      generalize topN a k % b = l at *
      go_wp2_with ((with_reducible refine wpList_load_row (o := ⟨some 21, _, _, _, _, _⟩) ?_ 24 (.tmp 8) ?_ (w.heap.size + 1 + 1 + 1 + 1 + 1) ?_ 24 (wcs l) (0, 0) _ K0.out.l Try.underlying24 ?_ (wc_info _) ?_); (rfl); (rfl); (rfl); (rfl))
      refine (bit_top l wr).mono ?_
      rintro e w1 ⟨rfl, rfl⟩
      have K1 := Lib.hid (K0.out.alloc (.cells (wcs l) 24))
      clear K0
      generalize wr.alloc (.cells (wcs l) 24) = w1 at *
      generalize hlost : bitN l 255 = c at *
      have HC := Lib.hid hlost
      clear hlost
      go_wp2_with ((with_reducible refine wpList_load_row (o := ⟨some 24, _, _, _, _, _⟩) ?_ 24 (.tmp 8) ?_ (w.heap.size + 1 + 1 + 1 + 1 + 1) ?_ 24 (wcs l) (0, 0) _ K1.out.l Try.underlying24 ?_ (wc_info _) ?_); (rfl); (rfl); (rfl); (rfl))
      refine (up_one l w1 (by have := HLB.out; have := HB.out; omega)).mono ?_
      rintro e w2 ⟨rfl, hbel⟩
      have K2 := Lib.hid (K1.out.below hbel)
      clear K1 hbel
      have hl1 : Hid (2 * l % Big < Big) := Nat.mod_lt _ Big_pos
      have hl2 : Hid (2 * l % Big % 2 = 0) := by show _ = _; unfold Big; omega
      generalize hl' : 2 * l % Big = l1 at *
      have HL1 := Lib.hid hl'
      clear hl'
      have K3 : Hid (DivAt w (w2.setRow (w.heap.size + 1 + 1 + 1 + 1 + 1) (wcs l1)) w.heap.size a b q l1) := K2.out.setL
      have KL : Hid (w2.heap[w.heap.size + 1 + 1 + 1 + 1 + 1]? = some (.cells (wcs l) 24 (0, 0))) := K2.out.l
      clear K2
      go_upto_region 9 with ((with_reducible refine wpList_store_row (o := ⟨none, .store 24 _ _, _, _, _, _⟩) ?_ 24 (.tmp 8) (.tmp 25) ?_ (w.heap.size + 1 + 1 + 1 + 1 + 1) (wcs l1) ?_ ?_ 24 (wcs l) KL.out (wc_info l1) (by rw [wc_size, wc_size]) (wc_one l1) ?_); (rfl); (rfl); (rfl); (rfl))
      clear KL
      generalize w2.setRow (w.heap.size + 1 + 1 + 1 + 1 + 1) (wcs l1) = w3 at *
      have ra : Row w3 w.heap.size 24 (wcs a) := K3.out.a
      have rl : Row w3 (w.heap.size + 1 + 1 + 1 + 1 + 1) 24 (wcs l1) := K3.out.l
      have c0 : w3.cell? ⟨w.heap.size, 0, none⟩ = some (.int .u64 (W a 0)) := (ra.cell 0).trans (wc_get a 0 (by decide))
      have c1 : w3.cell? ⟨w.heap.size, 1, none⟩ = some (.int .u64 (W a 1)) := (ra.cell 1).trans (wc_get a 1 (by decide))
      have c2 : w3.cell? ⟨w.heap.size, 2, none⟩ = some (.int .u64 (W a 2)) := (ra.cell 2).trans (wc_get a 2 (by decide))
      have c3 : w3.cell? ⟨w.heap.size, 3, none⟩ = some (.int .u64 (W a 3)) := (ra.cell 3).trans (wc_get a 3 (by decide))
      have d0 : w3.cell? ⟨w.heap.size + 1 + 1 + 1 + 1 + 1, 0, none⟩ = some (.int .u64 (W l1 0)) := (rl.cell 0).trans (wc_get l1 0 (by decide))
      have f0 : w3.frozen? ⟨w.heap.size + 1 + 1 + 1 + 1 + 1, 0, none⟩ = false := rl.frozen 0
      have s5 : w.heap.size + 1 + 1 + 1 + 1 + 1 < w3.heap.size := K3.out.lt
      have s4 : w.heap.size + 1 + 1 + 1 + 1 < w3.heap.size := by omega
      have s0 : w.heap.size < w3.heap.size := by omega
      have dw : IntKind.i64.wrap (255 - (k : Int)) = 255 - (k : Int) := by rw [IntWalk.i64_in _ (by omega)]
      clear ra rl
      rw [put_none]
      go_cut [] (fun wx => Hid (DivAt w wx w.heap.size a b q (l1 + bitN a (255 - k))))
      case first =>
        go_region_law (first | (go_simp; go_at_call 34; refine (bit_at a k _ hlt).mono ?_; rintro e w' ⟨rfl, rfl⟩))
        all_goals (go_wp2_with fail; go_meet; exact ((K3.out.bitL hl1.out hl2.out (bitN_lt _ _)).alloc _).drew)
      case rest =>
        have K4 := hcut
        clear hcut c0 c1 c2 c3 d0 f0 s5 s4 s0 dw K3
        have HDC := Lib.hid (div_cases a b k l c l1 HLB.out HB.out HC.out HL1.out)
        clear HC HL1 hl1 hl2
        generalize bitN a (255 - k) = e at *
        generalize hv : l1 + e = v at *
        have HV := Lib.hid hv
        clear hv
        have hv1 : Hid (v < Big) := HDC.out.1
        have hq1 : Hid (2 * q < Big) := by
          show _ < _
          have h := HQ.out
          rw [Big_eq]
          have : 2 ^ (k + 1) ≤ 2 ^ 256 := Nat.pow_le_pow_right (by omega) (by omega)
          rw [Nat.pow_succ] at this
          omega
        go_wp2_with ((with_reducible refine wpList_load_row (o := ⟨some 34, _, _, _, _, _⟩) ?_ 24 (.tmp 7) ?_ (w.heap.size + 1 + 1 + 1 + 1) ?_ 24 (wcs q) (0, 0) _ K4.out.q Try.underlying24 ?_ (wc_info _) ?_); (rfl); (rfl); (rfl); (rfl))
        refine (up_one q wc (by have := hq1.out; omega)).mono ?_
        rintro e' w5 ⟨rfl, hbel⟩
        rw [Nat.mod_eq_of_lt hq1.out]
        have K5 := Lib.hid (K4.out.below hbel)
        have K6 : Hid (DivAt w (w5.setRow (w.heap.size + 1 + 1 + 1 + 1) (wcs (2 * q))) w.heap.size a b (2 * q) v) := K5.out.setQ
        have KQ : Hid (w5.heap[w.heap.size + 1 + 1 + 1 + 1]? = some (.cells (wcs q) 24 (0, 0))) := K5.out.q
        clear hbel K5 K4
        go_wp2_with (first
          | ((with_reducible refine wpList_store_row (o := ⟨none, .store 24 _ _, _, _, _, _⟩) ?_ 24 (.tmp 7) (.tmp 35) ?_ (w.heap.size + 1 + 1 + 1 + 1) (wcs (2 * q)) ?_ ?_ 24 (wcs q) KQ.out (wc_info _) (by rw [wc_size, wc_size]) (wc_one _) ?_); (rfl); (rfl); (rfl); (rfl))
          | ((with_reducible refine wpList_load_row (o := ⟨some 37, _, _, _, _, _⟩) ?_ 24 (.tmp 8) ?_ (w.heap.size + 1 + 1 + 1 + 1 + 1) ?_ 24 (wcs v) (0, 0) _ K6.out.l Try.underlying24 ?_ (wc_info _) ?_); (rfl); (rfl); (rfl); (rfl))
          | ((with_reducible refine wpList_load_row (o := ⟨some 38, _, _, _, _, _⟩) ?_ 24 (.tmp 3) ?_ (w.heap.size + 1) ?_ 24 (wcs b) (0, 0) _ K6.out.b Try.underlying24 ?_ (wc_info _) ?_); (rfl); (rfl); (rfl); (rfl)))
        clear KQ
        generalize w5.setRow (w.heap.size + 1 + 1 + 1 + 1) (wcs (2 * q)) = w6 at *
        refine (sub_any v b w6 hv1.out HB.out).mono ?_
        rintro e' w7 ⟨rfl, hbel⟩
        have K7 := Lib.hid (K6.out.below hbel)
        clear hbel K6 HLB HQ HV
        rcases HDC.out.2 with ⟨hc, hle, hbv, hmod⟩ | ⟨hc, hle, hbv, hmod⟩ | ⟨hc, hle, hbv, hmod⟩
        · have hcb : ((c : Int) == 1) = true := by rw [hc]; rfl
          have hle' : decide (b ≤ v) = false := by simpa using hle
          have hnew : Hid (topN a (k + 1) / b = 2 * q + 1 ∧ topN a (k + 1) % b = (v + (Big - b)) % Big) := by
            show _ ∧ _
            rw [hmod]
            exact HD.out.1 hbv
          rw [hcb, hle']
          clear hcb hle' hmod hbv hle hc HD HDC
          have hsz := Lib.hid (wc_size ((v + (Big - b)) % Big))
          have hon := Lib.hid (wc_one ((v + (Big - b)) % Big))
          have hin := Lib.hid (wc_info ((v + (Big - b)) % Big))
          have K8 : Hid (DivAt w ((w7.alloc (.cells (wcs ((v + (Big - b)) % Big)) 24)).setRow (w.heap.size + 1 + 1 + 1 + 1 + 1) (wcs ((v + (Big - b)) % Big))) w.heap.size a b (2 * q) ((v + (Big - b)) % Big)) := (K7.out.alloc _).setL
          have KL : Hid ((w7.alloc (.cells (wcs ((v + (Big - b)) % Big)) 24)).heap[w.heap.size + 1 + 1 + 1 + 1 + 1]? = some (.cells (wcs v) 24 (0, 0))) := (K7.out.alloc _).l
          clear K7
          generalize (v + (Big - b)) % Big = r at *
          go_upto_region 14 with (first
            | ((with_reducible refine wpList_store_row (o := ⟨none, .store 24 (.tmp 11) _, _, _, _, _⟩) ?_ 24 (.tmp 11) (.tmp 40) ?_ w7.heap.size (wcs r) ?_ ?_ 24 _ (heap_alloc_last w7 _) hin.out ?_ hon.out ?_); (rfl); (rfl); (rfl); (rfl); (rw [hsz.out]; rfl); rw [World.setRow_alloc_new])
            | ((with_reducible refine wpList_load_row (o := ⟨some 46, _, _, _, _, _⟩) ?_ 24 (.tmp 11) ?_ w7.heap.size ?_ 24 (wcs r) (0, 0) _ (heap_alloc_last w7 _) Try.underlying24 ?_ (wc_info _) ?_); (rfl); (rfl); (rfl); (rfl))
            | ((with_reducible refine wpList_store_row (o := ⟨none, .store 24 (.tmp 8) _, _, _, _, _⟩) ?_ 24 (.tmp 8) (.tmp 46) ?_ (w.heap.size + 1 + 1 + 1 + 1 + 1) (wcs r) ?_ ?_ 24 (wcs v) KL.out hin.out (by rw [wc_size, wc_size]) hon.out ?_); (rfl); (rfl); (rfl); (rfl)))
          clear KL hsz hon hin
          generalize (w7.alloc (.cells (wcs r) 24)).setRow (w.heap.size + 1 + 1 + 1 + 1 + 1) (wcs r) = w8 at *
          try rw [put_none]
          have rq : Row w8 (w.heap.size + 1 + 1 + 1 + 1) 24 (wcs (2 * q)) := K8.out.q
          have d0 : w8.cell? ⟨w.heap.size + 1 + 1 + 1 + 1, 0, none⟩ = some (.int .u64 (W (2 * q) 0)) := (rq.cell 0).trans (wc_get (2 * q) 0 (by decide))
          have f0 : w8.frozen? ⟨w.heap.size + 1 + 1 + 1 + 1, 0, none⟩ = false := rq.frozen 0
          clear rq
          have K9 := Lib.hid (K8.out.bitQ (c := 1) hq1.out (by omega) (by omega))
          clear K8
          go_wp2
          go_roundw
          case rel =>
            refine ⟨k + 1, by omega, by go_num, ?_⟩
            show DivAt _ _ _ _ _ _ _
            rw [hnew.out.1, hnew.out.2]
            exact K9.out
          case measure => simp [intOf]; omega
        · have hcb : ((c : Int) == 1) = false := by rw [hc]; rfl
          have hle' : decide (b ≤ v) = true := by simpa using hle
          have hnew : Hid (topN a (k + 1) / b = 2 * q + 1 ∧ topN a (k + 1) % b = (v + (Big - b)) % Big) := by
            show _ ∧ _
            rw [hmod]
            exact HD.out.1 hbv
          rw [hcb, hle']
          clear hcb hle' hmod hbv hle hc HD HDC
          have hsz := Lib.hid (wc_size ((v + (Big - b)) % Big))
          have hon := Lib.hid (wc_one ((v + (Big - b)) % Big))
          have hin := Lib.hid (wc_info ((v + (Big - b)) % Big))
          have K8 : Hid (DivAt w ((w7.alloc (.cells (wcs ((v + (Big - b)) % Big)) 24)).setRow (w.heap.size + 1 + 1 + 1 + 1 + 1) (wcs ((v + (Big - b)) % Big))) w.heap.size a b (2 * q) ((v + (Big - b)) % Big)) := (K7.out.alloc _).setL
          have KL : Hid ((w7.alloc (.cells (wcs ((v + (Big - b)) % Big)) 24)).heap[w.heap.size + 1 + 1 + 1 + 1 + 1]? = some (.cells (wcs v) 24 (0, 0))) := (K7.out.alloc _).l
          clear K7
          generalize (v + (Big - b)) % Big = r at *
          go_upto_region 14 with (first
            | ((with_reducible refine wpList_store_row (o := ⟨none, .store 24 (.tmp 11) _, _, _, _, _⟩) ?_ 24 (.tmp 11) (.tmp 40) ?_ w7.heap.size (wcs r) ?_ ?_ 24 _ (heap_alloc_last w7 _) hin.out ?_ hon.out ?_); (rfl); (rfl); (rfl); (rfl); (rw [hsz.out]; rfl); rw [World.setRow_alloc_new])
            | ((with_reducible refine wpList_load_row (o := ⟨some 46, _, _, _, _, _⟩) ?_ 24 (.tmp 11) ?_ w7.heap.size ?_ 24 (wcs r) (0, 0) _ (heap_alloc_last w7 _) Try.underlying24 ?_ (wc_info _) ?_); (rfl); (rfl); (rfl); (rfl))
            | ((with_reducible refine wpList_store_row (o := ⟨none, .store 24 (.tmp 8) _, _, _, _, _⟩) ?_ 24 (.tmp 8) (.tmp 46) ?_ (w.heap.size + 1 + 1 + 1 + 1 + 1) (wcs r) ?_ ?_ 24 (wcs v) KL.out hin.out (by rw [wc_size, wc_size]) hon.out ?_); (rfl); (rfl); (rfl); (rfl)))
          clear KL hsz hon hin
          generalize (w7.alloc (.cells (wcs r) 24)).setRow (w.heap.size + 1 + 1 + 1 + 1 + 1) (wcs r) = w8 at *
          try rw [put_none]
          have rq : Row w8 (w.heap.size + 1 + 1 + 1 + 1) 24 (wcs (2 * q)) := K8.out.q
          have d0 : w8.cell? ⟨w.heap.size + 1 + 1 + 1 + 1, 0, none⟩ = some (.int .u64 (W (2 * q) 0)) := (rq.cell 0).trans (wc_get (2 * q) 0 (by decide))
          have f0 : w8.frozen? ⟨w.heap.size + 1 + 1 + 1 + 1, 0, none⟩ = false := rq.frozen 0
          clear rq
          have K9 := Lib.hid (K8.out.bitQ (c := 1) hq1.out (by omega) (by omega))
          clear K8
          go_wp2
          go_roundw
          case rel =>
            refine ⟨k + 1, by omega, by go_num, ?_⟩
            show DivAt _ _ _ _ _ _ _
            rw [hnew.out.1, hnew.out.2]
            exact K9.out
          case measure => simp [intOf]; omega
        · have hcb : ((c : Int) == 1) = false := by rw [hc]; rfl
          have hle' : decide (b ≤ v) = false := by simpa using hle
          have hnew : Hid (topN a (k + 1) / b = 2 * q ∧ topN a (k + 1) % b = v) := by
            show _ ∧ _
            rw [hmod]
            exact HD.out.2 hbv
          rw [hcb, hle']
          clear hcb hle' hmod hbv hle hc HD HDC
          have hsz := Lib.hid (wc_size ((v + (Big - b)) % Big))
          have hon := Lib.hid (wc_one ((v + (Big - b)) % Big))
          have hin := Lib.hid (wc_info ((v + (Big - b)) % Big))
          have K8 := Lib.hid (K7.out.alloc (.cells (wcs ((v + (Big - b)) % Big)) 24))
          clear K7
          generalize (v + (Big - b)) % Big = r at *
          go_wp2_with ((with_reducible refine wpList_store_row (o := ⟨none, .store 24 (.tmp 11) _, _, _, _, _⟩) ?_ 24 (.tmp 11) (.tmp 40) ?_ w7.heap.size (wcs r) ?_ ?_ 24 _ (heap_alloc_last w7 _) hin.out ?_ hon.out ?_); (rfl); (rfl); (rfl); (rfl); (rw [hsz.out]; rfl); rw [World.setRow_alloc_new])
          go_roundw
          case rel =>
            refine ⟨k + 1, by omega, by go_num, ?_⟩
            show DivAt _ _ _ _ _ _ _
            rw [hnew.out.1, hnew.out.2]
            exact K8.out
          case measure => simp [intOf]; omega
    · obtain rfl : k = 256 := by omega
      have K : Hid (DivAt w wr w.heap.size a b (a / b) (a % b)) := by
        show DivAt _ _ _ _ _ _ _
        have h := K0.out
        rw [top_all] at h
        exact h
      clear K0
      have hbel := K.out.bel
      have eq1 := Lib.hid (wc_cells (a / b))
      have eq2 := Lib.hid (wc_cells (a % b))
      have rr : Row wr (w.heap.size + 1 + 1) 24 (wcs 0) := K.out.r
      have rs : Row wr (w.heap.size + 1 + 1 + 1) 24 (wcs 0) := K.out.s
      have rq : Row wr (w.heap.size + 1 + 1 + 1 + 1) 24 (wcs (a / b)) := K.out.q
      have rl : Row wr (w.heap.size + 1 + 1 + 1 + 1 + 1) 24 (wcs (a % b)) := K.out.l
      have q0 := (rq.cell 0).trans (wc_get (a / b) 0 (by decide))
      have l0 := (rl.cell 0).trans (wc_get (a % b) 0 (by decide))
      have r0 : wr.cell? ⟨w.heap.size + 1 + 1, 0, none⟩ = some (.int .u64 0) := (rr.cell 0).trans rfl
      have s0 : wr.cell? ⟨w.heap.size + 1 + 1 + 1, 0, none⟩ = some (.int .u64 0) := (rs.cell 0).trans rfl
      have fr0 := rr.frozen 0
      have fs0 := rs.frozen 0
      have q1 := (rq.cell 1).trans (wc_get (a / b) 1 (by decide))
      have l1 := (rl.cell 1).trans (wc_get (a % b) 1 (by decide))
      have r1 : wr.cell? ⟨w.heap.size + 1 + 1, 1, none⟩ = some (.int .u64 0) := (rr.cell 1).trans rfl
      have s1 : wr.cell? ⟨w.heap.size + 1 + 1 + 1, 1, none⟩ = some (.int .u64 0) := (rs.cell 1).trans rfl
      have fr1 := rr.frozen 1
      have fs1 := rs.frozen 1
      have q2 := (rq.cell 2).trans (wc_get (a / b) 2 (by decide))
      have l2 := (rl.cell 2).trans (wc_get (a % b) 2 (by decide))
      have r2 : wr.cell? ⟨w.heap.size + 1 + 1, 2, none⟩ = some (.int .u64 0) := (rr.cell 2).trans rfl
      have s2 : wr.cell? ⟨w.heap.size + 1 + 1 + 1, 2, none⟩ = some (.int .u64 0) := (rs.cell 2).trans rfl
      have fr2 := rr.frozen 2
      have fs2 := rs.frozen 2
      have q3 := (rq.cell 3).trans (wc_get (a / b) 3 (by decide))
      have l3 := (rl.cell 3).trans (wc_get (a % b) 3 (by decide))
      have r3 : wr.cell? ⟨w.heap.size + 1 + 1, 3, none⟩ = some (.int .u64 0) := (rr.cell 3).trans rfl
      have s3 : wr.cell? ⟨w.heap.size + 1 + 1 + 1, 3, none⟩ = some (.int .u64 0) := (rs.cell 3).trans rfl
      have fr3 := rr.frozen 3
      have fs3 := rs.frozen 3
      have RR := Lib.hid rr
      have RS := Lib.hid rs
      clear rr rs rq rl K
      generalize W (a / b) 0 = x0 at *
      generalize W (a / b) 1 = x1 at *
      generalize W (a / b) 2 = x2 at *
      generalize W (a / b) 3 = x3 at *
      generalize W (a % b) 0 = y0 at *
      generalize W (a % b) 1 = y1 at *
      generalize W (a % b) 2 = y2 at *
      generalize W (a % b) 3 = y3 at *
      go_wp2_with fail
      go_region
      have F1 := Lib.hid ((((((((RR.out.put 0 (.int .u64 x0)).put 1 (.int .u64 x1)).put 2 (.int .u64 x2)).put 3 (.int .u64 x3)).farAt (g' := w.heap.size + 1 + 1 + 1) (i := 0) (by omega) (.int .u64 y0)).farAt (g' := w.heap.size + 1 + 1 + 1) (i := 1) (by omega) (.int .u64 y1)).farAt (g' := w.heap.size + 1 + 1 + 1) (i := 2) (by omega) (.int .u64 y2)).farAt (g' := w.heap.size + 1 + 1 + 1) (i := 3) (by omega) (.int .u64 y3)).drew
      have F2 := Lib.hid ((((((((RS.out.farAt (g' := w.heap.size + 1 + 1) (i := 0) (by omega) (.int .u64 x0)).farAt (g' := w.heap.size + 1 + 1) (i := 1) (by omega) (.int .u64 x1)).farAt (g' := w.heap.size + 1 + 1) (i := 2) (by omega) (.int .u64 x2)).farAt (g' := w.heap.size + 1 + 1) (i := 3) (by omega) (.int .u64 x3)).put 0 (.int .u64 y0)).put 1 (.int .u64 y1)).put 2 (.int .u64 y2)).put 3 (.int .u64 y3)).drew
      clear q0 q1 q2 q3 l0 l1 l2 l3 r0 r1 r2 r3 s0 s1 s2 s3 fr0 fr1 fr2 fr3 fs0 fs1 fs2 fs3
      go_wp2_with ((with_reducible refine bodyPost_ret (v := .tuple #[.agg #[.int .u64 x0, .int .u64 x1, .int .u64 x2, .int .u64 x3], .agg #[.int .u64 y0, .int .u64 y1, .int .u64 y2, .int .u64 y3], .bool true]) ?_ ?_ ?_); (exact results_rows_slot (p := 4) (p' := 5) (q := 6) (ty := 24) Try.results27 _ _ (w.heap.size + 1 + 1) (w.heap.size + 1 + 1 + 1) 24 #[.int .u64 x0, .int .u64 x1, .int .u64 x2, .int .u64 x3] #[.int .u64 y0, .int .u64 y1, .int .u64 y2, .int .u64 y3] (0, 0) _ rfl rfl _ rfl F1.out F2.out Try.underlying24 rfl (infoW _ rfl) (infoW _ rfl)); (rfl))
      refine ⟨by rw [eq1.out, eq2.out], ?_⟩
      refine Below.drew ?_
      repeat (refine Below.setCell ?_ (by simp; omega) _)
      exact hbel
set_option maxHeartbeats 8000000 in
theorem div_no (a : Nat) (w : World) :
    Calls Try.prog 27 #[.agg (wcs a), .agg (wcs 0)] w fun e w' => e = .returned (.tuple #[.agg (wcs 0), .agg (wcs 0), .bool false]) ∧ Below w.heap.size w w' := by
  have heq := eql_zero 0 Big_pos
  rw [show eqN 0 0 = true from rfl] at heq
  have R1 : Hid (((((w.alloc (.cells (wcs a) 24)).alloc (.cells (wcs 0) 24)).alloc (.cells (wcs 0) 24)).alloc (.cells (wcs 0) 24)).heap[w.heap.size + 1]? = some (.cells (wcs 0) 24 (0, 0))) := ((Row.newAt (by simp) 24 _).alloc _).alloc _
  generalize hz : wcs 0 = z at *
  have HZ := Lib.hid hz
  have hi := Lib.hid (hz ▸ wc_info 0)
  clear hz
  go_enter Try.func27, Try.ntmps27
  go_wp2_with ((with_reducible refine wpList_load_row (o := ⟨some 13, _, _, _, _, _⟩) ?_ 24 (.tmp 3) ?_ (w.heap.size + 1) ?_ 24 z (0, 0) _ ?_ Try.underlying24 ?_ hi.out ?_); (rfl); (rfl); (rfl); (rw [← HZ.out] at R1 ⊢; exact R1.out); (rfl))
  go_returns
  exact ⟨by rw [← HZ.out]; rfl, by go_grown⟩
end Go.Proofs.Ytcombekbeljflaa
