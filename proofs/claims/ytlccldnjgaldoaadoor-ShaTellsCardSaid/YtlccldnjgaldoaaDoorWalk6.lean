/- The walk of Sum: the sum of bytes. -/
import Derived.Test.YtlccldnjgaldoaaDoorWalk5
import Derived.WalkKit
import Derived.ProofKit
import Derived.Handy
import Derived.Deep.MidRow
import Derived.Laws.CopyOwn
import Derived.Laws.MakeOwn
import Derived.Deep.WholeRow
import Derived.Deep.Cut
import Derived.Deep.QuietTactic
import Derived.BigQuiet
import Derived.StillTailTactics
import Derived.Lib.Hide
namespace Go.Proofs.YtlccldnjgaldoaaDoor
open Go.RowKit





/-- What the two tables of the package hold. -/
structure Tables (w : World) : Prop where
  words : ∀ i, i < 8 → w.cell? ⟨0, i, none⟩ = some (.int .u32 (firstW.get i))
  rounds : ∀ i, i < 64 → w.cell? ⟨1, i, none⟩ = some (.int .u32 (roundNs.getD i 0))
  there : 1 < w.heap.size
theorem Tables.below {w w' : World} (h : Tables w) (hb : Below w.heap.size w w') : Tables w' :=
  ⟨fun i hi => (hb.cell (p := ⟨0, i, none⟩) (by have := h.there; simp; omega)).trans (h.words i hi), fun i hi => (hb.cell (p := ⟨1, i, none⟩) h.there).trans (h.rounds i hi), Nat.lt_of_lt_of_le h.there hb.size⟩
theorem padL_range (xs : List Int) (m : Nat) (hn : xs.length ≤ 70368744177664) (hr : ∀ x ∈ xs, 0 ≤ x ∧ x ≤ 255) : ∀ x ∈ padL xs m, 0 ≤ x ∧ x ≤ 255 := by
  intro x hx
  simp only [padL, List.mem_append, List.mem_replicate, lenL, List.mem_cons, List.not_mem_nil, or_false] at hx
  rcases hx with ((hx | hx) | hx) | hx
  · exact hr x hx
  · omega
  · omega
  · omega
theorem getD_range (l : List Int) (h : ∀ x ∈ l, 0 ≤ x ∧ x ≤ 255) (i : Nat) : 0 ≤ l.getD i 0 ∧ l.getD i 0 ≤ 255 := by
  by_cases hi : i < l.length
  · have e : l.getD i 0 = l[i] := by simp [List.getD, List.getElem?_eq_getElem hi]
    rw [e]
    exact h _ (List.getElem_mem hi)
  · have e : l.getD i 0 = 0 := by simp [List.getD, List.getElem?_eq_none (by omega : l.length ≤ i)]
    rw [e]
    omega
def sumL (xs : List Int) : List Int := idPre (sumK (padL xs ((xs.length + 72) / 64 * 64)) ((xs.length + 72) / 64)) 8
set_option maxHeartbeats 4000000 in
theorem sum_any (A : Option Addr) (n c : Nat) (xs : List Int) (w : World) (hl : xs.length = n) (hn : n ≤ 70368744177664) (hx : Bytes w w.heap.size A xs) (hr : ∀ x ∈ xs, 0 ≤ x ∧ x ≤ 255) (ht : Tables w) :
    Calls Tryd.prog 12 #[.slice A n c] w fun e w' => e = .returned (.agg (arrB 32 (sumL xs))) ∧ Below w.heap.size w w' := by
  have HL := Lib.hid hl
  have hsum : Hid (sumL xs = idPre (sumK (padL xs ((n + 72) / 64 * 64)) ((n + 72) / 64)) 8) := by show _ = _; rw [← hl]; rfl
  have HP := Lib.hid (padL_range xs ((n + 72) / 64 * 64) (by omega) hr)
  have HQ := Lib.hid (padL_len xs ((n + 72) / 64 * 64) (by omega))
  have HB0 := Lib.hid (((Below.refl w.heap.size w).alloc (Nat.le_refl _) (.cells (arrB 32 []) 26)))
  have HX := Lib.hid (hx.below HB0.out)
  clear hx hr hl
  go_enter Tryd.func12, Tryd.ntmps12
  go_wp2_with fail
  refine (pad_any A n c xs _ HL.out hn (fun h => ?_)).mono ?_
  · obtain ⟨ad, e, hlt, hc⟩ := HX.out h
    exact ⟨ad, e, by simp; omega, hc⟩
  rintro e w1 ⟨rfl, r1, b1⟩
  rw [World.size_alloc] at r1 b1
  have q1 : (n + 72) / 64 ≤ 1099511627778 := by omega
  generalize padL xs ((n + 72) / 64 * 64) = pp at *
  generalize (n + 72) / 64 = q at *
  have bw : Below w.heap.size w w1 := HB0.out.trans (b1.mono (by omega))
  have t1 := ht.below bw
  have rz : Hid (Row w1 w.heap.size 26 (arrB 32 [])) := (Row.new w 26 _).below b1 (by omega)
  have c0 := t1.words 0 (by omega)
  have c1 := t1.words 1 (by omega)
  have c2 := t1.words 2 (by omega)
  have c3 := t1.words 3 (by omega)
  have c4 := t1.words 4 (by omega)
  have c5 := t1.words 5 (by omega)
  have c6 := t1.words 6 (by omega)
  have c7 := t1.words 7 (by omega)
  have R1 := Lib.hid r1
  clear r1 HB0 HX
  go_wp2_with fail
  clear c0 c1 c2 c3 c4 c5 c6 c7
  have s1 := R1.out.lt
  go_loopw [12] (fun i u => ∃ k : Nat, k ≤ q ∧ i = .int .i64 k ∧ Below w.heap.size w u ∧ Hid (Row u w.heap.size 26 (arrB 32 []) ∧ Row u (w.heap.size + 1) 5 (arrB (q * 64) pp) ∧ Row u w1.heap.size 40 (sumK pp k).cells)) (fun i _ => q - (intOf i).toNat)
  case atStart => exact ⟨0, by omega, rfl, bw.alloc (by omega) _, rz.out.alloc _, R1.out.alloc _, Row.new w1 40 _⟩
  case round =>
    obtain ⟨k, hk, rfl, hbl, hrows⟩ := hrel
    obtain ⟨r0, r1, r2⟩ := hrows.out
    by_cases hlt : k < q
    · have hst : Hid (sumK pp (k + 1) = mixS (sumK pp k) (pp.drop (64 * k))) := rfl
      generalize sumK pp k = st at *
      have e0 : wr.cell? ⟨w1.heap.size, 0, none⟩ = some (.int .u32 st.a) := r2.cell 0
      have e1 : wr.cell? ⟨w1.heap.size, 1, none⟩ = some (.int .u32 st.b) := r2.cell 1
      have e2 : wr.cell? ⟨w1.heap.size, 2, none⟩ = some (.int .u32 st.c) := r2.cell 2
      have e3 : wr.cell? ⟨w1.heap.size, 3, none⟩ = some (.int .u32 st.d) := r2.cell 3
      have e4 : wr.cell? ⟨w1.heap.size, 4, none⟩ = some (.int .u32 st.e) := r2.cell 4
      have e5 : wr.cell? ⟨w1.heap.size, 5, none⟩ = some (.int .u32 st.f) := r2.cell 5
      have e6 : wr.cell? ⟨w1.heap.size, 6, none⟩ = some (.int .u32 st.g) := r2.cell 6
      have e7 : wr.cell? ⟨w1.heap.size, 7, none⟩ = some (.int .u32 st.h) := r2.cell 7
      have R0 : Hid (Row wr.drew w.heap.size 26 (arrB 32 [])) := r0
      have R1' : Hid (Row wr.drew (w.heap.size + 1) 5 (arrB (q * 64) pp)) := r1
      have R2 : Hid (Row wr.drew w1.heap.size 40 st.cells) := r2
      clear r0 r1 r2 hrows
      have hl2 : (k : Int) < (q : Int) := by omega
      have a1 : IntKind.i64.wrap ((k : Int) * 64) = (k : Int) * 64 := IntWalk.i64_in _ (by omega)
      have a2 : IntKind.i64.wrap ((k : Int) + 1) = (k : Int) + 1 := IntWalk.i64_in _ (by omega)
      have a3 : IntKind.i64.wrap (((k : Int) + 1) * 64) = ((k : Int) + 1) * 64 := IntWalk.i64_in _ (by omega)
      have a4 : (((k : Int) + 1) * 64).toNat = (k + 1) * 64 := by omega
      have a5 : ((k : Int) * 64).toNat = k * 64 := by omega
      have a6 : 0 ≤ (k : Int) * 64 := by omega
      have a7 : (k : Int) * 64 ≤ ((k : Int) + 1) * 64 := by omega
      have a8 : ((k : Int) + 1) * 64 ≤ (q : Int) * 64 := by omega
      have a9 : ¬ (q * 64 = k * 64) := by omega
      have aa : (k + 1) * 64 - k * 64 = 64 := by omega
      have ab : 0 ≤ ((k : Int) + 1) * 64 := by omega
      have ac : (k : Int) + 1 ≤ (q : Int) := by omega
      have ad : (k : Int) ≤ (k : Int) + 1 := by omega
      go_wp2_with fail
      go_still_tail 8, (by kernel_rfl)
      clear a1 a2 a3 a4 a5 a6 a7 a8 a9 aa ab ac ad
      change wpList _ _ _ _ _ wr.drew
      go_wp2_with fail
      change Calls Tryd.prog 18 #[Value.agg st.cells, Value.slice (some ⟨w.heap.size + 1, k * 64, none⟩) 64 (q * 64 - k * 64)] _ _
      refine (mix_any st (w.heap.size + 1) (k * 64) 64 (q * 64 - k * 64) (pp.drop (64 * k)) _ (by omega) (by omega) (by omega) R1'.out.lt ?_ ?_ ?_ ?_).mono ?_
      · intro i hi
        rw [R1'.out.cell, arrB_get _ _ _ (by rw [HQ.out]; omega) (by omega)]
        simp [List.getD, List.getElem?_drop, Nat.mul_comm]
      · exact getD_range _ (fun x hx => HP.out x (List.mem_of_mem_drop hx))
      · exact Nat.lt_of_lt_of_le ht.there hbl.size
      · exact (ht.below hbl).rounds
      rintro e w3 ⟨rfl, hb3⟩
      have Q2 : Hid (w3.heap[w1.heap.size]? = some (.cells st.cells 40 (0, 0))) := R2.out.below hb3 R2.out.lt
      have Q1 : Hid (Row w3 (w.heap.size + 1) 5 (arrB (q * 64) pp)) := R1'.out.below hb3 R1'.out.lt
      have Q0 : Hid (Row w3 w.heap.size 26 (arrB 32 [])) := R0.out.below hb3 R0.out.lt
      have bl3 : Below w.heap.size w w3 := hbl.drew.trans (hb3.mono hbl.size)
      clear hb3 e0 e1 e2 e3 e4 e5 e6 e7
      generalize mixS st (pp.drop (64 * k)) = st2 at *
      go_wp2_with ((with_reducible refine wpList_store_row (o := ⟨none, .store 40 _ _, _, _, _, _⟩) ?_ 40 (.tmp 4) (.tmp 23) ?_ w1.heap.size st2.cells ?_ ?_ 40 st.cells Q2.out (info40 st2) ?_ st2.cells_one ?_); (rfl); (rfl); (rfl); (rfl); (rfl))
      go_roundw
      case rel =>
        refine ⟨k + 1, by omega, by go_num, below_setRow bl3 (by omega) _, Q0.out.setRowFar (by omega), Q1.out.setRowFar (by omega), ?_⟩
        rw [hst.out]
        exact Row.setRow Q2.out
      case measure => simp [intOf]; omega
    · obtain rfl : k = q := by omega
      have hfin : Hid (sumL xs = idPre (sumK pp k) 8) := hsum
      generalize sumK pp k = st at *
      have Z2 : Hid (wr.heap[w1.heap.size]? = some (.cells st.cells 40 (0, 0))) := r2
      have Z0 : Hid (Row wr w.heap.size 26 (arrB 32 [])) := r0
      clear r0 r1 r2 hrows
      go_wp2_with ((with_reducible refine wpList_load_row (o := ⟨some 25, _, _, _, _, _⟩) ?_ 40 (.tmp 4) ?_ w1.heap.size ?_ 40 st.cells (0, 0) _ Z2.out Tryd.underlying40 ?_ (info40 st) ?_); (rfl); (rfl); (rfl); (rfl))
      refine (id_any st wr).mono ?_
      rintro e w3 ⟨rfl, hb3⟩
      have hsz : Hid ((arrB 32 (idPre st 8)).size = 32 ∧ (arrB 32 []).size = (arrB 32 (idPre st 8)).size ∧ (arrB 32 (idPre st 8)).all (·.oneCell') = true) :=
        Lib.hid ⟨arrB_size _ _ (by rw [idPre_len]; omega), by rw [arrB_size 32 (idPre st 8) (by rw [idPre_len]; omega), arrB_size 32 [] (by simp)], arrB_one _ _⟩
      have Q0 : Hid (w3.heap[w.heap.size]? = some (.cells (arrB 32 []) 26 (0, 0))) := Z0.out.below hb3 Z0.out.lt
      have bl3 : Below w.heap.size w w3 := hbl.trans (hb3.mono hbl.size)
      clear hb3 Z0 Z2
      have HF : Hid (arrB 32 (sumL xs) = arrB 32 (idPre st 8)) := by show _ = _; rw [hfin.out]
      generalize arrB 32 (idPre st 8) = cs at *
      generalize arrB 32 [] = zs at *
      go_wp2_with (first
        | ((with_reducible refine wpList_store_row (o := ⟨none, .store 26 _ _, _, _, _, _⟩) ?_ 26 (.tmp 2) (.tmp 26) ?_ w.heap.size cs ?_ ?_ 26 zs Q0.out (info26 cs hsz.out.1) hsz.out.2.1 hsz.out.2.2 ?_); (rfl); (rfl); (rfl); (rfl))
        | ((with_reducible refine bodyPost_ret (v := .agg cs) ?_ ?_ ?_); (exact results_cell_row (p := 2) (ty := 26) Tryd.results12 _ _ w.heap.size 26 cs (0, 0) _ rfl (setRow_heap _ _ zs cs 26 (0, 0) Q0.out) Tryd.underlying26 rfl (info26 cs hsz.out.1)); (rfl)))
      exact ⟨by rw [HF.out], below_setRow bl3 (Nat.le_refl _) _⟩
end Go.Proofs.YtlccldnjgaldoaaDoor
