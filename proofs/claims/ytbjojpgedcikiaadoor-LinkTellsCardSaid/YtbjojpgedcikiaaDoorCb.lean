/- Part of a proof. -/
import Derived.Test.YtbjojpgedcikiaaDoorCa
import Derived.WalkKit
import Derived.ProofKit
import Derived.Handy
import Derived.Deep.MidRow
import Derived.Laws.CopyOwn
import Derived.Laws.MakeOwn
import Derived.Deep.WholeRow
import Derived.Deep.Cut
import Derived.Deep.QuietTactic
import Derived.BigQuiet
import Derived.StillTailTactics
import Derived.Lib.Hide
import Derived.Test.YtbjojpgedcikiaaDoorCards
import Derived.Test.YtbjojpgedcikiaaDoorTie
import Derived.OpenShut
import Derived.ChangeOld
import Derived.Below
import Derived.Deep.DeepHandedRow
import Derived.Lib.LaidTab
import Derived.Maps.AppendAt
import Derived.Laws.BytesArg
import Derived.ChangeKeysEq
import Derived.Lib.SlBytesConst
import Derived.Laws.BitsAllLaws
import Derived.Deep.RegionHeld3
import Derived.Deep.RegionLaw
import Derived.Deep.RegionHeld
namespace Go.Proofs.YtbjojpgedcikiaaDoor
set_option maxRecDepth 8000
open Go.RowKit




/-- What bytes become: m bytes in all. -/
def padL (xs : List Int) (m : Nat) : List Int := xs ++ [128] ++ List.replicate (m - 9 - xs.length) 0 ++ lenL xs.length
theorem lenL_len (n : Int) : (lenL n).length = 8 := rfl
theorem padL_len (xs : List Int) (m : Nat) (h : xs.length + 9 ≤ m) : (padL xs m).length = m := by simp [padL, lenL_len]; omega
def listB (n : Nat) (l : List Int) : List Value := (l ++ List.replicate (n - l.length) 0).map u8v
theorem arrB_listB (n : Nat) (l : List Int) : arrB n l = (listB n l).toArray := rfl
theorem listB_len (n : Nat) (l : List Int) (h : l.length ≤ n) : (listB n l).length = n := by simp [listB]; omega
theorem splice_first (m : Nat) (xs : List Int) : splice (listB m []) 0 (xs.map u8v) = listB m xs := by
  simp [splice, listB, List.drop_replicate]
theorem splice_last (m : Nat) (xs : List Int) (h : xs.length + 9 ≤ m) : splice (listB m (xs ++ [128])) (m - 8) ((lenL xs.length).map u8v) = listB m (padL xs m) := by
  have e1 : m - 8 + (lenL xs.length).length = m := by rw [lenL_len]; omega
  have e2 : (listB m (xs ++ [128])).take (m - 8) = (xs ++ [128] ++ List.replicate (m - 9 - xs.length) 0).map u8v := by
    unfold listB
    rw [← List.map_take]
    congr 1
    rw [List.take_append]
    congr 1
    · exact List.take_of_length_le (by simp; omega)
    · rw [List.take_replicate]
      congr 1
      simp
      omega
  have e3 : (listB m (xs ++ [128])).drop m = [] := List.drop_eq_nil_of_le (by rw [listB_len _ _ (by simp; omega)]; omega)
  unfold splice
  rw [e2, List.length_map, e1, e3]
  simp [listB, padL, lenL_len]
  omega
theorem info36 (cs : Array Value) (h : cs.size = 8) : (Tryd.prog.info? 74).map (·.size) = some cs.size := by rw [h]; kernel_rfl
theorem info5s : (Tryd.prog.info? 5).map (·.size) = some 1 := by kernel_rfl
set_option maxRecDepth 20000 in
set_option maxHeartbeats 4000000 in
theorem pad_any (A : Option Addr) (n c : Nat) (xs : List Int) (w : World) (hl : xs.length = n) (hn : n ≤ 70368744177664) (hx : Bytes w w.heap.size A xs) :
    Calls Tryd.prog 39 #[.slice A n c] w fun e w' => e = .returned (.slice (some ⟨w.heap.size, 0, none⟩) ((n + 72) / 64 * 64) ((n + 72) / 64 * 64)) ∧ Row w' w.heap.size 5 (arrB ((n + 72) / 64 * 64) (padL xs ((n + 72) / 64 * 64))) ∧ Below w.heap.size w w' := by
  have HL := Lib.hid hl
  have HX := Lib.hid hx
  clear hl hx
  obtain ⟨m, hm'⟩ : ∃ m : Nat, (n + 72) / 64 * 64 = m := ⟨_, rfl⟩
  rw [hm']
  have hm : ((n : Int) + 1 + 8 + 64 - 1) / 64 * 64 = m := by omega
  have HM := Lib.hid hm
  have m1 : n + 9 ≤ m := by omega
  have m2 : m < n + 73 := by omega
  clear hm hm'
  go_enter Tryd.func39, Tryd.ntmps39
  go_wp2_with fail
  rw [HM.out, make_bytes m (by omega)]
  have H0 : Hid ((w.alloc (.cells (arrB m []) 5)).heap[w.heap.size]? = some (.cells (listB m []).toArray 5 (0, 0))) := Row.new w 5 (arrB m [])
  have HB : Hid (Below w.heap.size w (w.alloc (.cells (arrB m []) 5))) := Lib.hid ((Below.refl _ _).alloc (Nat.le_refl _) _)
  have HC : Hid (0 < (xs.map u8v).length → some (⟨w.heap.size, 0, none⟩ : Addr) = some ⟨w.heap.size, 0, none⟩ ∧ ∃ ad, A = some ad ∧ ∀ j v, (xs.map u8v)[j]? = some v → (w.alloc (.cells (arrB m []) 5)).cell? (ad.add j) = some v) := by
    intro hp
    obtain ⟨ad, e, _, hc⟩ := (HX.out.below HB.out) (by simpa using hp)
    exact ⟨rfl, ad, e, hc⟩
  go_wp2_with ((with_reducible refine wpList_copy_splice (o := ⟨some 20, _, _, _, _, _⟩) ?_ (.tmp 18) (.tmp 19) 38 38 ?_ 5 Tryd.underlying38 info5s _ A m m n c ?_ ?_ w.heap.size 0 (listB m []) 5 H0.out (xs.map u8v) ?_ HC.out ?_ ?_ w.heap.size w HB.out ?_ ?_); (rfl); (rfl); (rfl); (rfl); (rw [List.length_map, HL.out]; exact (Nat.min_eq_left (by omega)).symm); (rw [List.length_map, HL.out, listB_len m [] (by simp)]; omega); (intro v hv; obtain ⟨z, _, rfl⟩ := List.mem_map.1 hv; rfl); (exact Nat.le_refl _); intro w1 R1 b1; have r1 : Row w1 w.heap.size 5 (arrB m xs) := (by rw [arrB_listB, ← splice_first m xs]; exact R1.out); have c1 := (r1.cell n).trans (arrB_get m xs n (by rw [HL.out]; omega) (by omega)); have f1 := r1.frozen n; have RR := Lib.hid r1; have BB := Lib.hid b1; clear r1 R1 H0 HB HC b1)
  have r2 : Row (w1.setCell ⟨w.heap.size, n, none⟩ (.int .u8 128)) w.heap.size 5 (arrB m (xs ++ [128])) := by
    rw [← arrB_put_at m xs 128 n HL.out (by omega)]
    exact RR.out.put n _
  have b2 : Below w.heap.size w (w1.setCell ⟨w.heap.size, n, none⟩ (.int .u8 128)) := BB.out.setCell (Nat.le_refl _) _
  clear c1 f1 RR BB
  generalize w1.setCell ⟨w.heap.size, n, none⟩ (.int .u8 128) = w2 at *
  refine (len_any (n : Int) w2 (by omega) (by omega)).mono ?_
  rintro e w3 ⟨rfl, hb3⟩
  have s2 := r2.lt
  have s3 := hb3.size
  have r3 : Hid (Row w3 w.heap.size 5 (arrB m (xs ++ [128]))) := r2.below hb3 r2.lt
  have b3 : Hid (Below w.heap.size w w3) := b2.trans (hb3.mono (by omega))
  clear hb3 r2 b2
  have hls : Hid (((lenL (n : Int)).map u8v).toArray.size = 8) := rfl
  have hlo : Hid (((lenL (n : Int)).map u8v).toArray.all (·.oneCell') = true) := by
    show _ = _
    simp [lenL, u8v, Value.oneCell']
  have hlc : Hid ((lenL (n : Int)).map u8v = (lenL (xs.length : Int)).map u8v) := by rw [HL.out]; exact rfl
  generalize (lenL (n : Int)).map u8v = ll at *
  go_wp2_with (first
    | ((with_reducible refine wpList_store_row (o := ⟨none, .store 74 _ _, _, _, _, _⟩) ?_ 74 (.tmp 6) (.tmp 27) ?_ w3.heap.size ll.toArray ?_ ?_ 74 _ (heap_alloc_last w3 _) (info36 _ hls.out) ?_ hlo.out ?_); (rfl); (rfl); (rfl); (rfl); (rw [hls.out]; rfl); rw [World.setRow_alloc_new])
    | fail)
  have R4 : Hid (Row (w3.alloc (.cells ll.toArray 74)) w.heap.size 5 (arrB m (xs ++ [128]))) := r3.out.alloc _
  have R5 : Hid (Row (w3.alloc (.cells ll.toArray 74)) w3.heap.size 74 ll.toArray) := Row.new _ _ _
  have b4 : Hid (Below w.heap.size w (w3.alloc (.cells ll.toArray 74))) := Lib.hid (b3.out.alloc (by omega) _)
  clear r3 b3
  generalize w3.alloc (.cells ll.toArray 74) = w4 at *
  have s8 : IntKind.i64.wrap ((m : Int) - 8) = ((m - 8 : Nat) : Int) := by rw [IntWalk.i64_in _ (by omega)]; omega
  have s8a : m - 8 ≤ m := by omega
  have s8b : ((m - 8 : Nat) : Int) ≤ (m : Int) := by omega
  have s8c : ¬ (m = m - 8) := by omega
  have s8d : m - (m - 8) = 8 := by omega
  go_still_tail 5, (by kernel_rfl)
  clear s8 s8a s8b s8c s8d
  change wpList _ _ _ _ _ w4.drew
  refine wpList_copy_splice (o := ⟨some 33, _, _, _, _, _⟩) rfl (.tmp 31) (.tmp 32) 38 38 rfl 5 Tryd.underlying38 info5s _ _ 8 8 8 8 rfl rfl w.heap.size (m - 8) (listB m (xs ++ [128])) 5 R4.out.drew ll (by have := hls.out; simpa using this) ?_ (by rw [listB_len _ _ (by rw [List.length_append, HL.out]; simp; omega)]; have := hls.out; simp at this; omega) (by have := hlo.out; simpa using this) w.heap.size w b4.out.drew (Nat.le_refl _) ?_
  · intro _
    refine ⟨rfl, ⟨w3.heap.size, 0, none⟩, rfl, fun j v hv => ?_⟩
    rw [Addr.add_mid, Nat.zero_add, R5.out.drew.cell j]
    simpa using hv
  intro w5 R6 b5
  have R7 : Hid (Row w5 w.heap.size 5 (arrB m (padL xs m))) := by
    show Row _ _ _ _
    rw [arrB_listB, ← splice_last m xs (by rw [HL.out]; omega), ← hlc.out]
    exact R6.out
  clear R6 R4 R5
  go_wp2
  go_ret
  exact ⟨rfl, R7.out, b5⟩
end Go.Proofs.YtbjojpgedcikiaaDoor

namespace Go.Proofs.YtbjojpgedcikiaaDoor
set_option maxRecDepth 8000
open Go.RowKit





/-- What the two tables of the package hold. -/
structure Tables (w : World) : Prop where
  words : ∀ i, i < 8 → w.cell? ⟨0, i, none⟩ = some (.int .u32 (firstW.get i))
  rounds : ∀ i, i < 64 → w.cell? ⟨1, i, none⟩ = some (.int .u32 (roundNs.getD i 0))
  there : 1 < w.heap.size
theorem Tables.below {w w' : World} (h : Tables w) (hb : Below w.heap.size w w') : Tables w' :=
  ⟨fun i hi => (hb.cell (p := ⟨0, i, none⟩) (by have := h.there; simp; omega)).trans (h.words i hi), fun i hi => (hb.cell (p := ⟨1, i, none⟩) h.there).trans (h.rounds i hi), Nat.lt_of_lt_of_le h.there hb.size⟩
theorem padL_range (xs : List Int) (m : Nat) (hn : xs.length ≤ 70368744177664) (hr : ∀ x ∈ xs, 0 ≤ x ∧ x ≤ 255) : ∀ x ∈ padL xs m, 0 ≤ x ∧ x ≤ 255 := by
  intro x hx
  simp only [padL, List.mem_append, List.mem_replicate, lenL, List.mem_cons, List.not_mem_nil, or_false] at hx
  rcases hx with ((hx | hx) | hx) | hx
  · exact hr x hx
  · omega
  · omega
  · omega
theorem getD_range (l : List Int) (h : ∀ x ∈ l, 0 ≤ x ∧ x ≤ 255) (i : Nat) : 0 ≤ l.getD i 0 ∧ l.getD i 0 ≤ 255 := by
  by_cases hi : i < l.length
  · have e : l.getD i 0 = l[i] := by simp [List.getD, List.getElem?_eq_getElem hi]
    rw [e]
    exact h _ (List.getElem_mem hi)
  · have e : l.getD i 0 = 0 := by simp [List.getD, List.getElem?_eq_none (by omega : l.length ≤ i)]
    rw [e]
    omega
def sumL (xs : List Int) : List Int := idPre (sumK (padL xs ((xs.length + 72) / 64 * 64)) ((xs.length + 72) / 64)) 8
set_option maxRecDepth 20000 in
set_option maxHeartbeats 4000000 in
theorem sum_any (A : Option Addr) (n c : Nat) (xs : List Int) (w : World) (hl : xs.length = n) (hn : n ≤ 70368744177664) (hx : Bytes w w.heap.size A xs) (hr : ∀ x ∈ xs, 0 ≤ x ∧ x ≤ 255) (ht : Tables w) :
    Calls Tryd.prog 23 #[.slice A n c] w fun e w' => e = .returned (.agg (arrB 32 (sumL xs))) ∧ Below w.heap.size w w' := by
  have HL := Lib.hid hl
  have hsum : Hid (sumL xs = idPre (sumK (padL xs ((n + 72) / 64 * 64)) ((n + 72) / 64)) 8) := by show _ = _; rw [← hl]; rfl
  have HP := Lib.hid (padL_range xs ((n + 72) / 64 * 64) (by omega) hr)
  have HQ := Lib.hid (padL_len xs ((n + 72) / 64 * 64) (by omega))
  have HB0 := Lib.hid (((Below.refl w.heap.size w).alloc (Nat.le_refl _) (.cells (arrB 32 []) 24)))
  have HX := Lib.hid (hx.below HB0.out)
  clear hx hr hl
  go_enter Tryd.func23, Tryd.ntmps23
  go_wp2_with fail
  refine (pad_any A n c xs _ HL.out hn (fun h => ?_)).mono ?_
  · obtain ⟨ad, e, hlt, hc⟩ := HX.out h
    exact ⟨ad, e, by simp; omega, hc⟩
  rintro e w1 ⟨rfl, r1, b1⟩
  rw [World.size_alloc] at r1 b1
  have q1 : (n + 72) / 64 ≤ 1099511627778 := by omega
  generalize padL xs ((n + 72) / 64 * 64) = pp at *
  generalize (n + 72) / 64 = q at *
  have bw : Below w.heap.size w w1 := HB0.out.trans (b1.mono (by omega))
  have t1 := ht.below bw
  have rz : Hid (Row w1 w.heap.size 24 (arrB 32 [])) := (Row.new w 24 _).below b1 (by omega)
  have c0 := t1.words 0 (by omega)
  have c1 := t1.words 1 (by omega)
  have c2 := t1.words 2 (by omega)
  have c3 := t1.words 3 (by omega)
  have c4 := t1.words 4 (by omega)
  have c5 := t1.words 5 (by omega)
  have c6 := t1.words 6 (by omega)
  have c7 := t1.words 7 (by omega)
  have R1 := Lib.hid r1
  clear r1 HB0 HX
  go_wp2_with fail
  clear c0 c1 c2 c3 c4 c5 c6 c7
  have s1 := R1.out.lt
  go_loopw [12] (fun i u => ∃ k : Nat, k ≤ q ∧ i = .int .i64 k ∧ Below w.heap.size w u ∧ Hid (Row u w.heap.size 24 (arrB 32 []) ∧ Row u (w.heap.size + 1) 5 (arrB (q * 64) pp) ∧ Row u w1.heap.size 51 (sumK pp k).cells)) (fun i _ => q - (intOf i).toNat)
  case atStart => exact ⟨0, by omega, rfl, bw.alloc (by omega) _, rz.out.alloc _, R1.out.alloc _, Row.new w1 51 _⟩
  case round =>
    obtain ⟨k, hk, rfl, hbl, hrows⟩ := hrel
    obtain ⟨r0, r1, r2⟩ := hrows.out
    by_cases hlt : k < q
    · have hst : Hid (sumK pp (k + 1) = mixS (sumK pp k) (pp.drop (64 * k))) := rfl
      generalize sumK pp k = st at *
      have e0 : wr.cell? ⟨w1.heap.size, 0, none⟩ = some (.int .u32 st.a) := r2.cell 0
      have e1 : wr.cell? ⟨w1.heap.size, 1, none⟩ = some (.int .u32 st.b) := r2.cell 1
      have e2 : wr.cell? ⟨w1.heap.size, 2, none⟩ = some (.int .u32 st.c) := r2.cell 2
      have e3 : wr.cell? ⟨w1.heap.size, 3, none⟩ = some (.int .u32 st.d) := r2.cell 3
      have e4 : wr.cell? ⟨w1.heap.size, 4, none⟩ = some (.int .u32 st.e) := r2.cell 4
      have e5 : wr.cell? ⟨w1.heap.size, 5, none⟩ = some (.int .u32 st.f) := r2.cell 5
      have e6 : wr.cell? ⟨w1.heap.size, 6, none⟩ = some (.int .u32 st.g) := r2.cell 6
      have e7 : wr.cell? ⟨w1.heap.size, 7, none⟩ = some (.int .u32 st.h) := r2.cell 7
      have R0 : Hid (Row wr.drew w.heap.size 24 (arrB 32 [])) := r0
      have R1' : Hid (Row wr.drew (w.heap.size + 1) 5 (arrB (q * 64) pp)) := r1
      have R2 : Hid (Row wr.drew w1.heap.size 51 st.cells) := r2
      clear r0 r1 r2 hrows
      have hl2 : (k : Int) < (q : Int) := by omega
      have a1 : IntKind.i64.wrap ((k : Int) * 64) = (k : Int) * 64 := IntWalk.i64_in _ (by omega)
      have a2 : IntKind.i64.wrap ((k : Int) + 1) = (k : Int) + 1 := IntWalk.i64_in _ (by omega)
      have a3 : IntKind.i64.wrap (((k : Int) + 1) * 64) = ((k : Int) + 1) * 64 := IntWalk.i64_in _ (by omega)
      have a4 : (((k : Int) + 1) * 64).toNat = (k + 1) * 64 := by omega
      have a5 : ((k : Int) * 64).toNat = k * 64 := by omega
      have a6 : 0 ≤ (k : Int) * 64 := by omega
      have a7 : (k : Int) * 64 ≤ ((k : Int) + 1) * 64 := by omega
      have a8 : ((k : Int) + 1) * 64 ≤ (q : Int) * 64 := by omega
      have a9 : ¬ (q * 64 = k * 64) := by omega
      have aa : (k + 1) * 64 - k * 64 = 64 := by omega
      have ab : 0 ≤ ((k : Int) + 1) * 64 := by omega
      have ac : (k : Int) + 1 ≤ (q : Int) := by omega
      have ad : (k : Int) ≤ (k : Int) + 1 := by omega
      go_wp2_with fail
      go_still_tail 8, (by kernel_rfl)
      clear a1 a2 a3 a4 a5 a6 a7 a8 a9 aa ab ac ad
      change wpList _ _ _ _ _ wr.drew
      go_wp2_with fail
      change Calls Tryd.prog 40 #[Value.agg st.cells, Value.slice (some ⟨w.heap.size + 1, k * 64, none⟩) 64 (q * 64 - k * 64)] _ _
      refine (mix_any st (w.heap.size + 1) (k * 64) 64 (q * 64 - k * 64) (pp.drop (64 * k)) _ (by omega) (by omega) (by omega) R1'.out.lt ?_ ?_ ?_ ?_).mono ?_
      · intro i hi
        rw [R1'.out.cell, arrB_get _ _ _ (by rw [HQ.out]; omega) (by omega)]
        simp [List.getD, List.getElem?_drop, Nat.mul_comm]
      · exact getD_range _ (fun x hx => HP.out x (List.mem_of_mem_drop hx))
      · exact Nat.lt_of_lt_of_le ht.there hbl.size
      · exact (ht.below hbl).rounds
      rintro e w3 ⟨rfl, hb3⟩
      have Q2 : Hid (w3.heap[w1.heap.size]? = some (.cells st.cells 51 (0, 0))) := R2.out.below hb3 R2.out.lt
      have Q1 : Hid (Row w3 (w.heap.size + 1) 5 (arrB (q * 64) pp)) := R1'.out.below hb3 R1'.out.lt
      have Q0 : Hid (Row w3 w.heap.size 24 (arrB 32 [])) := R0.out.below hb3 R0.out.lt
      have bl3 : Below w.heap.size w w3 := hbl.drew.trans (hb3.mono hbl.size)
      clear hb3 e0 e1 e2 e3 e4 e5 e6 e7
      generalize mixS st (pp.drop (64 * k)) = st2 at *
      go_wp2_with ((with_reducible refine wpList_store_row (o := ⟨none, .store 51 _ _, _, _, _, _⟩) ?_ 51 (.tmp 4) (.tmp 23) ?_ w1.heap.size st2.cells ?_ ?_ 51 st.cells Q2.out (info40 st2) ?_ st2.cells_one ?_); (rfl); (rfl); (rfl); (rfl); (rfl))
      go_roundw
      case rel =>
        refine ⟨k + 1, by omega, by go_num, below_setRow bl3 (by omega) _, Q0.out.setRowFar (by omega), Q1.out.setRowFar (by omega), ?_⟩
        rw [hst.out]
        exact Row.setRow Q2.out
      case measure => simp [intOf]; omega
    · obtain rfl : k = q := by omega
      have hfin : Hid (sumL xs = idPre (sumK pp k) 8) := hsum
      generalize sumK pp k = st at *
      have Z2 : Hid (wr.heap[w1.heap.size]? = some (.cells st.cells 51 (0, 0))) := r2
      have Z0 : Hid (Row wr w.heap.size 24 (arrB 32 [])) := r0
      clear r0 r1 r2 hrows
      go_wp2_with ((with_reducible refine wpList_load_row (o := ⟨some 25, _, _, _, _, _⟩) ?_ 51 (.tmp 4) ?_ w1.heap.size ?_ 51 st.cells (0, 0) _ Z2.out Tryd.underlying51 ?_ (info40 st) ?_); (rfl); (rfl); (rfl); (rfl))
      refine (id_any st wr).mono ?_
      rintro e w3 ⟨rfl, hb3⟩
      have hsz : Hid ((arrB 32 (idPre st 8)).size = 32 ∧ (arrB 32 []).size = (arrB 32 (idPre st 8)).size ∧ (arrB 32 (idPre st 8)).all (·.oneCell') = true) :=
        Lib.hid ⟨arrB_size _ _ (by rw [idPre_len]; omega), by rw [arrB_size 32 (idPre st 8) (by rw [idPre_len]; omega), arrB_size 32 [] (by simp)], arrB_one _ _⟩
      have Q0 : Hid (w3.heap[w.heap.size]? = some (.cells (arrB 32 []) 24 (0, 0))) := Z0.out.below hb3 Z0.out.lt
      have bl3 : Below w.heap.size w w3 := hbl.trans (hb3.mono hbl.size)
      clear hb3 Z0 Z2
      have HF : Hid (arrB 32 (sumL xs) = arrB 32 (idPre st 8)) := by show _ = _; rw [hfin.out]
      generalize arrB 32 (idPre st 8) = cs at *
      generalize arrB 32 [] = zs at *
      go_wp2_with (first
        | ((with_reducible refine wpList_store_row (o := ⟨none, .store 24 _ _, _, _, _, _⟩) ?_ 24 (.tmp 2) (.tmp 26) ?_ w.heap.size cs ?_ ?_ 24 zs Q0.out (info26 cs hsz.out.1) hsz.out.2.1 hsz.out.2.2 ?_); (rfl); (rfl); (rfl); (rfl))
        | ((with_reducible refine bodyPost_ret (v := .agg cs) ?_ ?_ ?_); (exact results_cell_row (p := 2) (ty := 24) Tryd.results23 _ _ w.heap.size 24 cs (0, 0) _ rfl (setRow_heap _ _ zs cs 24 (0, 0) Q0.out) Tryd.underlying24 rfl (info26 cs hsz.out.1)); (rfl)))
      exact ⟨by rw [HF.out], below_setRow bl3 (Nat.le_refl _) _⟩
theorem sumL_len (xs : List Int) : (sumL xs).length = 32 := by unfold sumL; rw [idPre_len]
end Go.Proofs.YtbjojpgedcikiaaDoor

namespace Go.Proofs.YtbjojpgedcikiaaDoor
set_option maxRecDepth 8000
open Go.ChangeShapes Go.WideShapes Go.ChangeAt Go.RowKit

theorem gFirst : Tryd.prog.globalNamed "stepladder/sha.firstWords" = some 0 := by kernel_rfl
theorem gFirstType : (Tryd.prog.globals[0]?).map (·.type) = some 51 := by kernel_rfl
theorem gRound : Tryd.prog.globalNamed "stepladder/sha.roundNumbers" = some 1 := by kernel_rfl
theorem gRoundType : (Tryd.prog.globals[1]?).map (·.type) = some 76 := by kernel_rfl
theorem cells40 : Tryd.prog.cellsOf 51 = 8 := by kernel_rfl
theorem cells48 : Tryd.prog.cellsOf 76 = 64 := by kernel_rfl
theorem cells39 : Tryd.prog.cellsOf 50 = 1 := by kernel_rfl
theorem cells26 : Tryd.prog.cellsOf 24 = 32 := by kernel_rfl

def laidBoth : List (String × DataW Unit) := [("stepladder/sha.firstWords", Rows.laid_stepladder_sha_firstWords), ("stepladder/sha.roundNumbers", Rows.laid_stepladder_sha_roundNumbers)]
theorem tables_of_laid {W : World} (h : laidMetH Tryd.prog laidBoth W) : Tables W := by
  have h1 : Lib.TabIs Tryd.prog W "stepladder/sha.firstWords" .u32 [1779033703, 3144134277, 1013904242, 2773480762, 1359893119, 2600822924, 528734635, 1541459225] :=
    Lib.tabIs_of_head (rest := [("stepladder/sha.roundNumbers", Rows.laid_stepladder_sha_roundNumbers)]) gFirst gFirstType Tryd.underlying51 Tryd.underlying50 cells39 cells40 h
  have h2 : Lib.TabIs Tryd.prog W "stepladder/sha.roundNumbers" .u32 roundNs :=
    Lib.tabIs_of_head (rest := []) gRound gRoundType Tryd.underlying76 Tryd.underlying50 cells39 cells48 (h.filter (fun x => x.1 == "stepladder/sha.roundNumbers"))
  refine ⟨fun i hi => h1.cell gFirst i hi, fun i hi => h2.cell gRound i hi, ?_⟩
  have := h2.cell gRound 0 (by decide)
  rcases Nat.lt_or_ge 1 W.heap.size with hl | hl
  · exact hl
  · simp [World.cell?, Array.getElem?_eq_none hl] at this

theorem open_id {H : Type} {enc : TypeId × Value → H} {W : World} {base : Nat} {v : Value} {d : DataW H} {p : List MemPlace} (hok : Value.okWide Tryd.prog W .any base 24 v)
    (h : DataW.Trod enc Tryd.prog W 0 (fun _ => true) true 24 v d p) : ∃ xs : List Int, v = .agg (arrB 32 xs) ∧ xs.length = 32 ∧ ∀ x ∈ xs, 0 ≤ x ∧ x ≤ 255 := by
  obtain ⟨cs, rfl, hsz, _⟩ : ∃ cs, v = .agg cs ∧ cs.size = Tryd.prog.cellsOf 24 ∧ Row.okWide Tryd.prog W .any base 24 cs := by
    simpa [Value.okWide, Tryd.underlying24] using hok
  rw [cells26] at hsz
  obtain ⟨fuel, hf⟩ := h
  obtain ⟨ys, m, _, _, _, hl, hall⟩ := DataW.trod_array Tryd.underlying24 hf
  have hc : ∀ i, i < 32 → ∃ n : Int, cs[i]? = some (.int .u8 n) ∧ 0 ≤ n ∧ n ≤ 255 := by
    intro i hi
    have h1 := hall i hi
    rw [List.getElem?_eq_getElem (by omega : i < ys.length)] at h1
    obtain ⟨n, e, _, wf⟩ := DataW.trod_int Tryd.underlying5 h1
    refine ⟨n, ?_, ?_⟩
    · rw [cellsB, Nat.mul_one] at e
      have hi' : i < cs.toList.length := by simp [hsz, hi]
      simp only [Value.cells, List.drop_eq_getElem_cons hi', List.take_succ_cons, List.take_zero, List.cons.injEq, and_true] at e
      rw [Array.getElem?_eq_getElem (by omega)]
      simpa using e
    · have := bounds_u8 wf
      omega
  refine ⟨cs.toList.map intOf, ?_, by simp [hsz], ?_⟩
  · congr 1
    apply arrB_ext
    · simp [hsz]
    · exact hsz
    · intro i hi
      obtain ⟨n, e, _⟩ := hc i hi
      have e' : cs.toList[i]? = some (.int .u8 n) := by simpa using e
      simp [e, List.getD, List.getElem?_map, e', intOf]
  · intro x hx
    obtain ⟨u, hu, rfl⟩ := List.mem_map.1 hx
    obtain ⟨i, hi, rfl⟩ := List.getElem_of_mem hu
    obtain ⟨n, e, hn⟩ := hc i (by simp at hi; omega)
    have e' : cs.toList[i]? = some (.int .u8 n) := by simpa using e
    rw [List.getElem?_eq_getElem hi] at e'
    rw [Option.some.inj e']
    exact hn

/-- The id of zeros, as a value and as it reads. -/
def zeroId : Value := .agg (arrB 32 [])
def zeroD {H : Type} : DataW H := .agg (List.replicate 32 (.lit (.int .u8 0)))
/-- The same block with other cells. -/
def withCells (cs : Array Value) : Obj → Obj
  | .cells _ t frozen => .cells cs t frozen
  | o => o
/-- A WORLD FOR THE WITNESS: the settled one, the two tables holding what their initialisers lay. -/
noncomputable def laidWorld (os : Os) : World :=
  { World.holding Tryd.prog os ⟨#[], #[], []⟩ with heap := ((World.holding Tryd.prog os ⟨#[], #[], []⟩).heap.modify 0 (withCells firstW.cells)).modify 1 (withCells (roundNs.map u32v).toArray) }
end Go.Proofs.YtbjojpgedcikiaaDoor

namespace Go.Proofs.YtbjojpgedcikiaaDoor
set_option maxRecDepth 8000

/-- the greatest power of two that is less than n (n above 1) -/
def halfGo (n : Nat) : Nat → Nat → Nat
  | 0, k => k
  | f + 1, k => if 2 * k < n then halfGo n f (2 * k) else k
def halfT (n : Nat) : Nat := halfGo n n 1
theorem halfGo_spec (n : Nat) : ∀ (f k : Nat), 1 ≤ k → k < n → n ≤ k * 2 ^ f → k ≤ halfGo n f k ∧ halfGo n f k < n ∧ n ≤ 2 * halfGo n f k ∧ ∃ e, halfGo n f k = k * 2 ^ e
  | 0, k, _, hkn, hf => by
    rw [Nat.pow_zero, Nat.mul_one] at hf
    omega
  | f + 1, k, hk, hkn, hf => by
    unfold halfGo
    by_cases h : 2 * k < n
    · rw [if_pos h]
      obtain ⟨h1, h2, h3, e, h4⟩ := halfGo_spec n f (2 * k) (by omega) h (by rw [Nat.pow_succ] at hf; rw [Nat.mul_comm 2 k, Nat.mul_assoc, Nat.mul_comm 2]; exact hf)
      exact ⟨by omega, h2, h3, e + 1, by rw [h4, Nat.pow_succ, Nat.mul_comm 2 k, Nat.mul_assoc, Nat.mul_comm 2]⟩
    · rw [if_neg h]
      exact ⟨Nat.le_refl _, hkn, by omega, 0, by simp⟩
theorem half_spec {n : Nat} (h : 2 ≤ n) : 1 ≤ halfT n ∧ halfT n < n ∧ n ≤ 2 * halfT n ∧ ∃ e, halfT n = 2 ^ e := by
  have h0 : n ≤ 1 * 2 ^ n := by rw [Nat.one_mul]; exact Nat.le_of_lt Nat.lt_two_pow_self
  obtain ⟨h1, h2, h3, e, h4⟩ := halfGo_spec n n 1 (Nat.le_refl _) (by omega) h0
  exact ⟨h1, h2, h3, e, by unfold halfT; rw [h4, Nat.one_mul]⟩
theorem pow_unique {a b n : Nat} (h1 : 2 ^ a < n) (h2 : n ≤ 2 * 2 ^ a) (h3 : 2 ^ b < n) (h4 : n ≤ 2 * 2 ^ b) : a = b := by
  have e1 : 2 * 2 ^ a = 2 ^ (a + 1) := by rw [Nat.pow_succ, Nat.mul_comm]
  have e2 : 2 * 2 ^ b = 2 ^ (b + 1) := by rw [Nat.pow_succ, Nat.mul_comm]
  rw [e1] at h2
  rw [e2] at h4
  have k1 : 2 ^ a < 2 ^ (b + 1) := Nat.lt_of_lt_of_le h1 h4
  have k2 : 2 ^ b < 2 ^ (a + 1) := Nat.lt_of_lt_of_le h3 h2
  have := (Nat.pow_lt_pow_iff_right (by decide : 1 < 2)).1 k1
  have := (Nat.pow_lt_pow_iff_right (by decide : 1 < 2)).1 k2
  omega
theorem half_unique {n e : Nat} (h1 : 2 ^ e < n) (h2 : n ≤ 2 * 2 ^ e) : halfT n = 2 ^ e := by
  have hp : 0 < 2 ^ e := Nat.pow_pos (by decide)
  obtain ⟨_, k2, k3, e', k4⟩ := half_spec (n := n) (by omega)
  rw [k4] at k2 k3 ⊢
  rw [pow_unique k2 k3 h1 h2]
/-- what Node sums, and its sum -/
def textT (a b : List Int) : List Int := 1 :: (a ++ b)
def nodeT (a b : List Int) : List Int := sumL (textT a b)
def leafT (b : List Int) : List Int := sumL (0 :: b)
/-- the root of leaves -/
def rootF : Nat → List (List Int) → List Int
  | 0, l => l.headD []
  | f + 1, l => if l.length ≤ 1 then l.headD [] else nodeT (rootF f (l.take (halfT l.length))) (rootF f (l.drop (halfT l.length)))
def rootT (l : List (List Int)) : List Int := if l.length = 0 then sumL [2] else rootF l.length l
theorem rootF_more : ∀ (f g : Nat) (l : List (List Int)), l.length ≤ f → l.length ≤ g → rootF f l = rootF g l
  | 0, 0, _, _, _ => rfl
  | 0, g + 1, l, h, _ => by
    unfold rootF
    rw [if_pos (by omega)]
  | f + 1, 0, l, _, h => by
    unfold rootF
    rw [if_pos (by omega)]
  | f + 1, g + 1, l, h1, h2 => by
    unfold rootF
    by_cases h : l.length ≤ 1
    · rw [if_pos h, if_pos h]
    · rw [if_neg h, if_neg h]
      obtain ⟨a, b, _, _⟩ := half_spec (n := l.length) (by omega)
      rw [rootF_more f g (l.take _) (by rw [List.length_take]; omega) (by rw [List.length_take]; omega), rootF_more f g (l.drop _) (by rw [List.length_drop]; omega) (by rw [List.length_drop]; omega)]
theorem root_none : rootT [] = sumL [2] := rfl
theorem root_one (x : List Int) : rootT [x] = x := rfl
theorem root_cut {l : List (List Int)} (h : 2 ≤ l.length) : rootT l = nodeT (rootT (l.take (halfT l.length))) (rootT (l.drop (halfT l.length))) := by
  obtain ⟨a, b, _, _⟩ := half_spec h
  have e1 : (l.take (halfT l.length)).length = halfT l.length := by rw [List.length_take]; omega
  have e2 : (l.drop (halfT l.length)).length = l.length - halfT l.length := List.length_drop
  unfold rootT
  rw [if_neg (by omega), if_neg (by omega), if_neg (by omega)]
  obtain ⟨n, hn⟩ : ∃ n, l.length = n + 1 := ⟨l.length - 1, by omega⟩
  rw [rootF_more l.length (n + 1) l (Nat.le_refl _) (by omega), rootF, if_neg (by omega), rootF_more n _ (l.take _) (by omega) (Nat.le_refl _), rootF_more n _ (l.drop _) (by omega) (Nat.le_refl _)]
/-- the path of a leaf: of each tree in which it stands, from the least on, the other side's root -/
def pathF : Nat → List (List Int) → Nat → List (List Int)
  | 0, _, _ => []
  | f + 1, l, i => if l.length ≤ 1 then [] else
    if i < halfT l.length then pathF f (l.take (halfT l.length)) i ++ [rootT (l.drop (halfT l.length))]
    else pathF f (l.drop (halfT l.length)) (i - halfT l.length) ++ [rootT (l.take (halfT l.length))]
def pathT (l : List (List Int)) (i : Nat) : List (List Int) := pathF l.length l i
theorem pathF_more : ∀ (f g : Nat) (l : List (List Int)) (i : Nat), l.length ≤ f → l.length ≤ g → pathF f l i = pathF g l i
  | 0, 0, _, _, _, _ => rfl
  | 0, g + 1, l, i, h, _ => by
    unfold pathF
    rw [if_pos (by omega)]
  | f + 1, 0, l, i, _, h => by
    unfold pathF
    rw [if_pos (by omega)]
  | f + 1, g + 1, l, i, h1, h2 => by
    unfold pathF
    by_cases h : l.length ≤ 1
    · rw [if_pos h, if_pos h]
    · rw [if_neg h, if_neg h]
      obtain ⟨a, b, _, _⟩ := half_spec (n := l.length) (by omega)
      rw [pathF_more f g (l.take _) i (by rw [List.length_take]; omega) (by rw [List.length_take]; omega), pathF_more f g (l.drop _) _ (by rw [List.length_drop]; omega) (by rw [List.length_drop]; omega)]
theorem path_low {l : List (List Int)} {i : Nat} (h : 2 ≤ l.length) (hi : i < halfT l.length) : pathT l i = pathT (l.take (halfT l.length)) i ++ [rootT (l.drop (halfT l.length))] := by
  obtain ⟨a, b, _, _⟩ := half_spec h
  unfold pathT
  obtain ⟨n, hn⟩ : ∃ n, l.length = n + 1 := ⟨l.length - 1, by omega⟩
  rw [pathF_more l.length (n + 1) l i (Nat.le_refl _) (by omega), pathF, if_neg (by omega), if_pos hi, pathF_more n _ (l.take _) i (by rw [List.length_take]; omega) (Nat.le_refl _)]
theorem path_high {l : List (List Int)} {i : Nat} (h : 2 ≤ l.length) (hi : ¬ i < halfT l.length) : pathT l i = pathT (l.drop (halfT l.length)) (i - halfT l.length) ++ [rootT (l.take (halfT l.length))] := by
  obtain ⟨a, b, _, _⟩ := half_spec h
  unfold pathT
  obtain ⟨n, hn⟩ : ∃ n, l.length = n + 1 := ⟨l.length - 1, by omega⟩
  rw [pathF_more l.length (n + 1) l i (Nat.le_refl _) (by omega), pathF, if_neg (by omega), if_neg hi, pathF_more n _ (l.drop _) _ (by rw [List.length_drop]; omega) (Nat.le_refl _)]
/-- does the leaf stand on the left side: from the least tree on -/
def sidesF : Nat → Nat → Nat → List Bool
  | 0, _, _ => []
  | f + 1, n, i => if n ≤ 1 then [] else if i < halfT n then sidesF f (halfT n) i ++ [true] else sidesF f (n - halfT n) (i - halfT n) ++ [false]
def sidesT (n i : Nat) : List Bool := sidesF n n i
theorem sidesF_more : ∀ (f g n i : Nat), n ≤ f → n ≤ g → sidesF f n i = sidesF g n i
  | 0, 0, _, _, _, _ => rfl
  | 0, g + 1, n, i, h, _ => by
    unfold sidesF
    rw [if_pos (by omega)]
  | f + 1, 0, n, i, _, h => by
    unfold sidesF
    rw [if_pos (by omega)]
  | f + 1, g + 1, n, i, h1, h2 => by
    unfold sidesF
    by_cases h : n ≤ 1
    · rw [if_pos h, if_pos h]
    · rw [if_neg h, if_neg h]
      obtain ⟨a, b, _, _⟩ := half_spec (n := n) (by omega)
      rw [sidesF_more f g _ i (by omega) (by omega), sidesF_more f g (n - _) _ (by omega) (by omega)]
theorem sides_low {n i : Nat} (h : 2 ≤ n) (hi : i < halfT n) : sidesT n i = sidesT (halfT n) i ++ [true] := by
  obtain ⟨a, b, _, _⟩ := half_spec h
  unfold sidesT
  obtain ⟨m, rfl⟩ : ∃ m, n = m + 1 := ⟨n - 1, by omega⟩
  rw [sidesF, if_neg (by omega), if_pos hi, sidesF_more m _ _ i (by omega) (Nat.le_refl _)]
theorem sides_high {n i : Nat} (h : 2 ≤ n) (hi : ¬ i < halfT n) : sidesT n i = sidesT (n - halfT n) (i - halfT n) ++ [false] := by
  obtain ⟨a, b, _, _⟩ := half_spec h
  unfold sidesT
  obtain ⟨m, rfl⟩ : ∃ m, n = m + 1 := ⟨n - 1, by omega⟩
  rw [sidesF, if_neg (by omega), if_neg hi, sidesF_more m _ _ _ (by omega) (Nat.le_refl _)]
theorem path_len : ∀ (n : Nat) (l : List (List Int)) (i : Nat), l.length = n → (pathT l i).length = (sidesT n i).length := by
  intro n
  induction n using Nat.strongRecOn with
  | _ n ih =>
    intro l i hl
    by_cases h : n ≤ 1
    · have e1 : sidesT n i = [] := by
        rcases n with _ | _ | n
        · rfl
        · rfl
        · omega
      have e2 : pathT l i = [] := by
        unfold pathT
        rw [hl]
        rcases n with _ | _ | n
        · rfl
        · unfold pathF; rw [if_pos (by omega)]
        · omega
      rw [e1, e2]; rfl
    · have h2 : 2 ≤ n := by omega
      obtain ⟨a, b, _, _⟩ := half_spec h2
      by_cases hi : i < halfT n
      · rw [path_low (by omega) (by rw [hl]; exact hi), sides_low h2 hi, List.length_append, List.length_append, hl, ih (halfT n) b _ i (by rw [List.length_take]; omega)]
        rfl
      · rw [path_high (by omega) (by rw [hl]; exact hi), sides_high h2 hi, List.length_append, List.length_append, hl, ih (n - halfT n) (by omega) _ _ (by rw [List.length_drop]; omega)]
        rfl
/-- one step up -/
def stepT (s : Bool) (x y : List Int) : List Int := if s then nodeT x y else nodeT y x
def stepText (s : Bool) (x y : List Int) : List Int := if s then textT x y else textT y x
/-- what comes of a leaf, step by step: the first k steps' last -/
def climbK (s : List Bool) (x : List Int) (p : List (List Int)) : Nat → List Int
  | 0 => x
  | k + 1 => stepT (s.getD k true) (climbK s x p k) (p.getD k [])
def topT (s : List Bool) (x : List Int) (p : List (List Int)) : List Int := climbK s x p s.length
theorem climbK_ahead {s s' : List Bool} {x : List Int} {p p' : List (List Int)} : ∀ (k : Nat), k ≤ s.length → k ≤ p.length → climbK (s ++ s') x (p ++ p') k = climbK s x p k
  | 0, _, _ => rfl
  | k + 1, h1, h2 => by
    unfold climbK
    rw [climbK_ahead k (by omega) (by omega)]
    simp only [List.getD_eq_getElem?_getD, List.getElem?_append_left (show k < s.length by omega), List.getElem?_append_left (show k < p.length by omega)]
theorem top_snoc {s : List Bool} {b : Bool} {x y : List Int} {p : List (List Int)} (h : p.length = s.length) : topT (s ++ [b]) x (p ++ [y]) = stepT b (topT s x p) y := by
  unfold topT
  rw [List.length_append, List.length_singleton]
  show stepT _ (climbK _ _ _ s.length) _ = _
  rw [climbK_ahead s.length (Nat.le_refl _) (by omega)]
  simp only [List.getD_eq_getElem?_getD]
  congr 1
  · simp
  · rw [← h]; simp
/-- each path leads to the root -/
theorem path_top : ∀ (n : Nat) (l : List (List Int)) (i : Nat), l.length = n → i < n → topT (sidesT n i) (l.getD i []) (pathT l i) = rootT l := by
  intro n
  induction n using Nat.strongRecOn with
  | _ n ih =>
    intro l i hl hi
    by_cases h : n = 1
    · subst h
      obtain rfl : i = 0 := by omega
      match l, hl with
      | [x], _ => rfl
    · have h2 : 2 ≤ n := by omega
      obtain ⟨a, b, _, _⟩ := half_spec h2
      rw [root_cut (by omega), hl]
      by_cases hlow : i < halfT n
      · rw [path_low (by omega) (by rw [hl]; exact hlow), sides_low h2 hlow, hl, top_snoc (path_len _ _ _ (by rw [List.length_take]; omega))]
        have := ih (halfT n) b (l.take (halfT n)) i (by rw [List.length_take]; omega) hlow
        rw [show (l.take (halfT n)).getD i [] = l.getD i [] by simp only [List.getD_eq_getElem?_getD, List.getElem?_take_of_lt hlow]] at this
        rw [this]
        rfl
      · rw [path_high (by omega) (by rw [hl]; exact hlow), sides_high h2 hlow, hl, top_snoc (path_len _ _ _ (by rw [List.length_drop]; omega))]
        have := ih (n - halfT n) (by omega) (l.drop (halfT n)) (i - halfT n) (by rw [List.length_drop]; omega) (by omega)
        rw [show (l.drop (halfT n)).getD (i - halfT n) [] = l.getD i [] by simp only [List.getD_eq_getElem?_getD, List.getElem?_drop]; rw [show halfT n + (i - halfT n) = i by omega]] at this
        rw [this]
        rfl
/-- does a path lead from a leaf to a root? -/
def checkT (root : List Int) (n i : Int) (leaf : List Int) (path : List (List Int)) : Bool :=
  decide (1 ≤ n ∧ n ≤ 64 ∧ 0 ≤ i ∧ i < n ∧ path.length = (sidesT n.toNat i.toNat).length ∧ topT (sidesT n.toNat i.toNat) leaf path = root)
theorem check_len {root leaf : List Int} {n i : Nat} {path : List (List Int)} (h : path.length ≠ (sidesT n i).length) : checkT root n i leaf path = false := by
  unfold checkT
  simp only [decide_eq_false_iff_not, Int.toNat_natCast]
  exact fun hh => h hh.2.2.2.2.1
/-- of two climbs that end alike, and begin otherwise, the first step at which they meet -/
theorem climb_meet (s : List Bool) (x y : List Int) (p q : List (List Int)) (hne : x ≠ y) : ∀ k, climbK s x p k = climbK s y q k → ∃ j, j < k ∧ climbK s x p j ≠ climbK s y q j ∧ climbK s x p (j + 1) = climbK s y q (j + 1) ∧ ∀ t, t < j → climbK s x p (t + 1) ≠ climbK s y q (t + 1)
  | 0, h => absurd h hne
  | k + 1, h => by
    by_cases hk : climbK s x p k = climbK s y q k
    · obtain ⟨j, h1, h2⟩ := climb_meet s x y p q hne k hk
      exact ⟨j, by omega, h2⟩
    · by_cases he : ∃ t, t < k ∧ climbK s x p (t + 1) = climbK s y q (t + 1)
      · obtain ⟨t, ht, het⟩ := he
        obtain ⟨j, h1, h2⟩ := climb_meet s x y p q hne (t + 1) het
        exact ⟨j, by omega, h2⟩
      · exact ⟨k, by omega, hk, h, fun t ht e => he ⟨t, ht, e⟩⟩
/-- a path is no longer than the tree is high -/
theorem sides_le : ∀ (h n i : Nat), n ≤ 2 ^ h → (sidesT n i).length ≤ h := by
  intro h
  induction h with
  | zero =>
    intro n i hn
    have e : sidesT n i = [] := by
      rw [Nat.pow_zero] at hn
      rcases n with _ | _ | n
      · rfl
      · rfl
      · omega
    rw [e]
    exact Nat.le_refl _
  | succ h ih =>
    intro n i hn
    by_cases h1 : n ≤ 1
    · have e : sidesT n i = [] := by
        rcases n with _ | _ | n
        · rfl
        · rfl
        · omega
      rw [e]
      exact Nat.zero_le _
    · obtain ⟨a, b, c, e, he⟩ := half_spec (n := n) (by omega)
      have hh : halfT n ≤ 2 ^ h := by
        rw [he] at b ⊢
        have : 2 ^ e < 2 ^ (h + 1) := Nat.lt_of_lt_of_le b hn
        have := (Nat.pow_lt_pow_iff_right (by decide : 1 < 2)).1 this
        exact Nat.pow_le_pow_right (by decide) (by omega)
      by_cases hi : i < halfT n
      · rw [sides_low (by omega) hi, List.length_append]
        have := ih _ i hh
        simp only [List.length_singleton]
        omega
      · rw [sides_high (by omega) hi, List.length_append]
        have := ih (n - halfT n) (i - halfT n) (by omega)
        simp only [List.length_singleton]
        omega
/-- the step of two climbs at which they meet: the first one -/
def meetK (s : List Bool) (x y : List Int) (p q : List (List Int)) : Nat → Nat → Option Nat
  | 0, _ => none
  | f + 1, k => if climbK s x p (k + 1) = climbK s y q (k + 1) then some k else meetK s x y p q f (k + 1)
theorem meetK_some (s : List Bool) (x y : List Int) (p q : List (List Int)) : ∀ (f k j : Nat), meetK s x y p q f k = some j → k ≤ j ∧ j < k + f ∧ climbK s x p (j + 1) = climbK s y q (j + 1) ∧ ∀ t, k ≤ t → t < j → climbK s x p (t + 1) ≠ climbK s y q (t + 1)
  | 0, k, j, h => by cases h
  | f + 1, k, j, h => by
    unfold meetK at h
    split at h
    · rename_i he
      cases h
      exact ⟨Nat.le_refl _, by omega, he, fun t h1 h2 => by omega⟩
    · rename_i he
      obtain ⟨h1, h2, h3, h4⟩ := meetK_some s x y p q f (k + 1) j h
      refine ⟨by omega, by omega, h3, fun t g1 g2 => ?_⟩
      by_cases e : t = k
      · subst e; exact he
      · exact h4 t (by omega) g2
theorem meetK_none (s : List Bool) (x y : List Int) (p q : List (List Int)) : ∀ (f k : Nat), meetK s x y p q f k = none → ∀ t, k ≤ t → t < k + f → climbK s x p (t + 1) ≠ climbK s y q (t + 1)
  | 0, k, _, t, h1, h2 => by omega
  | f + 1, k, h, t, h1, h2 => by
    unfold meetK at h
    split at h
    · cases h
    · rename_i he
      by_cases e : t = k
      · subst e; exact he
      · exact meetK_none s x y p q f (k + 1) h t (by omega) (by omega)
/-- the two texts of one sum, or none -/
def clashT (l : List (List Int)) (i : Int) (leaf : List Int) (path : List (List Int)) : Option (List Int × List Int) :=
  if checkT (rootT l) l.length i leaf path = true ∧ leaf ≠ l.getD i.toNat [] then
    (meetK (sidesT l.length i.toNat) leaf (l.getD i.toNat []) path (pathT l i.toNat) (sidesT l.length i.toNat).length 0).map fun k =>
      (stepText ((sidesT l.length i.toNat).getD k true) (climbK (sidesT l.length i.toNat) leaf path k) (path.getD k []), stepText ((sidesT l.length i.toNat).getD k true) (climbK (sidesT l.length i.toNat) (l.getD i.toNat []) (pathT l i.toNat) k) ((pathT l i.toNat).getD k []))
  else none
end Go.Proofs.YtbjojpgedcikiaaDoor

namespace Go.Proofs.YtbjojpgedcikiaaDoor
set_option maxRecDepth 8000
open Go.RowKit












set_option maxRecDepth 20000 in
set_option maxHeartbeats 1000000 in
theorem shaof_any (A : Option Addr) (n c : Nat) (xss : List (List Int)) (w : World) (hl : xss.length = n) (hx : Parts w w.heap.size A xss) (hn : n ≤ 9223372036854775807) (hs : xss.flatten.length ≤ 70368744177664) (ht : Tables w) :
    Calls Tryd.prog 36 #[.slice A n c] w fun e w' => e = .returned (.agg (arrB 32 (sumL xss.flatten))) ∧ Below w.heap.size w w' := by
  have HL := Lib.hid hl
  have HX := Lib.hid hx
  clear hl hx
  go_enter Tryd.func36, Tryd.ntmps36
  go_wp2_with fail
  go_loopw [3, 8] (fun v i u => ∃ k : Nat, k ≤ n ∧ i = .int .i64 k ∧ Below w.heap.size w u ∧ Hid (Row u w.heap.size 24 (arrB 32 []) ∧ u.ownsRow (w.heap.size + 1) 5 1 v (xss.take k).flatten.length ((xss.take k).flatten.map u8v))) (fun _ i _ => n - (intOf i).toNat)
  case atStart => exact ⟨0, by omega, rfl, by go_grown, Row.new w 24 _, World.ownsRow_nil _ _ _ _⟩
  case round =>
    obtain ⟨k, hk, rfl, hbl, hrows⟩ := hrel
    obtain ⟨r0, hown⟩ := hrows.out
    have s0 := r0.lt
    by_cases hlt : k < n
    · have hg := List.getElem?_eq_getElem (by rw [HL.out]; exact hlt : k < xss.length)
      have hst := Lib.hid (flat_step xss k _ hg)
      obtain ⟨b, o, a, c1, rfl, hb, hc, hy, hr⟩ := HX.out k _ hg
      have hle : (xss.take k).flatten.length + (xss[k]'(by rw [HL.out]; exact hlt)).length ≤ xss.flatten.length := by
        have e := congrArg List.length hst.out
        rw [List.length_append] at e
        have h2 : (xss.take (k + 1)).flatten.length ≤ xss.flatten.length := by
          conv => rhs; rw [← List.take_append_drop (k + 1) xss, List.flatten_append, List.length_append]
          omega
        omega
      generalize xss[k]'(by rw [HL.out]; exact hlt) = ys at *
      obtain ⟨v', w', hrun, hown', hgr⟩ := append_bytes _ _ _ _ wr hown a ys.length c1 w.heap.size ys rfl (hy.below hbl) (by omega) (by omega)
      have hcell := (hbl.cell (p := ⟨b, o + k, none⟩) hb).trans hc
      have hb2 := below_of_grown (B := w.heap.size + 1) hgr (fun g hg => (hown.lt g hg).1) (by omega)
      have R0 := Lib.hid (r0.below hb2 (by omega))
      have BB := Lib.hid (hbl.trans (hb2.mono (by omega)))
      have OO := Lib.hid hown'
      clear r0 hown hrows hg hc hy hr hgr hb2 hown' hle
      have hk2 : (k : Int) < (n : Int) := by omega
      have HRUN := Lib.hid hrun
      clear hrun
      go_wp2_with (at_builtin; (with_reducible refine wpList_append_run (o := ⟨some 14, _, _, _, _, _⟩) ?_ (.tmp 12) (.tmp 13) ?_ ?_ ?_ ?_ HRUN.out ?_); (rfl); (rfl); (rfl); (rfl); (rfl))
      go_roundw
      case rel =>
        refine ⟨k + 1, by omega, by go_num, BB.out, R0.out, ?_⟩
        rw [hst.out, List.length_append, List.map_append]
        exact OO.out
      case measure => simp [intOf]; omega
    · obtain rfl : k = n := by omega
      have hT : xss.take k = xss := List.take_of_length_le (by rw [HL.out]; exact Nat.le_refl _)
      rw [hT] at hown
      obtain ⟨A1, c1, rfl⟩ := own_form hown
      have hr : ∀ x ∈ xss.flatten, 0 ≤ x ∧ x ≤ 255 := by
        intro x hx
        obtain ⟨l, hl, hxl⟩ := List.mem_flatten.1 hx
        obtain ⟨j, hj, rfl⟩ := List.getElem_of_mem hl
        obtain ⟨_, _, _, _, _, _, _, _, hr⟩ := HX.out j _ (List.getElem?_eq_getElem hj)
        exact hr x hxl
      have hby := own_bytes hown
      have R0 := Lib.hid r0
      clear hown r0 hrows hT
      have HRR := Lib.hid hr
      have HBY := Lib.hid hby
      clear hr hby
      generalize hFL : xss.flatten = fl at *
      have HFL := Lib.hid hFL
      clear hFL
      obtain ⟨q, hq⟩ : ∃ q, fl.length = q := ⟨_, rfl⟩
      rw [hq]
      have HQ := Lib.hid hq
      have hs2 : q ≤ 70368744177664 := by omega
      clear hq
      go_wp2_with fail
      refine (sum_any A1 q c1 fl wr HQ.out hs2 HBY.out HRR.out (ht.below hbl)).mono ?_
      rintro e w3 ⟨rfl, hb3⟩
      have hsz : Hid ((arrB 32 (sumL fl)).size = 32 ∧ (arrB 32 []).size = (arrB 32 (sumL fl)).size ∧ (arrB 32 (sumL fl)).all (·.oneCell') = true) :=
        Lib.hid ⟨arrB_size _ _ (by rw [sumL_len]; omega), by rw [arrB_size 32 (sumL fl) (by rw [sumL_len]; omega), arrB_size 32 [] (by simp)], arrB_one _ _⟩
      have Q0 : Hid (w3.heap[w.heap.size]? = some (.cells (arrB 32 []) 24 (0, 0))) := R0.out.below hb3 R0.out.lt
      have bl3 : Below w.heap.size w w3 := hbl.trans (hb3.mono hbl.size)
      clear hb3 R0
      generalize hE : arrB 32 (sumL fl) = cs at *
      have HE := Lib.hid hE
      clear hE
      generalize arrB 32 [] = zs at *
      go_wp2_with (first
        | ((with_reducible refine wpList_store_row (o := ⟨none, .store 24 _ _, _, _, _, _⟩) ?_ 24 (.tmp 2) (.tmp 17) ?_ w.heap.size cs ?_ ?_ 24 zs Q0.out (info26 cs hsz.out.1) hsz.out.2.1 hsz.out.2.2 ?_); (rfl); (rfl); (rfl); (rfl))
        | ((with_reducible refine bodyPost_ret (v := .agg cs) ?_ ?_ ?_); (exact results_cell_row (p := 2) (ty := 24) Tryd.results36 _ _ w.heap.size 24 cs (0, 0) _ rfl (setRow_heap _ _ zs cs 24 (0, 0) Q0.out) Tryd.underlying24 rfl (info26 cs hsz.out.1)); (rfl)))
      exact ⟨by rw [HFL.out, HE.out], below_setRow bl3 (Nat.le_refl _) _⟩
end Go.Proofs.YtbjojpgedcikiaaDoor

namespace Go.Proofs.YtbjojpgedcikiaaDoor
set_option maxRecDepth 8000
open Go
def InW (x : Int) : Prop := 0 ≤ x ∧ x < 4294967296
theorem InW.mod (x : Int) : InW (x % 4294967296) := ⟨by omega, by omega⟩
end Go.Proofs.YtbjojpgedcikiaaDoor

namespace Go.Proofs.YtbjojpgedcikiaaDoor
set_option maxRecDepth 8000
open Go.RowKit














theorem InW.getD (l : List Int) (h : ∀ x ∈ l, InW x) (i : Nat) : InW (l.getD i 0) := by
  by_cases hi : i < l.length
  · have e : l.getD i 0 = l[i] := by simp [List.getD, List.getElem?_eq_getElem hi]
    rw [e]
    exact h _ (List.getElem_mem hi)
  · have e : l.getD i 0 = 0 := by simp [List.getD, List.getElem?_eq_none (by omega : l.length ≤ i)]
    rw [e]
    exact ⟨by omega, by omega⟩
end Go.Proofs.YtbjojpgedcikiaaDoor

namespace Go.Proofs.YtbjojpgedcikiaaDoor
set_option maxRecDepth 8000
open Go.RowKit














structure S8.In (s : S8) : Prop where
  a : InW s.a
  b : InW s.b
  c : InW s.c
  d : InW s.d
  e : InW s.e
  f : InW s.f
  g : InW s.g
  h : InW s.h
theorem S8.In.add (s t : S8) : (s.add t).In := ⟨InW.mod _, InW.mod _, InW.mod _, InW.mod _, InW.mod _, InW.mod _, InW.mod _, InW.mod _⟩
/-- What stays in the rounds: the words at first, the numbers, the words of the bytes. -/
structure Keep (w : World) (hcs : Array Value) (gh gk : Nat) (ws : List Int) (gw : Nat) (u : World) : Prop where
  b : Below w.heap.size w u
  h : Row u gh 50 hcs
  k : Row u gk 50 (roundNs.map u32v).toArray
  w : ∀ i, i < 64 → u.cell? ⟨gw, i, none⟩ = some (.int .u32 (ws.getD i 0))
  lw : gw < u.heap.size
theorem Keep.below {w : World} {s : Array Value} {gh gk : Nat} {ws : List Int} {gw : Nat} {u x : World} (h : Keep w s gh gk ws gw u) (hb : Below u.heap.size u x) : Keep w s gh gk ws gw x :=
  ⟨h.b.trans (hb.mono h.b.size), h.h.below hb h.h.lt, h.k.below hb h.k.lt, fun i hi => (hb.cell (p := ⟨gw, i, none⟩) h.lw).trans (h.w i hi), Nat.lt_of_lt_of_le h.lw hb.size⟩
theorem Keep.set {w : World} {s : Array Value} {gh : Nat} {ws : List Int} {gw g k : Nat} {u : World} {v : Value} (h : Keep w s gh w.heap.size ws gw u) (hg : w.heap.size + 1 ≤ g) (h1 : gh < w.heap.size) (h2 : gw < w.heap.size) : Keep w s gh w.heap.size ws gw (u.drew.setCell ⟨g, k, none⟩ v) :=
  ⟨h.b.drew.setCell (by simp; omega) _, h.h.drew.far (by simp; omega) _, h.k.drew.far (by simp; omega) _, fun i hi => (World.cell?_setCell_other u.drew ⟨g, k, none⟩ ⟨gw, i, none⟩ v (fun e => by injection e; omega)).trans (h.w i hi), by have := h.lw; simpa [World.setCell] using this⟩
/-- A slice of eight words that lies above a mark, in a block of its own. -/
def V8 (B : Nat) (v : Value) (st : S8) (u : World) : Prop := ∃ g cap cur, v = .slice (some ⟨g, 0, none⟩) 8 cap ∧ B ≤ g ∧ Row u g 50 cur ∧ ∀ i, i < 8 → cur[i]? = some (.int .u32 (st.get i))
end Go.Proofs.YtbjojpgedcikiaaDoor

namespace Go.Proofs.YtbjojpgedcikiaaDoor
set_option maxRecDepth 8000
open Go.RowKit














theorem S8.In.get {s : S8} (h : s.In) (k : Nat) (hk : k < 8) : InW (s.get k) := by
  rcases k with _ | _ | _ | _ | _ | _ | _ | _ | k
  · exact h.a
  · exact h.b
  · exact h.c
  · exact h.d
  · exact h.e
  · exact h.f
  · exact h.g
  · exact h.h
  · omega
theorem V8.below {B : Nat} {v : Value} {st : S8} {u x : World} (h : V8 B v st u) (hb : Below u.heap.size u x) : V8 B v st x := by
  obtain ⟨g, cap, cur, e, hg, hr, hc⟩ := h
  exact ⟨g, cap, cur, e, hg, hr.below hb hr.lt, hc⟩
theorem V8.mono {B B' : Nat} {v : Value} {st : S8} {u : World} (h : V8 B v st u) (hB : B' ≤ B) : V8 B' v st u := by
  obtain ⟨g, cap, cur, e, hg, hr, hc⟩ := h
  exact ⟨g, cap, cur, e, by omega, hr, hc⟩
/-- What stays while the reference sums: what bytes became, the place of the answer. -/
structure Sums (w : World) (v : Value) (m : Nat) (pp : List Int) (u : World) : Prop where
  b : Below w.heap.size w u
  z : Row u w.heap.size 24 (arrB 32 [])
  p : u.ownsRow (w.heap.size + 1) 5 1 v m (pp.map u8v)
theorem Sums.below {w : World} {v : Value} {m : Nat} {pp : List Int} {u x : World} (h : Sums w v m pp u) (hb : Below u.heap.size u x) : Sums w v m pp x :=
  ⟨h.b.trans (hb.mono h.b.size), h.z.below hb h.z.lt, own_below h.p hb⟩
end Go.Proofs.YtbjojpgedcikiaaDoor

namespace Go.Proofs.YtbjojpgedcikiaaDoor
set_option maxRecDepth 8000
open Go.RowKit

theorem own_of_row {w : World} {g B n : Nat} {xs : List Int} (h : Row w g 5 (arrB n xs)) (hl : xs.length = n) (hB : B ≤ g) (hn : n ≤ maxLen) : OwnB w B (.slice (some ⟨g, 0, none⟩) n n) xs := by
  subst hl
  refine ⟨by simp, .inr ⟨g, xs.length, arrB xs.length xs, rfl, hB, h, Nat.le_refl _, hn, by rw [arrB_size _ _ (Nat.le_refl _)]; omega, ?_⟩⟩
  rw [List.take_of_length_le (by rw [Array.length_toList, arrB_size _ _ (Nat.le_refl _)]; omega)]
  simp [arrB]
theorem OwnB.cap {w : World} {B n c : Nat} {A : Option Addr} {xs : List Int} (h : OwnB w B (.slice A n c) xs) : n ≤ c ∧ c ≤ maxLen := by
  rcases h.2 with ⟨e, e2⟩ | ⟨g, cap, cur, e, _, _, h1, h2, _⟩
  · injection e with e1 e3 e4
    subst e3 e4
    exact ⟨Nat.le_refl _, Nat.zero_le _⟩
  · injection e with e1 e3 e4
    subst e3 e4
    exact ⟨h1, h2⟩
theorem OwnB.row {w : World} {B : Nat} {v : Value} {xs : List Int} (h : OwnB w B v xs) (hp : 0 < xs.length) : ∃ g cap, v = .slice (some ⟨g, 0, none⟩) xs.length cap ∧ xs.length ≤ cap ∧ cap ≤ maxLen ∧ B ≤ g ∧ g < w.heap.size ∧ ∀ j, j < xs.length → w.cell? ⟨g, j, none⟩ = some (.int .u8 (xs.getD j 0)) := by
  rcases h.2 with ⟨_, e2⟩ | ⟨g, cap, cur, rfl, h1, hg, h2, h3, _⟩
  · omega
  · refine ⟨g, cap, rfl, h2, h3, h1, Row.lt (t := 5) hg, fun j hj => ?_⟩
    have := h.cells (g := g) rfl j (.int .u8 (xs.getD j 0)) (by simp [List.getD, List.getElem?_eq_getElem hj, u8v])
    rwa [Addr.add_mid, Nat.zero_add] at this
theorem OwnB.up {w : World} {B n c : Nat} {A : Option Addr} {xs : List Int} (h : OwnB w B (.slice A n c) xs) : Bytes w w.heap.size A xs := h.bytes.2
/-- the zero id's cells, as the model writes them -/
theorem zero_cells : (#[Value.int .u8 0, Value.int .u8 0, Value.int .u8 0, Value.int .u8 0, Value.int .u8 0, Value.int .u8 0, Value.int .u8 0, Value.int .u8 0, Value.int .u8 0, Value.int .u8 0, Value.int .u8 0, Value.int .u8 0, Value.int .u8 0, Value.int .u8 0, Value.int .u8 0, Value.int .u8 0, Value.int .u8 0, Value.int .u8 0, Value.int .u8 0, Value.int .u8 0, Value.int .u8 0, Value.int .u8 0, Value.int .u8 0, Value.int .u8 0, Value.int .u8 0, Value.int .u8 0, Value.int .u8 0, Value.int .u8 0, Value.int .u8 0, Value.int .u8 0, Value.int .u8 0, Value.int .u8 0] : Array Value) = arrB 32 [] := rfl
end Go.Proofs.YtbjojpgedcikiaaDoor

namespace Go.Proofs.YtbjojpgedcikiaaDoor
set_option maxRecDepth 8000
open Go.RowKit

theorem arr_id {x : List Int} (h : x.length = 32) : arrB 32 x = (x.map u8v).toArray := by unfold arrB; rw [h]; simp
/-- a byte's bounds -/
theorem textT_byte {a b : List Int} (ha : ∀ x ∈ a, 0 ≤ x ∧ x ≤ 255) (hb : ∀ x ∈ b, 0 ≤ x ∧ x ≤ 255) : ∀ x ∈ textT a b, 0 ≤ x ∧ x ≤ 255 := by
  intro x hx
  unfold textT at hx
  rcases List.mem_cons.1 hx with h | h
  · omega
  · rcases List.mem_append.1 h with h | h
    · exact ha x h
    · exact hb x h
end Go.Proofs.YtbjojpgedcikiaaDoor

namespace Go.Proofs.YtbjojpgedcikiaaDoor
set_option maxRecDepth 8000
open Go.RowKit

/-- truths of one's own -/
def OwnF (w : World) (B : Nat) (v : Value) (l : List Bool) : Prop := w.ownsRow B 4 1 v l.length (l.map Value.bool)
theorem OwnF.nil (w : World) (B : Nat) : OwnF w B (.slice none 0 0) [] := World.ownsRow_nil _ _ _ _
theorem OwnF.less {w : World} {B B' : Nat} {v : Value} {l : List Bool} (h : OwnF w B v l) (hB : B' ≤ B) : OwnF w B' v l := by
  refine ⟨h.1, ?_⟩
  rcases h.2 with h0 | ⟨g, cap, cur, e, hg, hh, h1⟩
  · exact .inl h0
  · exact .inr ⟨g, cap, cur, e, by omega, hh, h1⟩
theorem infoF : (Tryd.prog.info? 4).map (fun i => (i.zero, i.size, i.bytes)) = some (some (.bool false), 1, 1) := by kernel_rfl
theorem OwnF.append {w : World} {B : Nat} {v : Value} {l : List Bool} (h : OwnF w B v l) (b : Bool) (hs : l.length ≤ 1000000) (hB : B ≤ w.heap.size) :
    ∃ v' w', (Builtin.append_ #[60, 60] 60 #[v, .slice (some ⟨w.heap.size, 0, none⟩) 1 1]).run Tryd.prog (w.alloc (.cells #[.bool b] 4)) = .ok v' w' ∧ OwnF w' B v' (l ++ [b]) ∧ Below B w w' := by
  cases hq : Tryd.prog.info? 4 with
  | none => have := infoF; rw [hq] at this; cases this
  | some i =>
    have hi := infoF
    rw [hq] at hi
    simp only [Option.map_some, Option.some.injEq, Prod.mk.injEq] at hi
    obtain ⟨h1, h2, h3⟩ := hi
    have hown := World.ownsRow.alloc (o := .cells #[.bool b] 4) h
    obtain ⟨v', w', hrun, hown', hg, _⟩ := run_append_own_at (P := Tryd.prog) (w.alloc (.cells #[.bool b] 4)) B 60 60 4 i (.bool false) 1 1 Tryd.underlying60 hq h1 h2 h3 rfl (by decide) v l.length (l.map Value.bool) hown
      ⟨w.heap.size, 0, none⟩ 1 1 [.bool b] rfl (cell_one_new _ _ _) (by intro u hu; cases List.mem_singleton.1 hu; rfl) (by unfold maxLen; omega) (by omega) (by simp; omega)
    refine ⟨v', w', hrun, ?_, ?_⟩
    · unfold OwnF
      rw [List.length_append, List.map_append]
      exact hown'
    · exact ((Below.refl B w).alloc hB _).trans (below_of_grown hg (fun r hr => (hown.lt r hr).1) (by simp; omega))
end Go.Proofs.YtbjojpgedcikiaaDoor

namespace Go.Proofs.YtbjojpgedcikiaaDoor
set_option maxRecDepth 8000
open Go.RowKit

/-- w has grown to u, and each block of the list is as told. -/
structure EnvX (w u : World) (l : List (Nat × Obj)) : Prop where
  bel : Below w.heap.size w u
  box : ∀ g o, (g, o) ∈ l → u.heap[g]? = some o
theorem EnvX.lt {w u : World} {l : List (Nat × Obj)} (h : EnvX w u l) {g : Nat} {o : Obj} (hm : (g, o) ∈ l) : g < u.heap.size := by
  have h1 := h.box g o hm
  rcases Nat.lt_or_ge g u.heap.size with h2 | h2
  · exact h2
  · rw [Array.getElem?_eq_none h2] at h1
    cases h1
theorem EnvX.start (w : World) : EnvX w w [] := ⟨Below.refl _ _, fun _ _ h => by cases h⟩
theorem EnvX.below {w u v : World} {l : List (Nat × Obj)} (h : EnvX w u l) (hb : Below u.heap.size u v) : EnvX w v l :=
  ⟨h.bel.trans (hb.mono h.bel.size), fun g o hm => (hb.block g (h.lt hm)).trans (h.box g o hm)⟩
theorem EnvX.drew {w u : World} {l : List (Nat × Obj)} (h : EnvX w u l) : EnvX w u.drew l := ⟨h.bel.drew, h.box⟩
theorem EnvX.new {w u : World} {l : List (Nat × Obj)} (h : EnvX w u l) (o : Obj) : EnvX w (u.alloc o) ((u.heap.size, o) :: l) := by
  refine ⟨h.bel.alloc h.bel.size _, fun g o' hm => ?_⟩
  rcases List.mem_cons.1 hm with e | e
  · cases e
    exact heap_alloc_new u o
  · exact (Below.heap_alloc u o g (h.lt e)).trans (h.box g o' e)
theorem EnvX.two {w u : World} {l : List (Nat × Obj)} (h : EnvX w u l) (o o' : Obj) : EnvX w ((u.alloc o).alloc o') ((u.heap.size + 1, o') :: (u.heap.size, o) :: l) := by
  have h1 := (h.new o).new o'
  rwa [World.size_alloc] at h1
theorem EnvX.sub {w u : World} {l l' : List (Nat × Obj)} (h : EnvX w u l) (hs : ∀ x ∈ l', x ∈ l) : EnvX w u l' := ⟨h.bel, fun g o hm => h.box g o (hs _ hm)⟩
theorem EnvX.row {w u : World} {l : List (Nat × Obj)} (h : EnvX w u l) {g : Nat} {cs : Array Value} {t : TypeId} (hm : (g, Obj.cells cs t (0, 0)) ∈ l) : Row u g t cs := h.box g _ hm
/-- the class of worlds -/
def EnvC (w : World) (l : List (Nat × Obj)) (u : World) : Prop := EnvX w u l
theorem EnvC.box {w u : World} {l : List (Nat × Obj)} (h : EnvC w l u) (g : Nat) (o : Obj) (hm : (g, o) ∈ l) : u.heap[g]? = some o := EnvX.box h g o hm
theorem EnvC.call {w u : World} {l : List (Nat × Obj)} {P : Program} {f : FuncId} {args : Array Value} {v : Value} (hu : EnvC w l u)
    (h : Calls P f args u fun e w' => e = .returned v ∧ Below u.heap.size u w') : Calls P f args u fun e w' => e = .returned v ∧ EnvC w l w' :=
  h.mono fun _ _ ⟨he, hb⟩ => ⟨he, EnvX.below hu hb⟩
/-- what holds in each world of a class that has one, whatever that is, holds -/
theorem EnvC.one {w u : World} {l : List (Nat × Obj)} (h : EnvX w u l) (x y : Value) : (∀ v, EnvC w l v → x = y) ↔ x = y := ⟨fun k => k u h, fun e _ _ => e⟩

section
variable {P : Program} {C : World → Prop} {a : Act} {o : Oper} {K : Act → Prop}
end
end Go.Proofs.YtbjojpgedcikiaaDoor
