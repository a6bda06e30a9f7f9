/- Part of a proof. -/
import Derived.Test.YtabhhbdbkeeblaaDoorZa
import Derived.WalkKit
import Derived.ProofKit
import Derived.Handy
import Derived.Deep.MidRow
import Derived.Laws.CopyOwn
import Derived.Laws.MakeOwn
import Derived.Deep.WholeRow
import Derived.Deep.Cut
import Derived.Deep.QuietTactic
import Derived.BigQuiet
import Derived.StillTailTactics
import Derived.Lib.Hide
import Derived.Test.YtabhhbdbkeeblaaDoorCards
import Derived.Test.YtabhhbdbkeeblaaDoorTie
import Derived.OpenShut
import Derived.ChangeOld
import Derived.Below
import Derived.Deep.DeepHandedRow
import Derived.Lib.LaidTab
namespace Go.Proofs.YtabhhbdbkeeblaaDoor
set_option maxRecDepth 8000
open Go.RowKit
/-- What bytes become: m bytes in all. -/
def padL (xs : List Int) (m : Nat) : List Int := xs ++ [128] ++ List.replicate (m - 9 - xs.length) 0 ++ lenL xs.length
theorem lenL_len (n : Int) : (lenL n).length = 8 := rfl
theorem padL_len (xs : List Int) (m : Nat) (h : xs.length + 9 ≤ m) : (padL xs m).length = m := by simp [padL, lenL_len]; omega
def listB (n : Nat) (l : List Int) : List Value := (l ++ List.replicate (n - l.length) 0).map u8v
theorem arrB_listB (n : Nat) (l : List Int) : arrB n l = (listB n l).toArray := rfl
theorem listB_len (n : Nat) (l : List Int) (h : l.length ≤ n) : (listB n l).length = n := by simp [listB]; omega
theorem splice_first (m : Nat) (xs : List Int) : splice (listB m []) 0 (xs.map u8v) = listB m xs := by
  simp [splice, listB, List.drop_replicate]
theorem splice_last (m : Nat) (xs : List Int) (h : xs.length + 9 ≤ m) : splice (listB m (xs ++ [128])) (m - 8) ((lenL xs.length).map u8v) = listB m (padL xs m) := by
  have e1 : m - 8 + (lenL xs.length).length = m := by rw [lenL_len]; omega
  have e2 : (listB m (xs ++ [128])).take (m - 8) = (xs ++ [128] ++ List.replicate (m - 9 - xs.length) 0).map u8v := by
    unfold listB
    rw [← List.map_take]
    congr 1
    rw [List.take_append]
    congr 1
    · exact List.take_of_length_le (by simp; omega)
    · rw [List.take_replicate]
      congr 1
      simp
      omega
  have e3 : (listB m (xs ++ [128])).drop m = [] := List.drop_eq_nil_of_le (by rw [listB_len _ _ (by simp; omega)]; omega)
  unfold splice
  rw [e2, List.length_map, e1, e3]
  simp [listB, padL, lenL_len]
  omega
theorem info36 (cs : Array Value) (h : cs.size = 8) : (Tryd.prog.info? 99).map (·.size) = some cs.size := by rw [h]; kernel_rfl
theorem info5s : (Tryd.prog.info? 5).map (·.size) = some 1 := by kernel_rfl
set_option maxRecDepth 20000 in
set_option maxHeartbeats 4000000 in
theorem pad_any (A : Option Addr) (n c : Nat) (xs : List Int) (w : World) (hl : xs.length = n) (hn : n ≤ 70368744177664) (hx : Bytes w w.heap.size A xs) :
    Calls Tryd.prog 67 #[.slice A n c] w fun e w' => e = .returned (.slice (some ⟨w.heap.size, 0, none⟩) ((n + 72) / 64 * 64) ((n + 72) / 64 * 64)) ∧ Row w' w.heap.size 5 (arrB ((n + 72) / 64 * 64) (padL xs ((n + 72) / 64 * 64))) ∧ Below w.heap.size w w' := by
  have HL := Lib.hid hl
  have HX := Lib.hid hx
  clear hl hx
  obtain ⟨m, hm'⟩ : ∃ m : Nat, (n + 72) / 64 * 64 = m := ⟨_, rfl⟩
  rw [hm']
  have hm : ((n : Int) + 1 + 8 + 64 - 1) / 64 * 64 = m := by omega
  have HM := Lib.hid hm
  have m1 : n + 9 ≤ m := by omega
  have m2 : m < n + 73 := by omega
  clear hm hm'
  go_enter Tryd.func67, Tryd.ntmps67
  go_wp2_with fail
  rw [HM.out, make_bytes m (by omega)]
  have H0 : Hid ((w.alloc (.cells (arrB m []) 5)).heap[w.heap.size]? = some (.cells (listB m []).toArray 5 (0, 0))) := Row.new w 5 (arrB m [])
  have HB : Hid (Below w.heap.size w (w.alloc (.cells (arrB m []) 5))) := Lib.hid ((Below.refl _ _).alloc (Nat.le_refl _) _)
  have HC : Hid (0 < (xs.map u8v).length → some (⟨w.heap.size, 0, none⟩ : Addr) = some ⟨w.heap.size, 0, none⟩ ∧ ∃ ad, A = some ad ∧ ∀ j v, (xs.map u8v)[j]? = some v → (w.alloc (.cells (arrB m []) 5)).cell? (ad.add j) = some v) := by
    intro hp
    obtain ⟨ad, e, _, hc⟩ := (HX.out.below HB.out) (by simpa using hp)
    exact ⟨rfl, ad, e, hc⟩
  go_wp2_with ((with_reducible refine wpList_copy_splice (o := ⟨some 20, _, _, _, _, _⟩) ?_ (.tmp 18) (.tmp 19) 63 63 ?_ 5 Tryd.underlying63 info5s _ A m m n c ?_ ?_ w.heap.size 0 (listB m []) 5 H0.out (xs.map u8v) ?_ HC.out ?_ ?_ w.heap.size w HB.out ?_ ?_); (rfl); (rfl); (rfl); (rfl); (rw [List.length_map, HL.out]; exact (Nat.min_eq_left (by omega)).symm); (rw [List.length_map, HL.out, listB_len m [] (by simp)]; omega); (intro v hv; obtain ⟨z, _, rfl⟩ := List.mem_map.1 hv; rfl); (exact Nat.le_refl _); intro w1 R1 b1; have r1 : Row w1 w.heap.size 5 (arrB m xs) := (by rw [arrB_listB, ← splice_first m xs]; exact R1.out); have c1 := (r1.cell n).trans (arrB_get m xs n (by rw [HL.out]; omega) (by omega)); have f1 := r1.frozen n; have RR := Lib.hid r1; have BB := Lib.hid b1; clear r1 R1 H0 HB HC b1)
  have r2 : Row (w1.setCell ⟨w.heap.size, n, none⟩ (.int .u8 128)) w.heap.size 5 (arrB m (xs ++ [128])) := by
    rw [← arrB_put_at m xs 128 n HL.out (by omega)]
    exact RR.out.put n _
  have b2 : Below w.heap.size w (w1.setCell ⟨w.heap.size, n, none⟩ (.int .u8 128)) := BB.out.setCell (Nat.le_refl _) _
  clear c1 f1 RR BB
  generalize w1.setCell ⟨w.heap.size, n, none⟩ (.int .u8 128) = w2 at *
  refine (len_any (n : Int) w2 (by omega) (by omega)).mono ?_
  rintro e w3 ⟨rfl, hb3⟩
  have s2 := r2.lt
  have s3 := hb3.size
  have r3 : Hid (Row w3 w.heap.size 5 (arrB m (xs ++ [128]))) := r2.below hb3 r2.lt
  have b3 : Hid (Below w.heap.size w w3) := b2.trans (hb3.mono (by omega))
  clear hb3 r2 b2
  have hls : Hid (((lenL (n : Int)).map u8v).toArray.size = 8) := rfl
  have hlo : Hid (((lenL (n : Int)).map u8v).toArray.all (·.oneCell') = true) := by
    show _ = _
    simp [lenL, u8v, Value.oneCell']
  have hlc : Hid ((lenL (n : Int)).map u8v = (lenL (xs.length : Int)).map u8v) := by rw [HL.out]; exact rfl
  generalize (lenL (n : Int)).map u8v = ll at *
  go_wp2_with (first
    | ((with_reducible refine wpList_store_row (o := ⟨none, .store 99 _ _, _, _, _, _⟩) ?_ 99 (.tmp 6) (.tmp 27) ?_ w3.heap.size ll.toArray ?_ ?_ 99 _ (heap_alloc_last w3 _) (info36 _ hls.out) ?_ hlo.out ?_); (rfl); (rfl); (rfl); (rfl); (rw [hls.out]; rfl); rw [World.setRow_alloc_new])
    | fail)
  have R4 : Hid (Row (w3.alloc (.cells ll.toArray 99)) w.heap.size 5 (arrB m (xs ++ [128]))) := r3.out.alloc _
  have R5 : Hid (Row (w3.alloc (.cells ll.toArray 99)) w3.heap.size 99 ll.toArray) := Row.new _ _ _
  have b4 : Hid (Below w.heap.size w (w3.alloc (.cells ll.toArray 99))) := Lib.hid (b3.out.alloc (by omega) _)
  clear r3 b3
  generalize w3.alloc (.cells ll.toArray 99) = w4 at *
  have s8 : IntKind.i64.wrap ((m : Int) - 8) = ((m - 8 : Nat) : Int) := by rw [IntWalk.i64_in _ (by omega)]; omega
  have s8a : m - 8 ≤ m := by omega
  have s8b : ((m - 8 : Nat) : Int) ≤ (m : Int) := by omega
  have s8c : ¬ (m = m - 8) := by omega
  have s8d : m - (m - 8) = 8 := by omega
  go_still_tail 5, (by kernel_rfl)
  clear s8 s8a s8b s8c s8d
  change wpList _ _ _ _ _ w4.drew
  refine wpList_copy_splice (o := ⟨some 33, _, _, _, _, _⟩) rfl (.tmp 31) (.tmp 32) 63 63 rfl 5 Tryd.underlying63 info5s _ _ 8 8 8 8 rfl rfl w.heap.size (m - 8) (listB m (xs ++ [128])) 5 R4.out.drew ll (by have := hls.out; simpa using this) ?_ (by rw [listB_len _ _ (by rw [List.length_append, HL.out]; simp; omega)]; have := hls.out; simp at this; omega) (by have := hlo.out; simpa using this) w.heap.size w b4.out.drew (Nat.le_refl _) ?_
  · intro _
    refine ⟨rfl, ⟨w3.heap.size, 0, none⟩, rfl, fun j v hv => ?_⟩
    rw [Addr.add_mid, Nat.zero_add, R5.out.drew.cell j]
    simpa using hv
  intro w5 R6 b5
  have R7 : Hid (Row w5 w.heap.size 5 (arrB m (padL xs m))) := by
    show Row _ _ _ _
    rw [arrB_listB, ← splice_last m xs (by rw [HL.out]; omega), ← hlc.out]
    exact R6.out
  clear R6 R4 R5
  go_wp2
  go_ret
  exact ⟨rfl, R7.out, b5⟩
/-- What the two tables of the package hold. -/
structure Tables (w : World) : Prop where
  words : ∀ i, i < 8 → w.cell? ⟨0, i, none⟩ = some (.int .u32 (firstW.get i))
  rounds : ∀ i, i < 64 → w.cell? ⟨1, i, none⟩ = some (.int .u32 (roundNs.getD i 0))
  there : 1 < w.heap.size
theorem Tables.below {w w' : World} (h : Tables w) (hb : Below w.heap.size w w') : Tables w' :=
  ⟨fun i hi => (hb.cell (p := ⟨0, i, none⟩) (by have := h.there; simp; omega)).trans (h.words i hi), fun i hi => (hb.cell (p := ⟨1, i, none⟩) h.there).trans (h.rounds i hi), Nat.lt_of_lt_of_le h.there hb.size⟩
theorem padL_range (xs : List Int) (m : Nat) (hn : xs.length ≤ 70368744177664) (hr : ∀ x ∈ xs, 0 ≤ x ∧ x ≤ 255) : ∀ x ∈ padL xs m, 0 ≤ x ∧ x ≤ 255 := by
  intro x hx
  simp only [padL, List.mem_append, List.mem_replicate, lenL, List.mem_cons, List.not_mem_nil, or_false] at hx
  rcases hx with ((hx | hx) | hx) | hx
  · exact hr x hx
  · omega
  · omega
  · omega
theorem getD_range (l : List Int) (h : ∀ x ∈ l, 0 ≤ x ∧ x ≤ 255) (i : Nat) : 0 ≤ l.getD i 0 ∧ l.getD i 0 ≤ 255 := by
  by_cases hi : i < l.length
  · have e : l.getD i 0 = l[i] := by simp [List.getD, List.getElem?_eq_getElem hi]
    rw [e]
    exact h _ (List.getElem_mem hi)
  · have e : l.getD i 0 = 0 := by simp [List.getD, List.getElem?_eq_none (by omega : l.length ≤ i)]
    rw [e]
    omega
def sumL (xs : List Int) : List Int := idPre (sumK (padL xs ((xs.length + 72) / 64 * 64)) ((xs.length + 72) / 64)) 8
set_option maxRecDepth 20000 in
set_option maxHeartbeats 4000000 in
theorem sum_any (A : Option Addr) (n c : Nat) (xs : List Int) (w : World) (hl : xs.length = n) (hn : n ≤ 70368744177664) (hx : Bytes w w.heap.size A xs) (hr : ∀ x ∈ xs, 0 ≤ x ∧ x ≤ 255) (ht : Tables w) :
    Calls Tryd.prog 53 #[.slice A n c] w fun e w' => e = .returned (.agg (arrB 32 (sumL xs))) ∧ Below w.heap.size w w' := by
  have HL := Lib.hid hl
  have hsum : Hid (sumL xs = idPre (sumK (padL xs ((n + 72) / 64 * 64)) ((n + 72) / 64)) 8) := by show _ = _; rw [← hl]; rfl
  have HP := Lib.hid (padL_range xs ((n + 72) / 64 * 64) (by omega) hr)
  have HQ := Lib.hid (padL_len xs ((n + 72) / 64 * 64) (by omega))
  have HB0 := Lib.hid (((Below.refl w.heap.size w).alloc (Nat.le_refl _) (.cells (arrB 32 []) 40)))
  have HX := Lib.hid (hx.below HB0.out)
  clear hx hr hl
  go_enter Tryd.func53, Tryd.ntmps53
  go_wp2_with fail
  refine (pad_any A n c xs _ HL.out hn (fun h => ?_)).mono ?_
  · obtain ⟨ad, e, hlt, hc⟩ := HX.out h
    exact ⟨ad, e, by simp; omega, hc⟩
  rintro e w1 ⟨rfl, r1, b1⟩
  rw [World.size_alloc] at r1 b1
  have q1 : (n + 72) / 64 ≤ 1099511627778 := by omega
  generalize padL xs ((n + 72) / 64 * 64) = pp at *
  generalize (n + 72) / 64 = q at *
  have bw : Below w.heap.size w w1 := HB0.out.trans (b1.mono (by omega))
  have t1 := ht.below bw
  have rz : Hid (Row w1 w.heap.size 40 (arrB 32 [])) := (Row.new w 40 _).below b1 (by omega)
  have c0 := t1.words 0 (by omega)
  have c1 := t1.words 1 (by omega)
  have c2 := t1.words 2 (by omega)
  have c3 := t1.words 3 (by omega)
  have c4 := t1.words 4 (by omega)
  have c5 := t1.words 5 (by omega)
  have c6 := t1.words 6 (by omega)
  have c7 := t1.words 7 (by omega)
  have R1 := Lib.hid r1
  clear r1 HB0 HX
  go_wp2_with fail
  clear c0 c1 c2 c3 c4 c5 c6 c7
  have s1 := R1.out.lt
  go_loopw [12] (fun i u => ∃ k : Nat, k ≤ q ∧ i = .int .i64 k ∧ Below w.heap.size w u ∧ Hid (Row u w.heap.size 40 (arrB 32 []) ∧ Row u (w.heap.size + 1) 5 (arrB (q * 64) pp) ∧ Row u w1.heap.size 88 (sumK pp k).cells)) (fun i _ => q - (intOf i).toNat)
  case atStart => exact ⟨0, by omega, rfl, bw.alloc (by omega) _, rz.out.alloc _, R1.out.alloc _, Row.new w1 88 _⟩
  case round =>
    obtain ⟨k, hk, rfl, hbl, hrows⟩ := hrel
    obtain ⟨r0, r1, r2⟩ := hrows.out
    by_cases hlt : k < q
    · have hst : Hid (sumK pp (k + 1) = mixS (sumK pp k) (pp.drop (64 * k))) := rfl
      generalize sumK pp k = st at *
      have e0 : wr.cell? ⟨w1.heap.size, 0, none⟩ = some (.int .u32 st.a) := r2.cell 0
      have e1 : wr.cell? ⟨w1.heap.size, 1, none⟩ = some (.int .u32 st.b) := r2.cell 1
      have e2 : wr.cell? ⟨w1.heap.size, 2, none⟩ = some (.int .u32 st.c) := r2.cell 2
      have e3 : wr.cell? ⟨w1.heap.size, 3, none⟩ = some (.int .u32 st.d) := r2.cell 3
      have e4 : wr.cell? ⟨w1.heap.size, 4, none⟩ = some (.int .u32 st.e) := r2.cell 4
      have e5 : wr.cell? ⟨w1.heap.size, 5, none⟩ = some (.int .u32 st.f) := r2.cell 5
      have e6 : wr.cell? ⟨w1.heap.size, 6, none⟩ = some (.int .u32 st.g) := r2.cell 6
      have e7 : wr.cell? ⟨w1.heap.size, 7, none⟩ = some (.int .u32 st.h) := r2.cell 7
      have R0 : Hid (Row wr.drew w.heap.size 40 (arrB 32 [])) := r0
      have R1' : Hid (Row wr.drew (w.heap.size + 1) 5 (arrB (q * 64) pp)) := r1
      have R2 : Hid (Row wr.drew w1.heap.size 88 st.cells) := r2
      clear r0 r1 r2 hrows
      have hl2 : (k : Int) < (q : Int) := by omega
      have a1 : IntKind.i64.wrap ((k : Int) * 64) = (k : Int) * 64 := IntWalk.i64_in _ (by omega)
      have a2 : IntKind.i64.wrap ((k : Int) + 1) = (k : Int) + 1 := IntWalk.i64_in _ (by omega)
      have a3 : IntKind.i64.wrap (((k : Int) + 1) * 64) = ((k : Int) + 1) * 64 := IntWalk.i64_in _ (by omega)
      have a4 : (((k : Int) + 1) * 64).toNat = (k + 1) * 64 := by omega
      have a5 : ((k : Int) * 64).toNat = k * 64 := by omega
      have a6 : 0 ≤ (k : Int) * 64 := by omega
      have a7 : (k : Int) * 64 ≤ ((k : Int) + 1) * 64 := by omega
      have a8 : ((k : Int) + 1) * 64 ≤ (q : Int) * 64 := by omega
      have a9 : ¬ (q * 64 = k * 64) := by omega
      have aa : (k + 1) * 64 - k * 64 = 64 := by omega
      have ab : 0 ≤ ((k : Int) + 1) * 64 := by omega
      have ac : (k : Int) + 1 ≤ (q : Int) := by omega
      have ad : (k : Int) ≤ (k : Int) + 1 := by omega
      go_wp2_with fail
      go_still_tail 8, (by kernel_rfl)
      clear a1 a2 a3 a4 a5 a6 a7 a8 a9 aa ab ac ad
      change wpList _ _ _ _ _ wr.drew
      go_wp2_with fail
      change Calls Tryd.prog 68 #[Value.agg st.cells, Value.slice (some ⟨w.heap.size + 1, k * 64, none⟩) 64 (q * 64 - k * 64)] _ _
      refine (mix_any st (w.heap.size + 1) (k * 64) 64 (q * 64 - k * 64) (pp.drop (64 * k)) _ (by omega) (by omega) (by omega) R1'.out.lt ?_ ?_ ?_ ?_).mono ?_
      · intro i hi
        rw [R1'.out.cell, arrB_get _ _ _ (by rw [HQ.out]; omega) (by omega)]
        simp [List.getD, List.getElem?_drop, Nat.mul_comm]
      · exact getD_range _ (fun x hx => HP.out x (List.mem_of_mem_drop hx))
      · exact Nat.lt_of_lt_of_le ht.there hbl.size
      · exact (ht.below hbl).rounds
      rintro e w3 ⟨rfl, hb3⟩
      have Q2 : Hid (w3.heap[w1.heap.size]? = some (.cells st.cells 88 (0, 0))) := R2.out.below hb3 R2.out.lt
      have Q1 : Hid (Row w3 (w.heap.size + 1) 5 (arrB (q * 64) pp)) := R1'.out.below hb3 R1'.out.lt
      have Q0 : Hid (Row w3 w.heap.size 40 (arrB 32 [])) := R0.out.below hb3 R0.out.lt
      have bl3 : Below w.heap.size w w3 := hbl.drew.trans (hb3.mono hbl.size)
      clear hb3 e0 e1 e2 e3 e4 e5 e6 e7
      generalize mixS st (pp.drop (64 * k)) = st2 at *
      go_wp2_with ((with_reducible refine wpList_store_row (o := ⟨none, .store 88 _ _, _, _, _, _⟩) ?_ 88 (.tmp 4) (.tmp 23) ?_ w1.heap.size st2.cells ?_ ?_ 88 st.cells Q2.out (info40 st2) ?_ st2.cells_one ?_); (rfl); (rfl); (rfl); (rfl); (rfl))
      go_roundw
      case rel =>
        refine ⟨k + 1, by omega, by go_num, below_setRow bl3 (by omega) _, Q0.out.setRowFar (by omega), Q1.out.setRowFar (by omega), ?_⟩
        rw [hst.out]
        exact Row.setRow Q2.out
      case measure => simp [intOf]; omega
    · obtain rfl : k = q := by omega
      have hfin : Hid (sumL xs = idPre (sumK pp k) 8) := hsum
      generalize sumK pp k = st at *
      have Z2 : Hid (wr.heap[w1.heap.size]? = some (.cells st.cells 88 (0, 0))) := r2
      have Z0 : Hid (Row wr w.heap.size 40 (arrB 32 [])) := r0
      clear r0 r1 r2 hrows
      go_wp2_with ((with_reducible refine wpList_load_row (o := ⟨some 25, _, _, _, _, _⟩) ?_ 88 (.tmp 4) ?_ w1.heap.size ?_ 88 st.cells (0, 0) _ Z2.out Tryd.underlying88 ?_ (info40 st) ?_); (rfl); (rfl); (rfl); (rfl))
      refine (id_any st wr).mono ?_
      rintro e w3 ⟨rfl, hb3⟩
      have hsz : Hid ((arrB 32 (idPre st 8)).size = 32 ∧ (arrB 32 []).size = (arrB 32 (idPre st 8)).size ∧ (arrB 32 (idPre st 8)).all (·.oneCell') = true) :=
        Lib.hid ⟨arrB_size _ _ (by rw [idPre_len]; omega), by rw [arrB_size 32 (idPre st 8) (by rw [idPre_len]; omega), arrB_size 32 [] (by simp)], arrB_one _ _⟩
      have Q0 : Hid (w3.heap[w.heap.size]? = some (.cells (arrB 32 []) 40 (0, 0))) := Z0.out.below hb3 Z0.out.lt
      have bl3 : Below w.heap.size w w3 := hbl.trans (hb3.mono hbl.size)
      clear hb3 Z0 Z2
      have HF : Hid (arrB 32 (sumL xs) = arrB 32 (idPre st 8)) := by show _ = _; rw [hfin.out]
      generalize arrB 32 (idPre st 8) = cs at *
      generalize arrB 32 [] = zs at *
      go_wp2_with (first
        | ((with_reducible refine wpList_store_row (o := ⟨none, .store 40 _ _, _, _, _, _⟩) ?_ 40 (.tmp 2) (.tmp 26) ?_ w.heap.size cs ?_ ?_ 40 zs Q0.out (info26 cs hsz.out.1) hsz.out.2.1 hsz.out.2.2 ?_); (rfl); (rfl); (rfl); (rfl))
        | ((with_reducible refine bodyPost_ret (v := .agg cs) ?_ ?_ ?_); (exact results_cell_row (p := 2) (ty := 40) Tryd.results53 _ _ w.heap.size 40 cs (0, 0) _ rfl (setRow_heap _ _ zs cs 40 (0, 0) Q0.out) Tryd.underlying40 rfl (info26 cs hsz.out.1)); (rfl)))
      exact ⟨by rw [HF.out], below_setRow bl3 (Nat.le_refl _) _⟩
theorem sumL_len (xs : List Int) : (sumL xs).length = 32 := by unfold sumL; rw [idPre_len]
open Go.ChangeShapes Go.WideShapes Go.ChangeAt Go.RowKit
theorem gFirst : Tryd.prog.globalNamed "stepladder/sha.firstWords" = some 0 := by kernel_rfl
theorem gFirstType : (Tryd.prog.globals[0]?).map (·.type) = some 88 := by kernel_rfl
theorem gRound : Tryd.prog.globalNamed "stepladder/sha.roundNumbers" = some 1 := by kernel_rfl
theorem gRoundType : (Tryd.prog.globals[1]?).map (·.type) = some 101 := by kernel_rfl
theorem cells40 : Tryd.prog.cellsOf 88 = 8 := by kernel_rfl
theorem cells48 : Tryd.prog.cellsOf 101 = 64 := by kernel_rfl
theorem cells39 : Tryd.prog.cellsOf 87 = 1 := by kernel_rfl
def laidBoth : List (String × DataW Unit) := [("stepladder/sha.firstWords", Rows.laid_stepladder_sha_firstWords), ("stepladder/sha.roundNumbers", Rows.laid_stepladder_sha_roundNumbers)]
theorem tables_of_laid {W : World} (h : laidMetH Tryd.prog laidBoth W) : Tables W := by
  have h1 : Lib.TabIs Tryd.prog W "stepladder/sha.firstWords" .u32 [1779033703, 3144134277, 1013904242, 2773480762, 1359893119, 2600822924, 528734635, 1541459225] :=
    Lib.tabIs_of_head (rest := [("stepladder/sha.roundNumbers", Rows.laid_stepladder_sha_roundNumbers)]) gFirst gFirstType Tryd.underlying88 Tryd.underlying87 cells39 cells40 h
  have h2 : Lib.TabIs Tryd.prog W "stepladder/sha.roundNumbers" .u32 roundNs :=
    Lib.tabIs_of_head (rest := []) gRound gRoundType Tryd.underlying101 Tryd.underlying87 cells39 cells48 (h.filter (fun x => x.1 == "stepladder/sha.roundNumbers"))
  refine ⟨fun i hi => h1.cell gFirst i hi, fun i hi => h2.cell gRound i hi, ?_⟩
  have := h2.cell gRound 0 (by decide)
  rcases Nat.lt_or_ge 1 W.heap.size with hl | hl
  · exact hl
  · simp [World.cell?, Array.getElem?_eq_none hl] at this
/-- The same block with other cells. -/
def withCells (cs : Array Value) : Obj → Obj
  | .cells _ t frozen => .cells cs t frozen
  | o => o
/-- A WORLD FOR THE WITNESS: the settled one, the two tables holding what their initialisers lay. -/
noncomputable def laidWorld (os : Os) : World :=
  { World.holding Tryd.prog os ⟨#[], #[], []⟩ with heap := ((World.holding Tryd.prog os ⟨#[], #[], []⟩).heap.modify 0 (withCells firstW.cells)).modify 1 (withCells (roundNs.map u32v).toArray) }
/-- w has grown to u, and each block of the list is as told. -/
structure EnvX (w u : World) (l : List (Nat × Obj)) : Prop where
  bel : Below w.heap.size w u
  box : ∀ g o, (g, o) ∈ l → u.heap[g]? = some o
theorem EnvX.lt {w u : World} {l : List (Nat × Obj)} (h : EnvX w u l) {g : Nat} {o : Obj} (hm : (g, o) ∈ l) : g < u.heap.size := by
  have h1 := h.box g o hm
  rcases Nat.lt_or_ge g u.heap.size with h2 | h2
  · exact h2
  · rw [Array.getElem?_eq_none h2] at h1
    cases h1
theorem EnvX.start (w : World) : EnvX w w [] := ⟨Below.refl _ _, fun _ _ h => by cases h⟩
theorem EnvX.below {w u v : World} {l : List (Nat × Obj)} (h : EnvX w u l) (hb : Below u.heap.size u v) : EnvX w v l :=
  ⟨h.bel.trans (hb.mono h.bel.size), fun g o hm => (hb.block g (h.lt hm)).trans (h.box g o hm)⟩
theorem EnvX.drew {w u : World} {l : List (Nat × Obj)} (h : EnvX w u l) : EnvX w u.drew l := ⟨h.bel.drew, h.box⟩
theorem EnvX.new {w u : World} {l : List (Nat × Obj)} (h : EnvX w u l) (o : Obj) : EnvX w (u.alloc o) ((u.heap.size, o) :: l) := by
  refine ⟨h.bel.alloc h.bel.size _, fun g o' hm => ?_⟩
  rcases List.mem_cons.1 hm with e | e
  · cases e
    exact heap_alloc_new u o
  · exact (Below.heap_alloc u o g (h.lt e)).trans (h.box g o' e)
theorem EnvX.two {w u : World} {l : List (Nat × Obj)} (h : EnvX w u l) (o o' : Obj) : EnvX w ((u.alloc o).alloc o') ((u.heap.size + 1, o') :: (u.heap.size, o) :: l) := by
  have h1 := (h.new o).new o'
  rwa [World.size_alloc] at h1
theorem EnvX.sub {w u : World} {l l' : List (Nat × Obj)} (h : EnvX w u l) (hs : ∀ x ∈ l', x ∈ l) : EnvX w u l' := ⟨h.bel, fun g o hm => h.box g o (hs _ hm)⟩
theorem EnvX.row {w u : World} {l : List (Nat × Obj)} (h : EnvX w u l) {g : Nat} {cs : Array Value} {t : TypeId} (hm : (g, Obj.cells cs t (0, 0)) ∈ l) : Row u g t cs := h.box g _ hm
/-- the class of worlds -/
def EnvC (w : World) (l : List (Nat × Obj)) (u : World) : Prop := EnvX w u l
theorem EnvC.box {w u : World} {l : List (Nat × Obj)} (h : EnvC w l u) (g : Nat) (o : Obj) (hm : (g, o) ∈ l) : u.heap[g]? = some o := EnvX.box h g o hm
theorem EnvC.call {w u : World} {l : List (Nat × Obj)} {P : Program} {f : FuncId} {args : Array Value} {v : Value} (hu : EnvC w l u)
    (h : Calls P f args u fun e w' => e = .returned v ∧ Below u.heap.size u w') : Calls P f args u fun e w' => e = .returned v ∧ EnvC w l w' :=
  h.mono fun _ _ ⟨he, hb⟩ => ⟨he, EnvX.below hu hb⟩
/-- what holds in each world of a class that has one, whatever that is, holds -/
theorem EnvC.one {w u : World} {l : List (Nat × Obj)} (h : EnvX w u l) (x y : Value) : (∀ v, EnvC w l v → x = y) ↔ x = y := ⟨fun k => k u h, fun e _ _ => e⟩
section
variable {P : Program} {C : World → Prop} {a : Act} {o : Oper} {K : Act → Prop}
end
section
variable {P : Program} {ops : Array Oper} {md : Region.Mode} {S : World → Prop} {w0 : World}
/-- what an operation that makes no memory, or a call told by Below, yields -/
def GUpon (P : Program) (u : World) (v : Value) : Result Next → Prop
  | .ok (.value x) u' => u' = u ∧ x = v
  | .ok .skip u' => u' = u ∧ v = undef
  | .ok (.enter f args) u' => u' = u ∧ Calls P f args u (fun e w'' => e = .returned v ∧ Below u.heap.size u w'')
  | _ => False
def GAt (P : Program) (o : Oper) (a : Act) (v : Value) (u : World) : Prop := GUpon P u v ((execOp a.eval o).run P u)
/-- the same in every world -/
def pureB (o : Oper) : Bool := match o.op with | .move _ | .assign _ | .extract _ _ => true | _ => false
/-- functions that write to what they are handed -/
def turnsB (f : FuncId) : Bool := f == 99999999 || f == 99999999 || f == 99999999 || f == 99999999 || f == 99999999 || f == 99999999 || f == 99999999 || f == 71 || f == 12 || f == 14 || f == 13 || f == 15 || f == 99999999 || f == 99999999 || f == 99999999 || f == 99999999 || f == 99999999 || f == 99999999
def storeB (o : Oper) : Bool := match o.op with | .store _ _ _ => true | .call c => (match c.callee with | .builtin .append => true | .builtin .copy => true | .builtin .clear => true | .value (.tmp _) => true | .value (.func f) => turnsB f | _ => false) | _ => false
theorem pure_any {o : Oper} (h : pureB o = true) {a : Act} {v : Value} {u : World} (hq : GAt P o a v u) (u' : World) : GAt P o a v u' := by
  unfold GAt at *
  unfold pureB at h
  unfold execOp at *
  cases hop : o.op <;> simp only [hop] at h hq ⊢ <;> first | (cases h; done) | skip
  case move x => exact ⟨rfl, hq.2⟩
  case assign x => exact ⟨rfl, hq.2⟩
  case extract x i =>
    cases hx : a.eval x with
    | tuple vs =>
      simp only [hx, Instr.extract] at hq ⊢
      cases hv : vs[i]? with
      | none => simp only [hv] at hq; exact hq.elim
      | some y => simp only [hv] at hq ⊢; exact ⟨rfl, hq.2⟩
    | _ => simp only [hx, Instr.extract] at hq; exact hq.elim
/-- a new block of its own -/
def NewAt (P : Program) (o : Oper) (a : Act) (z : Obj) : Prop := ∀ u, (execOp a.eval o).run P u = .ok (.value (.pointer (some ⟨u.heap.size, 0, none⟩))) (u.alloc z)
/-- a store of a whole row -/
def PutAt (P : Program) (o : Oper) (a : Act) (g : Nat) (old cs : Array Value) (t : TypeId) : Prop := ∀ u, u.heap[g]? = some (.cells old t (0, 0)) → (execOp a.eval o).run P u = .ok .skip (u.setRow g cs)
theorem EnvX.put {w u : World} {l l' : List (Nat × Obj)} (h : EnvX w u l) {g : Nat} {old cs : Array Value} {t : TypeId} (hg : w.heap.size ≤ g) (hm : (g, Obj.cells old t (0, 0)) ∈ l)
    (hl : ∀ x ∈ l', x = (g, Obj.cells cs t (0, 0)) ∨ (x ∈ l ∧ x.1 ≠ g)) : EnvX w (u.setRow g cs) l' := by
  refine ⟨below_setRow h.bel hg _, fun k o hk => ?_⟩
  rcases hl _ hk with e | ⟨hk', hne⟩
  · cases e
    exact setRow_heap u g old cs t (0, 0) (h.box g _ hm)
  · exact (setRow_other u g k cs hne).trans (h.box k o hk')
def ancB (md : Region.Mode) (ops : Array Oper) : Nat → Nat → Nat → Bool
  | 0, _, _ => false
  | f + 1, j, i => match ops[j]? with
    | some o => o.after.any fun e => Region.binds md e && (e.on == i || ancB md ops f e.on i)
    | none => false
def closedL (md : Region.Mode) (ops : Array Oper) (listed : Array Bool) : Prop :=
  ∀ j oj, ops[j]? = some oj → listed.getD j false = true → ∀ e ∈ oj.after, Region.binds md e = true → listed.getD e.on false = true
theorem anc_listed {listed : Array Bool} (hc : closedL md ops listed) {i : Nat} : ∀ (f j : Nat), (∀ oj, ops[j]? = some oj → ∀ e ∈ oj.after, Region.binds md e = true → listed.getD e.on false = true) → ancB md ops f j i = true → listed.getD i false = true
  | 0, _, _, h => by simp [ancB] at h
  | f + 1, j, hj, h => by
    unfold ancB at h
    split at h
    · rename_i o ho
      obtain ⟨e, he, hb⟩ := Array.any_eq_true'.1 h
      simp only [Bool.and_eq_true, Bool.or_eq_true, beq_iff_eq] at hb
      have hl := hj o ho e he hb.1
      rcases hb.2 with h1 | h1
      · rw [← h1]; exact hl
      · exact anc_listed hc f e.on (fun oj hoj e' he' hb' => hc e.on oj hoj hl e' he' hb') h1
    · cases h
theorem closedL_set {listed : Array Bool} {i : Nat} (hc : closedL md ops listed) (hi : i ∈ Region.ready md ops listed) : closedL md ops (listed.setIfInBounds i true) := by
  obtain ⟨_, oi, hoi, hall⟩ := mem_ready.1 hi
  intro j oj hj hl e he hb
  by_cases hij : i = j
  · subst hij
    have : oj = oi := Option.some.inj (hj.symm.trans hoi)
    subst this
    exact getD_set_true (hall e he hb)
  · rw [getD_set_ne false hij] at hl
    exact getD_set_true (hc j oj hj hl e he hb)
/-- operation i yields v now -/
def YieldsG (P : Program) (ops : Array Oper) (S : World → Prop) (o : Oper) (v : Value) (b : Bool) (a : Act) : Prop :=
  (Region.wanted o (yielded ops a.tmps) = true ∧ ((b = true ∧ ∀ u, S u → GAt P o a v u) ∨ ∀ u, GAt P o a v u)) ∨
  (Region.wanted o (yielded ops a.tmps) = false ∧ v = undef)
theorem YieldsG.of_same {o : Oper} {v : Value} {a a' : Act} {b : Bool} (hy : YieldsG P ops S o v b a) (he : execOp a'.eval o = execOp a.eval o)
    (hw : Region.wanted o (yielded ops a'.tmps) = Region.wanted o (yielded ops a.tmps)) : YieldsG P ops S o v b a' := by
  unfold YieldsG GAt at *
  rw [he, hw]
  exact hy
/-- operation i may be taken first -/
def gfree (md : Region.Mode) (ops : Array Oper) (listed : Array Bool) (i : Nat) (p : Bool) : Bool :=
  match ops[i]? with
  | none => false
  | some oi => (List.range ops.size).all fun j => j == i || listed.getD j true || match ops[j]? with
      | some oj => (oi.apart ops oj && (p || !storeB oj)) || oj.after.any (fun e => Region.binds md e && e.on == i) || ancB md ops ops.size j i
      | none => true
/-- The walk of the quiet ones, in the order that is given. -/
def wpG0 (P : Program) (l : List Oper) (S : World → Prop) (Q : Act → Prop) : List Nat → Act → Prop
  | [], a => Q a
  | i :: rest, a => match l[i]? with
    | none => False
    | some o => if Region.wanted o (yielded l.toArray a.tmps) then ∃ v, (∀ u, S u → GAt P o a v u) ∧ wpG0 P l S Q rest (a.put o.dst v) else wpG0 P l S Q rest (a.put o.dst undef)
structure wpG (P : Program) (l : List Oper) (S : World → Prop) (Q : Act → Prop) (ord : List Nat) (a : Act) : Prop where
  out : wpG0 P l S Q ord a
def lexG (md : Region.Mode) (ops : Array Oper) : List Nat → Array Bool → Bool
  | [], _ => true
  | i :: rest, listed => (Region.ready md ops listed).contains i && gfree md ops listed i ((ops[i]?.map pureB).getD false) && lexG md ops rest (listed.setIfInBounds i true)
def listedBy : List Nat → Array Bool → Array Bool
  | [], l => l
  | i :: rest, l => listedBy rest (l.setIfInBounds i true)
theorem gfree_spec {i : Nat} {oi : Oper} {listed : Array Bool} {p : Bool} (hi : ops[i]? = some oi) (h : gfree md ops listed i p = true) (j : Nat) (oj : Oper) (hj : ops[j]? = some oj) (hne : j ≠ i) (hun : listed.getD j true = false) :
    ancB md ops ops.size j i = true ∨ (oi.apart ops oj = true ∧ (p = true ∨ storeB oj = false)) := by
  simp only [gfree, hi, List.all_eq_true, List.mem_range] at h
  have hsz := (Array.getElem?_eq_some_iff.1 hj).1
  have h1 := h j hsz
  simp only [hj, Bool.or_eq_true, beq_iff_eq, hne, false_or, hun, Bool.false_eq_true, Bool.and_eq_true, Bool.not_eq_true'] at h1
  rcases h1 with (h1 | h1) | h1
  · exact .inr h1
  · left
    obtain ⟨n, hn⟩ : ∃ n, ops.size = n + 1 := ⟨ops.size - 1, by omega⟩
    rw [hn]
    unfold ancB
    simp only [hj]
    obtain ⟨e, he, hb⟩ := Array.any_eq_true'.1 h1
    simp only [Bool.and_eq_true, beq_iff_eq] at hb
    exact Array.any_eq_true'.2 ⟨e, he, by simp [hb.1, hb.2]⟩
  · exact .inl h1
theorem run_enter {f : FuncId} {fn : Func} {c : Code} (hf : P.funcs[f]? = some fn) (hname : (fn.name == "runtime.NumGoroutine") = false) (hb : fn.body = some c) (args : Array Value) (w : World) :
    (callFunc f args).run P w = .ok (.enter f args) w := by
  have h1 : fn.name ≠ "runtime.NumGoroutine" := by simpa using hname
  simp [callFunc, hf, h1, hb]
section
variable {l : List Oper} {C : World → Prop} {Q : Act → Prop} {a : Act} {i : Nat} {rest : List Nat} {dst : Option Tmp} {op : Op} {ty : TypeId} {pos : String} {after : Array Edge} {gd : Option (Nat × Bool)}
theorem wpG_nil (h : Q a) : wpG P l C Q [] a := ⟨h⟩
/-- an operation that is not wanted -/
theorem wpG_skip (ho : l[i]? = some ⟨dst, op, ty, pos, after, gd⟩) (hw : Region.wanted ⟨dst, op, ty, pos, after, gd⟩ (yielded l.toArray a.tmps) = false)
    (h : ∀ K : Act → Prop, (∀ a, wpG P l C Q rest a → K a) → Oper.quiet P ⟨dst, .move (.const undef), ty, pos, after, gd⟩ a C K) {u0 : World} (h0 : C u0) : wpG P l C Q (i :: rest) a := by
  refine ⟨?_⟩
  unfold wpG0
  simp only [ho]
  rw [if_neg (by rw [hw]; exact Bool.false_ne_true)]
  obtain ⟨v, hv, hK⟩ := h (wpG0 P l C Q rest) (fun _ h => h.out)
  have h1 := hv u0 h0
  have e : v = undef := by
    unfold Oper.quietAt execOp at h1
    exact h1.2.symm
  rw [e] at hK
  exact hK
theorem quietAt_GAt {o : Oper} {v : Value} {u : World} (h : ∀ f args u', (execOp a.eval o).run P u ≠ .ok (.enter f args) u') (hq : Oper.quietAt P o a C u v) : GAt P o a v u := by
  unfold Oper.quietAt at hq
  unfold GAt
  generalize (execOp a.eval o).run P u = r at *
  cases r with
  | ok n w' =>
    cases n <;> simp only [Oper.quietUpon] at hq <;> simp only [GUpon]
    case value x => exact hq
    case skip => exact hq
    case enter f args => exact absurd rfl (h f args w')
  | halt x w' => simp only [Oper.quietUpon] at hq
def valueB (op : Op) : Bool := match op with | .move _ | .assign _ | .pick _ _ _ | .build _ _ | .load _ _ | .binOp _ _ _ _ _ | .unOp _ _ _ | .convert _ _ _ | .indexAddr _ _ _ | .fieldAddr _ _ _ | .field _ _ _ | .index _ _ _ | .extract _ _ => true | _ => false
theorem value_stays {α : Type} (s : Sem α) (g : α → Value) (u : World) (f : FuncId) (args : Array Value) (u' : World) : (s >>= fun x => (pure (Next.value (g x)) : Sem Next)).run P u ≠ .ok (.enter f args) u' := by
  rw [Sem.run_bind]
  cases s.run P u with
  | ok x w => intro h; simp [Result.andThen] at h
  | halt x w => intro h; simp [Result.andThen] at h
theorem value_noEnter (hv : valueB op = true) (u : World) (f : FuncId) (args : Array Value) (u' : World) : (execOp a.eval ⟨dst, op, ty, pos, after, gd⟩).run P u ≠ .ok (.enter f args) u' := by
  unfold valueB at hv
  cases op <;> first | (cases hv; done) | (unfold execOp; exact value_stays _ id u f args u') | (unfold execOp; intro h; simp at h; done) | skip
  case pick c x y => exact value_stays (asBool (a.eval c)) (fun b => if b then a.eval x else a.eval y) u f args u'
/-- an operation that calls nothing -/
theorem wpG_op (ho : l[i]? = some ⟨dst, op, ty, pos, after, gd⟩) (hw : Region.wanted ⟨dst, op, ty, pos, after, gd⟩ (yielded l.toArray a.tmps) = true) (hv : valueB op = true)
    (h : ∀ K : Act → Prop, (∀ a, wpG P l C Q rest a → K a) → Oper.quiet P ⟨dst, op, ty, pos, after, gd⟩ a C K) : wpG P l C Q (i :: rest) a := by
  refine ⟨?_⟩
  unfold wpG0
  simp only [ho]
  rw [if_pos hw]
  obtain ⟨v, hq, hK⟩ := h (wpG0 P l C Q rest) (fun _ h => h.out)
  exact ⟨v, fun u hu => quietAt_GAt (value_noEnter hv u) (hq u hu), hK⟩
/-- an operation whose value is told -/
theorem wpG_val {v : Value} (ho : l[i]? = some ⟨dst, op, ty, pos, after, gd⟩) (hw : Region.wanted ⟨dst, op, ty, pos, after, gd⟩ (yielded l.toArray a.tmps) = true)
    (hv : ∀ u, C u → (execOp a.eval ⟨dst, op, ty, pos, after, gd⟩).run P u = .ok (.value v) u)
    (h : ∀ K : Act → Prop, (∀ a, wpG P l C Q rest a → K a) → Oper.quiet P ⟨dst, .move (.const v), ty, pos, after, gd⟩ a C K) {u0 : World} (h0 : C u0) : wpG P l C Q (i :: rest) a := by
  refine ⟨?_⟩
  unfold wpG0
  simp only [ho]
  rw [if_pos hw]
  obtain ⟨v', hq, hK⟩ := h (wpG0 P l C Q rest) (fun _ h => h.out)
  have e : v' = v := by
    have h1 := hq u0 h0
    unfold Oper.quietAt execOp at h1
    exact h1.2.symm
  rw [e] at hK
  exact ⟨v, fun u hu => by unfold GAt; rw [hv u hu]; exact ⟨rfl, rfl⟩, hK⟩
/-- a call -/
theorem wpG_call {f : FuncId} {xs : Array Operand} {ats : Array TypeId} {fn : Func} {c : Code} {v : Value} {args : Array Value} (ho : l[i]? = some ⟨dst, .call { callee := .value (.func f), args := xs, argTypes := ats }, ty, pos, after, gd⟩)
    (hw : Region.wanted ⟨dst, .call { callee := .value (.func f), args := xs, argTypes := ats }, ty, pos, after, gd⟩ (yielded l.toArray a.tmps) = true)
    (hargs : xs.toList.map a.eval = args.toList) (hfn : P.funcs[f]? = some fn) (hname : (fn.name == "runtime.NumGoroutine") = false) (hb : fn.body = some c)
    (hcall : ∀ u, C u → Calls P f args u (fun e w'' => e = .returned v ∧ Below u.heap.size u w''))
    (h : ∀ K : Act → Prop, (∀ a, wpG P l C Q rest a → K a) → Oper.quiet P ⟨dst, .move (.const v), ty, pos, after, gd⟩ a C K) {u0 : World} (h0 : C u0) : wpG P l C Q (i :: rest) a := by
  refine ⟨?_⟩
  unfold wpG0
  simp only [ho]
  rw [if_pos hw]
  obtain ⟨v', hv, hK⟩ := h (wpG0 P l C Q rest) (fun _ h => h.out)
  have e : v' = v := by
    have h1 := hv u0 h0
    unfold Oper.quietAt execOp at h1
    exact h1.2.symm
  rw [e] at hK
  refine ⟨v, fun u hu => ?_, hK⟩
  have hrun : (execOp a.eval ⟨dst, .call { callee := .value (.func f), args := xs, argTypes := ats }, ty, pos, after, gd⟩).run P u = .ok (.enter f args) u := by
    have ha : xs.map a.eval = args := by
      apply Array.ext'
      rw [Array.toList_map]
      exact hargs
    rw [execOp_call_go]
    simp only [Array.empty_append, Array.append_empty, ha]
    exact run_enter hfn hname hb _ u
  unfold GAt
  rw [hrun]
  exact ⟨rfl, hcall u hu⟩
end
section
variable {Q : Act → Bool → List (Nat × Obj) → Prop} {f : Nat} {listed : Array Bool} {a : Act} {b : Bool} {M : List (Nat × Obj)}
theorem put_told {dst : Option Tmp} {v : Value} {ty : TypeId} {pos : String} {after : Array Edge} {K : Act → Prop} (w0 : World)
    (h : ∀ K' : Act → Prop, (∀ a', K a' → K' a') → Oper.quiet P ⟨dst, .move (.const v), ty, pos, after, none⟩ a (fun _ => True) K') : K (a.put dst v) := by
  obtain ⟨v', hv, hK⟩ := h K (fun _ h => h)
  have e : v' = v := by
    have h1 := hv w0 trivial
    unfold Oper.quietAt execOp at h1
    exact h1.2.symm
  rw [e] at hK
  exact hK
end
end
end Go.Proofs.YtabhhbdbkeeblaaDoor
