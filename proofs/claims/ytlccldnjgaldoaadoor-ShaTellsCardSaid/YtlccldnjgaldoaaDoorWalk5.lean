/- The walk of Pad: what bytes become. -/
import Derived.Test.YtlccldnjgaldoaaDoorWalk4
import Derived.WalkKit
import Derived.ProofKit
import Derived.Handy
import Derived.Deep.MidRow
import Derived.Laws.CopyOwn
import Derived.Laws.MakeOwn
import Derived.Deep.WholeRow
import Derived.Deep.Cut
import Derived.Deep.QuietTactic
import Derived.BigQuiet
import Derived.StillTailTactics
import Derived.Lib.Hide
namespace Go.Proofs.YtlccldnjgaldoaaDoor
open Go.RowKit




theorem made_bytes (m : Nat) : madeCells #[.int .u8 0] m = arrB m [] := by
  apply arrB_ext
  · simp
  · exact size_madeCells _ _
  · intro i hi
    have e : i % 1 = 0 := by omega
    simp [madeCells, hi, e]
theorem info5 : (Tryd.prog.info? 5).map (fun i => (i.zero, i.size, i.bytes)) = some (some (.int .u8 0), 1, 1) := by kernel_rfl
theorem make_bytes (m : Nat) (hm : m ≤ 140737488355328) (w : World) : (Instr.makeSlice 22 (.int .i64 (m : Int)) (.int .i64 (m : Int))).run Tryd.prog w = .ok (.slice (some ⟨w.heap.size, 0, none⟩) m m) (w.alloc (.cells (arrB m []) 5)) := by
  cases hq : Tryd.prog.info? 5 with
  | none => have := info5; rw [hq] at this; cases this
  | some i =>
    have h := info5
    rw [hq] at h
    simp only [Option.map_some, Option.some.injEq, Prod.mk.injEq] at h
    obtain ⟨h1, h2, h3⟩ := h
    have hr := run_make (P := Tryd.prog) w 22 5 i _ Tryd.underlying22 hq h1 .i64 .i64 (m : Int) (m : Int) (by omega) (by omega) (by rw [h3]; omega) (by omega)
    simp only [Int.toNat_natCast, h2, Nat.mul_one] at hr
    rw [← made_bytes]
    exact hr
/-- Bytes that are read from a slice's address; none of them: any address. -/
def Bytes (w : World) (B : Nat) (A : Option Addr) (xs : List Int) : Prop := 0 < xs.length → ∃ ad, A = some ad ∧ ad.block < B ∧ ∀ j v, (xs.map u8v)[j]? = some v → w.cell? (ad.add j) = some v
theorem block_of_add (a : Addr) (n : Nat) : (a.add n).block = a.block := by unfold Addr.add; split <;> rfl
theorem Bytes.below {w w' : World} {B : Nat} {A : Option Addr} {xs : List Int} (h : Bytes w B A xs) (hb : Below B w w') : Bytes w' B A xs := by
  intro hp
  obtain ⟨ad, e, hlt, hc⟩ := h hp
  exact ⟨ad, e, hlt, fun j v hv => (hb.cell (by rw [block_of_add]; exact hlt)).trans (hc j v hv)⟩
/-- What bytes become: m bytes in all. -/
def padL (xs : List Int) (m : Nat) : List Int := xs ++ [128] ++ List.replicate (m - 9 - xs.length) 0 ++ lenL xs.length
theorem lenL_len (n : Int) : (lenL n).length = 8 := rfl
theorem padL_len (xs : List Int) (m : Nat) (h : xs.length + 9 ≤ m) : (padL xs m).length = m := by simp [padL, lenL_len]; omega
def listB (n : Nat) (l : List Int) : List Value := (l ++ List.replicate (n - l.length) 0).map u8v
theorem arrB_listB (n : Nat) (l : List Int) : arrB n l = (listB n l).toArray := rfl
theorem listB_len (n : Nat) (l : List Int) (h : l.length ≤ n) : (listB n l).length = n := by simp [listB]; omega
theorem splice_first (m : Nat) (xs : List Int) : splice (listB m []) 0 (xs.map u8v) = listB m xs := by
  simp [splice, listB, List.drop_replicate]
theorem splice_last (m : Nat) (xs : List Int) (h : xs.length + 9 ≤ m) : splice (listB m (xs ++ [128])) (m - 8) ((lenL xs.length).map u8v) = listB m (padL xs m) := by
  have e1 : m - 8 + (lenL xs.length).length = m := by rw [lenL_len]; omega
  have e2 : (listB m (xs ++ [128])).take (m - 8) = (xs ++ [128] ++ List.replicate (m - 9 - xs.length) 0).map u8v := by
    unfold listB
    rw [← List.map_take]
    congr 1
    rw [List.take_append]
    congr 1
    · exact List.take_of_length_le (by simp; omega)
    · rw [List.take_replicate]
      congr 1
      simp
      omega
  have e3 : (listB m (xs ++ [128])).drop m = [] := List.drop_eq_nil_of_le (by rw [listB_len _ _ (by simp; omega)]; omega)
  unfold splice
  rw [e2, List.length_map, e1, e3]
  simp [listB, padL, lenL_len]
  omega
theorem info36 (cs : Array Value) (h : cs.size = 8) : (Tryd.prog.info? 36).map (·.size) = some cs.size := by rw [h]; kernel_rfl
theorem info5s : (Tryd.prog.info? 5).map (·.size) = some 1 := by kernel_rfl
set_option maxHeartbeats 4000000 in
theorem pad_any (A : Option Addr) (n c : Nat) (xs : List Int) (w : World) (hl : xs.length = n) (hn : n ≤ 70368744177664) (hx : Bytes w w.heap.size A xs) :
    Calls Tryd.prog 10 #[.slice A n c] w fun e w' => e = .returned (.slice (some ⟨w.heap.size, 0, none⟩) ((n + 72) / 64 * 64) ((n + 72) / 64 * 64)) ∧ Row w' w.heap.size 5 (arrB ((n + 72) / 64 * 64) (padL xs ((n + 72) / 64 * 64))) ∧ Below w.heap.size w w' := by
  have HL := Lib.hid hl
  have HX := Lib.hid hx
  clear hl hx
  obtain ⟨m, hm'⟩ : ∃ m : Nat, (n + 72) / 64 * 64 = m := ⟨_, rfl⟩
  rw [hm']
  have hm : ((n : Int) + 1 + 8 + 64 - 1) / 64 * 64 = m := by omega
  have HM := Lib.hid hm
  have m1 : n + 9 ≤ m := by omega
  have m2 : m < n + 73 := by omega
  clear hm hm'
  go_enter Tryd.func10, Tryd.ntmps10
  go_wp2_with fail
  rw [HM.out, make_bytes m (by omega)]
  have H0 : Hid ((w.alloc (.cells (arrB m []) 5)).heap[w.heap.size]? = some (.cells (listB m []).toArray 5 (0, 0))) := Row.new w 5 (arrB m [])
  have HB : Hid (Below w.heap.size w (w.alloc (.cells (arrB m []) 5))) := Lib.hid ((Below.refl _ _).alloc (Nat.le_refl _) _)
  have HC : Hid (0 < (xs.map u8v).length → some (⟨w.heap.size, 0, none⟩ : Addr) = some ⟨w.heap.size, 0, none⟩ ∧ ∃ ad, A = some ad ∧ ∀ j v, (xs.map u8v)[j]? = some v → (w.alloc (.cells (arrB m []) 5)).cell? (ad.add j) = some v) := by
    intro hp
    obtain ⟨ad, e, _, hc⟩ := (HX.out.below HB.out) (by simpa using hp)
    exact ⟨rfl, ad, e, hc⟩
  go_wp2_with ((with_reducible refine wpList_copy_splice (o := ⟨some 20, _, _, _, _, _⟩) ?_ (.tmp 18) (.tmp 19) 22 22 ?_ 5 Tryd.underlying22 info5s _ A m m n c ?_ ?_ w.heap.size 0 (listB m []) 5 H0.out (xs.map u8v) ?_ HC.out ?_ ?_ w.heap.size w HB.out ?_ ?_); (rfl); (rfl); (rfl); (rfl); (rw [List.length_map, HL.out]; exact (Nat.min_eq_left (by omega)).symm); (rw [List.length_map, HL.out, listB_len m [] (by simp)]; omega); (intro v hv; obtain ⟨z, _, rfl⟩ := List.mem_map.1 hv; rfl); (exact Nat.le_refl _); intro w1 R1 b1; have r1 : Row w1 w.heap.size 5 (arrB m xs) := (by rw [arrB_listB, ← splice_first m xs]; exact R1.out); have c1 := (r1.cell n).trans (arrB_get m xs n (by rw [HL.out]; omega) (by omega)); have f1 := r1.frozen n; have RR := Lib.hid r1; have BB := Lib.hid b1; clear r1 R1 H0 HB HC b1)
  have r2 : Row (w1.setCell ⟨w.heap.size, n, none⟩ (.int .u8 128)) w.heap.size 5 (arrB m (xs ++ [128])) := by
    rw [← arrB_put_at m xs 128 n HL.out (by omega)]
    exact RR.out.put n _
  have b2 : Below w.heap.size w (w1.setCell ⟨w.heap.size, n, none⟩ (.int .u8 128)) := BB.out.setCell (Nat.le_refl _) _
  clear c1 f1 RR BB
  generalize w1.setCell ⟨w.heap.size, n, none⟩ (.int .u8 128) = w2 at *
  refine (len_any (n : Int) w2 (by omega) (by omega)).mono ?_
  rintro e w3 ⟨rfl, hb3⟩
  have s2 := r2.lt
  have s3 := hb3.size
  have r3 : Hid (Row w3 w.heap.size 5 (arrB m (xs ++ [128]))) := r2.below hb3 r2.lt
  have b3 : Hid (Below w.heap.size w w3) := b2.trans (hb3.mono (by omega))
  clear hb3 r2 b2
  have hls : Hid (((lenL (n : Int)).map u8v).toArray.size = 8) := rfl
  have hlo : Hid (((lenL (n : Int)).map u8v).toArray.all (·.oneCell') = true) := by
    show _ = _
    simp [lenL, u8v, Value.oneCell']
  have hlc : Hid ((lenL (n : Int)).map u8v = (lenL (xs.length : Int)).map u8v) := by rw [HL.out]; exact rfl
  generalize (lenL (n : Int)).map u8v = ll at *
  go_wp2_with (first
    | ((with_reducible refine wpList_store_row (o := ⟨none, .store 36 _ _, _, _, _, _⟩) ?_ 36 (.tmp 6) (.tmp 27) ?_ w3.heap.size ll.toArray ?_ ?_ 36 _ (heap_alloc_last w3 _) (info36 _ hls.out) ?_ hlo.out ?_); (rfl); (rfl); (rfl); (rfl); (rw [hls.out]; rfl); rw [World.setRow_alloc_new])
    | fail)
  have R4 : Hid (Row (w3.alloc (.cells ll.toArray 36)) w.heap.size 5 (arrB m (xs ++ [128]))) := r3.out.alloc _
  have R5 : Hid (Row (w3.alloc (.cells ll.toArray 36)) w3.heap.size 36 ll.toArray) := Row.new _ _ _
  have b4 : Hid (Below w.heap.size w (w3.alloc (.cells ll.toArray 36))) := Lib.hid (b3.out.alloc (by omega) _)
  clear r3 b3
  generalize w3.alloc (.cells ll.toArray 36) = w4 at *
  have s8 : IntKind.i64.wrap ((m : Int) - 8) = ((m - 8 : Nat) : Int) := by rw [IntWalk.i64_in _ (by omega)]; omega
  have s8a : m - 8 ≤ m := by omega
  have s8b : ((m - 8 : Nat) : Int) ≤ (m : Int) := by omega
  have s8c : ¬ (m = m - 8) := by omega
  have s8d : m - (m - 8) = 8 := by omega
  go_still_tail 5, (by kernel_rfl)
  clear s8 s8a s8b s8c s8d
  change wpList _ _ _ _ _ w4.drew
  refine wpList_copy_splice (o := ⟨some 33, _, _, _, _, _⟩) rfl (.tmp 31) (.tmp 32) 22 22 rfl 5 Tryd.underlying22 info5s _ _ 8 8 8 8 rfl rfl w.heap.size (m - 8) (listB m (xs ++ [128])) 5 R4.out.drew ll (by have := hls.out; simpa using this) ?_ (by rw [listB_len _ _ (by rw [List.length_append, HL.out]; simp; omega)]; have := hls.out; simp at this; omega) (by have := hlo.out; simpa using this) w.heap.size w b4.out.drew (Nat.le_refl _) ?_
  · intro _
    refine ⟨rfl, ⟨w3.heap.size, 0, none⟩, rfl, fun j v hv => ?_⟩
    rw [Addr.add_mid, Nat.zero_add, R5.out.drew.cell j]
    simpa using hv
  intro w5 R6 b5
  have R7 : Hid (Row w5 w.heap.size 5 (arrB m (padL xs m))) := by
    show Row _ _ _ _
    rw [arrB_listB, ← splice_last m xs (by rw [HL.out]; omega), ← hlc.out]
    exact R6.out
  clear R6 R4 R5
  go_wp2
  go_ret
  exact ⟨rfl, R7.out, b5⟩
end Go.Proofs.YtlccldnjgaldoaaDoor
