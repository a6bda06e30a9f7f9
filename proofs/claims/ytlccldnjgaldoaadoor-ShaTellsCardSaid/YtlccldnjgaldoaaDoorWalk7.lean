/- The walk of awake: it answers true. -/
import Derived.Test.YtlccldnjgaldoaaDoorWalk6
import Derived.WalkKit
import Derived.ProofKit
import Derived.Handy
import Derived.Lib.SlBytesConst
import Derived.Deep.MidRow
import Derived.Laws.CopyOwn
import Derived.Laws.MakeOwn
import Derived.Deep.WholeRow
import Derived.Deep.Cut
import Derived.Deep.QuietTactic
import Derived.BigQuiet
import Derived.StillTailTactics
import Derived.Lib.Hide
namespace Go.Proofs.YtlccldnjgaldoaaDoor
open Go.RowKit






theorem sum_abc : sumL [97, 98, 99] = [186, 120, 22, 191, 143, 1, 207, 234, 65, 65, 64, 222, 93, 174, 34, 35, 176, 3, 97, 163, 150, 23, 122, 156, 180, 16, 255, 97, 242, 0, 21, 173] := by decide +kernel
theorem sum_nil : sumL [] = [227, 176, 196, 66, 152, 252, 28, 20, 154, 251, 244, 200, 153, 111, 185, 36, 39, 174, 65, 228, 100, 155, 147, 76, 164, 149, 153, 27, 120, 82, 184, 85] := by decide +kernel
theorem Bytes.nil (w : World) (B : Nat) (A : Option Addr) : Bytes w B A [] := fun h => absurd h (by simp)
theorem sumL_len (xs : List Int) : (sumL xs).length = 32 := by unfold sumL; rw [idPre_len]
theorem Bytes.of_row {w : World} {g : Nat} {t : TypeId} {xs : List Int} {fr : Nat × Nat} (h : w.heap[g]? = some (.cells (xs.map u8v).toArray t fr)) : Bytes w w.heap.size (some ⟨g, 0, none⟩) xs := by
  intro _
  refine ⟨_, rfl, ?_, fun j v hv => ?_⟩
  · rcases Nat.lt_or_ge g w.heap.size with hl | hl
    · exact hl
    · rw [Array.getElem?_eq_none hl] at h
      cases h
  · rw [Addr.add_mid, Nat.zero_add, cell_of_row w g j _ t fr h]
    simpa using hv
set_option maxHeartbeats 4000000 in
theorem awake_any (w : World) (ht : Tables w) :
    Calls Tryd.prog 9 #[] w fun e w' => e = .returned (.bool true) ∧ Below w.heap.size w w' := by
  have hcv := Lib.run_convert_bytes_const (P := Tryd.prog) w 22 5 #[.int .u8 97, .int .u8 98, .int .u8 99] 3 3 Tryd.underlying22 Tryd.underlying5
  go_enter Tryd.func9, Tryd.ntmps9
  go_wp2_with fail
  clear hcv
  have b0 : Below w.heap.size w (w.alloc (.cells #[.int .u8 97, .int .u8 98, .int .u8 99] 5 (3, 4))) := (Below.refl _ _).alloc (Nat.le_refl _) _
  refine (sum_any _ 3 _ [97, 98, 99] _ rfl (by omega) (Bytes.of_row (t := 5) (fr := (3, 4)) (heap_alloc_last w _)) (by decide) (ht.below b0)).mono ?_
  rintro e w1 ⟨rfl, hb1⟩
  have t1 := Lib.hid ((ht.below b0).below hb1)
  have bw1 := Lib.hid (b0.trans (hb1.mono (by simp)))
  have s1 := hb1.size
  rw [World.size_alloc] at s1
  clear hb1 b0
  have hz : Hid ((arrB 32 (sumL [97, 98, 99])).size = 32 ∧ (arrB 32 (sumL [97, 98, 99])).all (·.oneCell') = true ∧ ∀ i, i < 32 → (arrB 32 (sumL [97, 98, 99]))[i]? = some (.int .u8 ((sumL [97, 98, 99]).getD i 0))) :=
    Lib.hid ⟨arrB_size _ _ (by rw [sumL_len]; omega), arrB_one _ _, fun i hi => arrB_get _ _ _ (by rw [sumL_len]; omega) hi⟩
  generalize arrB 32 (sumL [97, 98, 99]) = ca at *
  go_wp2_with ((with_reducible refine wpList_store_row (o := ⟨none, .store 26 (.tmp 1) _, _, _, _, _⟩) ?_ 26 (.tmp 1) (.tmp 5) ?_ w1.heap.size ca ?_ ?_ 26 _ (heap_alloc_last w1 _) (info26 ca hz.out.1) ?_ hz.out.2.1 ?_); (rfl); (rfl); (rfl); (rfl); (rw [hz.out.1]; rfl); rw [World.setRow_alloc_new])
  have b1 : Below w1.heap.size w1 (w1.alloc (.cells ca 26)) := (Below.refl _ _).alloc (Nat.le_refl _) _
  refine (sum_any _ 0 _ [] _ rfl (by omega) (Bytes.nil _ _ _) (by simp) (t1.out.below b1)).mono ?_
  rintro e w2 ⟨rfl, hb2⟩
  have t2 := Lib.hid ((t1.out.below b1).below hb2)
  have bw2 := Lib.hid (bw1.out.trans ((b1.trans (hb2.mono (by simp))).mono (by omega)))
  have s2 := hb2.size
  rw [World.size_alloc] at s2
  have ra : Hid (Row w2 w1.heap.size 26 ca) := (Row.new w1 26 ca).below hb2 (by simp)
  clear hb2 b1 t1 bw1
  have hy : Hid ((arrB 32 (sumL [])).size = 32 ∧ (arrB 32 (sumL [])).all (·.oneCell') = true ∧ ∀ i, i < 32 → (arrB 32 (sumL []))[i]? = some (.int .u8 ((sumL []).getD i 0))) :=
    Lib.hid ⟨arrB_size _ _ (by rw [sumL_len]; omega), arrB_one _ _, fun i hi => arrB_get _ _ _ (by rw [sumL_len]; omega) hi⟩
  generalize arrB 32 (sumL []) = cb at *
  have Ra := Lib.hid (ra.out.alloc (.cells cb 26))
  have Rb : Hid (Row (w2.alloc (.cells cb 26)) w2.heap.size 26 cb) := Row.new w2 26 cb
  have a0 : (w2.alloc (.cells cb 26)).cell? ⟨w1.heap.size, 0, none⟩ = some (.int .u8 186) := by rw [Ra.out.cell 0, hz.out.2.2 0 (by omega), sum_abc]; rfl
  have a1 : (w2.alloc (.cells cb 26)).cell? ⟨w1.heap.size, 1, none⟩ = some (.int .u8 120) := by rw [Ra.out.cell 1, hz.out.2.2 1 (by omega), sum_abc]; rfl
  have a2 : (w2.alloc (.cells cb 26)).cell? ⟨w1.heap.size, 2, none⟩ = some (.int .u8 22) := by rw [Ra.out.cell 2, hz.out.2.2 2 (by omega), sum_abc]; rfl
  have a3 : (w2.alloc (.cells cb 26)).cell? ⟨w1.heap.size, 3, none⟩ = some (.int .u8 191) := by rw [Ra.out.cell 3, hz.out.2.2 3 (by omega), sum_abc]; rfl
  have a30 : (w2.alloc (.cells cb 26)).cell? ⟨w1.heap.size, 30, none⟩ = some (.int .u8 21) := by rw [Ra.out.cell 30, hz.out.2.2 30 (by omega), sum_abc]; rfl
  have a31 : (w2.alloc (.cells cb 26)).cell? ⟨w1.heap.size, 31, none⟩ = some (.int .u8 173) := by rw [Ra.out.cell 31, hz.out.2.2 31 (by omega), sum_abc]; rfl
  have c0 : (w2.alloc (.cells cb 26)).cell? ⟨w2.heap.size, 0, none⟩ = some (.int .u8 227) := by rw [Rb.out.cell 0, hy.out.2.2 0 (by omega), sum_nil]; rfl
  have b3 := Lib.hid (bw2.out.alloc (by omega) (.cells cb 26))
  go_upto_region 3 with ((with_reducible refine wpList_store_row (o := ⟨none, .store 26 (.tmp 2) _, _, _, _, _⟩) ?_ 26 (.tmp 2) (.tmp 6) ?_ w2.heap.size cb ?_ ?_ 26 _ (heap_alloc_last w2 _) (info26 cb hy.out.1) ?_ hy.out.2.1 ?_); (rfl); (rfl); (rfl); (rfl); (rw [hy.out.1]; rfl); rw [World.setRow_alloc_new])
  clear Ra Rb ra bw2 t2
  generalize w2.alloc (.cells cb 26) = w3 at *
  go_wp2_with fail
  refine (pad_any none 0 0 [] w3 rfl (by omega) (Bytes.nil _ _ _)).mono ?_
  rintro e w4 ⟨rfl, _, hb4⟩
  have b4 := b3.out.trans (hb4.mono b3.out.size)
  clear hb4
  go_wp2
  go_ret
  exact ⟨rfl, b4⟩
end Go.Proofs.YtlccldnjgaldoaaDoor
