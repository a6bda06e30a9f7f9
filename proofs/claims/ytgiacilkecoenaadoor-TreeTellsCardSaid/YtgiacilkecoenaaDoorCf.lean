/- math/bits.Len; the program's mayStand. -/
import Derived.Test.YtgiacilkecoenaaDoorCe
import Derived.Lib.Strings
import Derived.Lib.Slices
import Derived.Lib.Small
import Derived.Lib.Walk
import Derived.Lib.BitFns
import Derived.WalkKit
import Derived.ProofKit
import Derived.Handy
import Derived.Maps.AppendAt
import Derived.Laws.BytesArg
import Derived.OpenShut
import Derived.ChangeKeysEq
import Derived.Lib.SlBytesConst
import Derived.Deep.MidRow
import Derived.Laws.CopyOwn
import Derived.Laws.MakeOwn
import Derived.Deep.WholeRow
import Derived.Deep.Cut
import Derived.Deep.QuietTactic
import Derived.BigQuiet
import Derived.StillTailTactics
import Derived.Lib.Hide
import Derived.Laws.BitsAllLaws
import Derived.Deep.RegionHeld
import Derived.Deep.RegionHeld3
import Derived.Deep.RegionLaw
namespace Go.Proofs.YtgiacilkecoenaaDoor
open Go.RowKit

set_option maxHeartbeats 4000000 in
set_option maxRecDepth 100000 in
theorem blen64_any (x : Int) (w : World) (h0 : 0 ≤ x) (h1 : x < 16777216) :
    Calls Tryd.prog 60 #[.int .u64 x] w fun e w' => e = .returned (.int .i64 (Lib.bitLen x.toNat)) ∧ w' = w := by
  have n1 : ¬ 4294967296 ≤ x := by omega
  have hw : x ≤ 18446744073709551615 := by omega
  by_cases hA : x < 256
  · have n2 : ¬ 65536 ≤ x := by omega
    have n3 : ¬ 256 ≤ x := by omega
    have hA2 : x ≤ 255 := by omega
    have l := Lib.bitLen_le8' x (by omega) (by omega)
    have HE := Lib.hid (Lib.len8_of x (by omega) (by omega))
    go_enter Tryd.func60, Tryd.ntmps60
    go_wp2
    go_ret
    refine ⟨congrArg Ending.returned (congrArg (Value.int IntKind.i64) ?_), rfl⟩
    rw [HE.out]
    unfold wrap64
    omega
  · by_cases hB : x < 65536
    · have n2 : ¬ 65536 ≤ x := by omega
      have n3 : 256 ≤ x := by omega
      have q0 : 0 ≤ x / 256 := by omega
      have q1 : x / 256 ≤ 255 := by omega
      have HE := Lib.hid (Lib.len8_of (x / 256) q0 q1)
      go_enter Tryd.func60, Tryd.ntmps60
      go_wp2
      go_ret
      refine ⟨congrArg Ending.returned (congrArg (Value.int IntKind.i64) ?_), rfl⟩
      have e : (x / 256).toNat = x.toNat / 256 := by omega
      have l := Lib.bitLen_le8' (x / 256) (by omega) (by omega)
      have s := Lib.bitLen_shift8 x.toNat (by omega) (by omega)
      rw [HE.out]
      rw [e] at l ⊢
      unfold wrap64
      omega
    · have n2 : 65536 ≤ x := by omega
      have q0 : 0 ≤ x / 65536 := by omega
      have q1 : x / 65536 ≤ 255 := by omega
      have HE := Lib.hid (Lib.len8_of (x / 65536) q0 q1)
      have n3 : ¬ 256 ≤ x / 65536 := by omega
      go_enter Tryd.func60, Tryd.ntmps60
      go_wp2
      go_ret
      refine ⟨congrArg Ending.returned (congrArg (Value.int IntKind.i64) ?_), rfl⟩
      have e : (x / 65536).toNat = x.toNat / 65536 := by omega
      have l := Lib.bitLen_le8' (x / 65536) (by omega) (by omega)
      have s := Lib.bitLen_shift16 x.toNat (by omega) (by omega)
      rw [HE.out]
      rw [e] at l ⊢
      unfold wrap64
      omega
set_option maxHeartbeats 1000000 in
theorem blen_any (x : Int) (w : World) (h0 : 0 ≤ x) (h1 : x < 16777216) :
    Calls Tryd.prog 54 #[.int .u64 x] w fun e w' => e = .returned (.int .i64 (Lib.bitLen x.toNat)) ∧ w' = w := by
  have HC := Lib.hid (blen64_any x w h0 h1)
  go_enter Tryd.func54, Tryd.ntmps54
  go_wp2_with (go_at_call 60; refine HC.out.mono ?_; rintro e w' ⟨rfl, rfl⟩)
  go_ret
  exact ⟨rfl, rfl⟩
theorem bitLen_pow : ∀ (x : Nat), 1 ≤ x → x < 2 ^ 64 → ∃ e, Lib.bitLen x = e + 1 ∧ 2 ^ e ≤ x ∧ x < 2 * 2 ^ e := by
  intro x
  induction x using Nat.strongRecOn with
  | _ x ih =>
    intro h1 h2
    by_cases hx : x = 1
    · subst hx
      exact ⟨0, by decide +kernel, by decide, by decide⟩
    · obtain ⟨e, e1, e2, e3⟩ := ih (x / 2) (by omega) (by omega) (by omega)
      refine ⟨e + 1, by rw [Lib.bitLen_half x (by omega) h2, e1]; omega, ?_, ?_⟩
      · rw [Nat.pow_succ]; omega
      · rw [Nat.pow_succ]; omega
theorem half_bit {n : Nat} (h : 2 ≤ n) (hn : n ≤ 1099511627776) : ∃ e, Lib.bitLen (n - 1) = e + 1 ∧ halfT n = 2 ^ e ∧ e < 40 := by
  obtain ⟨e, e1, e2, e3⟩ := bitLen_pow (n - 1) (by omega) (by omega)
  refine ⟨e, e1, half_unique (by omega) (by omega), ?_⟩
  rcases Nat.lt_or_ge e 40 with h | h
  · exact h
  · have := Nat.pow_le_pow_right (n := 2) (by decide) h
    omega
def standT (n i : Int) : Bool := decide (n ≤ 64 ∧ 0 ≤ i ∧ i < n)
set_option maxHeartbeats 1000000 in
theorem stand_any (n i : Int) (w : World) (hn0 : -9223372036854775808 ≤ n) (hn1 : n ≤ 9223372036854775807) (hi0 : -9223372036854775808 ≤ i) (hi1 : i ≤ 9223372036854775807) :
    Calls Tryd.prog 41 #[.int .i64 n, .int .i64 i] w fun e w' => e = .returned (.bool (standT n i)) ∧ Below w.heap.size w w' := by
  by_cases h1 : n ≤ 64
  · by_cases h2 : 0 ≤ i
    · by_cases h3 : i < n
      · have hs : standT n i = true := by unfold standT; simp only [decide_eq_true_eq]; omega
        rw [hs]
        go_enter Tryd.func41, Tryd.ntmps41
        go_wp2
        go_ret
        exact ⟨rfl, Below.refl _ _⟩
      · have hs : standT n i = false := by unfold standT; simp only [decide_eq_false_iff_not]; omega
        rw [hs]
        go_enter Tryd.func41, Tryd.ntmps41
        go_wp2
        go_ret
        exact ⟨rfl, Below.refl _ _⟩
    · have hs : standT n i = false := by unfold standT; simp only [decide_eq_false_iff_not]; omega
      rw [hs]
      go_enter Tryd.func41, Tryd.ntmps41
      go_wp2
      go_ret
      exact ⟨rfl, Below.refl _ _⟩
  · have hs : standT n i = false := by unfold standT; simp only [decide_eq_false_iff_not]; omega
    rw [hs]
    go_enter Tryd.func41, Tryd.ntmps41
    go_wp2
    go_ret
    exact ⟨rfl, Below.refl _ _⟩
end Go.Proofs.YtgiacilkecoenaaDoor

/- Arithmetic of ints as operations of a region; types of one cell. -/
namespace Go.Proofs.YtgiacilkecoenaaDoor
open Go.RowKit

def InI (r : Int) : Prop := -9223372036854775808 ≤ r ∧ r ≤ 9223372036854775807
theorem wrap64_in {r : Int} (h : InI r) : IntKind.i64.wrap r = r := by unfold InI at h; rw [IntKind.wrap_i64]; omega
theorem oneInt : ∀ w, (isAgg 3).run Tryd.prog w = .ok false w := fun w => by simp [isAgg, run_underlying Tryd.underlying3]
theorem oneIds : ∀ w, (isAgg 22).run Tryd.prog w = .ok false w := fun w => by simp [isAgg, run_underlying Tryd.underlying22]
section
variable {a : Act} {dst : Option Tmp} {x y : Operand} {ty : TypeId} {pos : String} {after : Array Edge} {gd : Option (Nat × Bool)}
theorem sub_op {m k r : Int} (u : World) (hr : m - k = r) (hb : InI r) (hx : a.eval x = .int .i64 m) (hy : a.eval y = .int .i64 k) :
    (execOp a.eval ⟨dst, .binOp .sub 3 x y 3, ty, pos, after, gd⟩).run Tryd.prog u = .ok (.value (.int .i64 r)) u := by
  have hw := wrap64_in hb
  subst hr
  unfold execOp
  simp only [hx, hy]
  go_simp
theorem add_op {m k r : Int} (u : World) (hr : m + k = r) (hb : InI r) (hx : a.eval x = .int .i64 m) (hy : a.eval y = .int .i64 k) :
    (execOp a.eval ⟨dst, .binOp .add 3 x y 3, ty, pos, after, gd⟩).run Tryd.prog u = .ok (.value (.int .i64 r)) u := by
  have hw := wrap64_in hb
  subst hr
  unfold execOp
  simp only [hx, hy]
  go_simp
theorem geq_op {m k : Int} {b : Bool} (u : World) (hb : decide (k ≤ m) = b) (hx : a.eval x = .int .i64 m) (hy : a.eval y = .int .i64 k) :
    (execOp a.eval ⟨dst, .binOp .geq 3 x y 3, ty, pos, after, gd⟩).run Tryd.prog u = .ok (.value (.bool b)) u := by
  subst hb
  unfold execOp
  simp only [hx, hy]
  go_simp
theorem eqlI_op {m k : Int} {b : Bool} (u : World) (hb : decide (m = k) = b) (hx : a.eval x = .int .i64 m) (hy : a.eval y = .int .i64 k) :
    (execOp a.eval ⟨dst, .binOp .eql 3 x y 3, ty, pos, after, gd⟩).run Tryd.prog u = .ok (.value (.bool b)) u := by
  subst hb
  unfold execOp
  simp only [hx, hy]
  go_simp
  rfl
theorem buildA_op {t : TypeId} {parts : Array (Nat × Operand)} {cs : Array Value} (u : World) (hb : Tryd.prog.built t (parts.toList.map fun x => (x.1, a.eval x.2)) = some cs) :
    (execOp a.eval ⟨dst, .build t parts, ty, pos, after, gd⟩).run Tryd.prog u = .ok (.value (.agg cs)) u := by
  have hb' : Tryd.prog.built t (parts.map fun (i, x) => (i, a.eval x)).toList = some cs := by
    rw [Array.toList_map]
    exact hb
  unfold execOp
  simp only [Sem.run_bind, Sem.run_pure, run_build u t _ _ hb', Result.andThen_ok]
end
end Go.Proofs.YtgiacilkecoenaaDoor

/- The program's cut. -/
namespace Go.Proofs.YtgiacilkecoenaaDoor
open Go.RowKit

theorem aggSpan : AggT 68 2 := ⟨fun w => by simp [isAgg, run_underlying Tryd.underlying68], by kernel_rfl⟩
theorem aggSpans : AggT 69 4 := ⟨fun w => by simp [isAgg, run_underlying Tryd.underlying69], by kernel_rfl⟩
theorem aggFork : AggT 71 5 := ⟨fun w => by simp [isAgg, run_underlying Tryd.underlying71], by kernel_rfl⟩
theorem aggIds2 : AggT 54 64 := ⟨fun w => by simp [isAgg, run_underlying Tryd.underlying54], by kernel_rfl⟩
theorem aggStep : AggT 81 96 := ⟨fun w => by simp [isAgg, run_underlying Tryd.underlying81], by kernel_rfl⟩
theorem aggId : AggT 29 32 := ⟨fun w => by simp [isAgg, run_underlying Tryd.underlying29], by kernel_rfl⟩
def ii (n : Nat) : Value := .int .i64 (n : Int)
def spanC (f n : Nat) : List Value := [ii f, ii (f + n)]
def cutC (f n : Nat) : List Value := [ii f, ii (f + halfT n), ii (f + halfT n), ii (f + n)]
theorem info_span : (Tryd.prog.info? 68).map (·.size) = some 2 := by kernel_rfl
theorem info_spans : (Tryd.prog.info? 69).map (·.size) = some 4 := by kernel_rfl
section
variable {a : Act} {dst : Option Tmp} {x y : Operand} {ty : TypeId} {pos : String} {after : Array Edge} {gd : Option (Nat × Bool)}
theorem conv_uint_op {m : Nat} (u : World) (hm : m < 9223372036854775808) (hx : a.eval x = .int .i64 (m : Int)) :
    (execOp a.eval ⟨dst, .convert 3 87 x, ty, pos, after, gd⟩).run Tryd.prog u = .ok (.value (.int .u64 (m : Int))) u := by
  have hq : IntKind.u64.wrap (m : Int) = (m : Int) := by rw [IntKind.wrap_u64]; omega
  unfold execOp
  simp only [hx]
  go_simp
theorem shl_op {e p : Nat} (u : World) (hp : 2 ^ e = p) (he : e < 62) (hx : a.eval x = .int .i64 1) (hy : a.eval y = .int .i64 (e : Int)) :
    (execOp a.eval ⟨dst, .binOp .shl 3 x y 3, ty, pos, after, gd⟩).run Tryd.prog u = .ok (.value (.int .i64 (p : Int))) u := by
  have h0 : ¬ (e : Int) < 0 := by omega
  have h1 : ¬ (64 : Int) ≤ (e : Int) := by omega
  have hp2 : 2 ^ e < 2 ^ 62 := Nat.pow_lt_pow_right (by decide) he
  have hc : ((2 : Int) ^ e) = (p : Int) := by rw [← hp]; simp
  have hq : IntKind.i64.wrap (p : Int) = (p : Int) := wrap64_in (by rw [hp] at hp2; unfold InI; omega)
  unfold execOp
  simp only [hx, hy]
  go_simp
end
set_option maxRecDepth 20000 in
set_option maxHeartbeats 4000000 in
theorem cut_any (f n : Nat) (w : World) (h2 : 2 ≤ n) (hn : f + n ≤ 1000000) :
    Calls Tryd.prog 44 #[.agg (spanC f n).toArray] w fun e w' => e = .returned (.agg (cutC f n).toArray) ∧ Below w.heap.size w w' := by
  obtain ⟨e, e1, e2, e3⟩ := half_bit h2 (by omega)
  obtain ⟨b1, b2, b3, -⟩ := half_spec h2
  unfold spanC cutC
  rw [e2] at b1 b2 b3 ⊢
  have HLEN : Hid (∀ u, Calls Tryd.prog 54 #[.int .u64 ((n - 1 : Nat) : Int)] u fun en w' => en = .returned (.int .i64 ((e + 1 : Nat) : Int)) ∧ Below u.heap.size u w') := fun u => by
    refine (blen_any ((n - 1 : Nat) : Int) u (by omega) (by omega)).mono ?_
    rintro en w' ⟨rfl, rfl⟩
    exact ⟨by rw [Int.toNat_natCast, e1], Below.refl _ _⟩
  have q1 : Hid ((f + n : Nat) - (f : Int) = (n : Int) ∧ (n : Int) - 1 = ((n - 1 : Nat) : Int) ∧ ((e + 1 : Nat) : Int) - 1 = (e : Int)) := ⟨by omega, by omega, by omega⟩
  have q2 : Hid ((f : Int) + ((2 ^ e : Nat) : Int) = ((f + 2 ^ e : Nat) : Int)) := by show _ = _; omega
  have q3 : Hid (InI (n : Int) ∧ InI ((n - 1 : Nat) : Int) ∧ InI (e : Int) ∧ InI ((f + 2 ^ e : Nat) : Int) ∧ n - 1 < 9223372036854775808 ∧ e < 62) := by show _ ∧ _; unfold InI; omega
  clear e1 e2 e3 b1 b2 b3
  generalize hp : 2 ^ e = p at *
  have HP := Lib.hid hp
  clear hp
  have E1 : Hid (EnvX w ((w.alloc (.cells #[ii f, ii (f + n)] 68)).alloc (.cells #[ii 0, ii 0, ii 0, ii 0] 69)) [(w.heap.size + 1, Obj.cells #[ii 0, ii 0, ii 0, ii 0] 69 (0, 0)), (w.heap.size, Obj.cells #[ii f, ii (f + n)] 68 (0, 0))]) := (EnvX.start w).two _ _
  go_enter Tryd.func44, Tryd.ntmps44
  go_upto_region 1 with (fail)
  change Code.wp _ _ _ _ ((w.alloc (.cells #[ii f, ii (f + n)] 68)).alloc (.cells #[ii 0, ii 0, ii 0, ii 0] 69))
  generalize (w.alloc (.cells #[ii f, ii (f + n)] 68)).alloc (.cells #[ii 0, ii 0, ii 0, ii 0] 69) = W at *
  refine wp_region_H (w0 := w) [(w.heap.size + 1, Obj.cells #[ii 0, ii 0, ii 0, ii 0] 69 (0, 0)), (w.heap.size, Obj.cells #[ii f, ii (f + n)] 68 (0, 0))] (by kernel_rfl) E1.out ?_
  refine anyH_phase [0, 1, 2, 3, 4, 5, 6, 7, 8, 9, 10, 11, 12, 13] 0 rfl ⟨_, (EnvX.drew E1.out)⟩ (by kernel_rfl) ?_
  have hw1 : EnvX w _ [(w.heap.size + 1, Obj.cells #[ii 0, ii 0, ii 0, ii 0] 69 (0, 0)), (w.heap.size, Obj.cells #[ii f, ii (f + n)] 68 (0, 0))] := (EnvX.drew E1.out)
  have hone := @EnvC.one _ _ _ hw1
  (refine wpG_op rfl rfl rfl ?_; intro K hK; go_big_quiet_op; go_big_quiet_on)
  (refine wpG_val (v := ii f) rfl rfl (fun u hu => load_any_op u (run_load_one oneInt u (box_cell (k := 0) hu (List.Mem.tail _ (List.Mem.head _)) rfl)) rfl) ?_ hw1; intro K hK; go_big_quiet_op; go_big_quiet_on)
  (refine wpG_op rfl rfl rfl ?_; intro K hK; go_big_quiet_op; go_big_quiet_on)
  (refine wpG_val (v := ii (f + n)) rfl rfl (fun u hu => load_any_op u (run_load_one oneInt u (box_cell (k := 1) hu (List.Mem.tail _ (List.Mem.head _)) rfl)) rfl) ?_ hw1; intro K hK; go_big_quiet_op; go_big_quiet_on)
  (refine wpG_op rfl rfl rfl ?_; intro K hK; go_big_quiet_op; go_big_quiet_on)
  (refine wpG_val (v := ii f) rfl rfl (fun u hu => load_any_op u (run_load_one oneInt u (box_cell (k := 0) hu (List.Mem.tail _ (List.Mem.head _)) rfl)) rfl) ?_ hw1; intro K hK; go_big_quiet_op; go_big_quiet_on)
  (refine wpG_val (v := ii n) rfl rfl (fun u hu => sub_op u q1.out.1 q3.out.1 rfl rfl) ?_ hw1; intro K hK; go_big_quiet_op; go_big_quiet_on)
  (refine wpG_val (v := ii (n - 1)) rfl rfl (fun u hu => sub_op u q1.out.2.1 q3.out.2.1 rfl rfl) ?_ hw1; intro K hK; go_big_quiet_op; go_big_quiet_on)
  (refine wpG_val (v := .int .u64 ((n - 1 : Nat) : Int)) rfl rfl (fun u hu => conv_uint_op u q3.out.2.2.2.2.1 rfl) ?_ hw1; intro K hK; go_big_quiet_op; go_big_quiet_on)
  (refine wpG_call (f := 54) (args := #[.int .u64 ((n - 1 : Nat) : Int)]) (v := ii (e + 1)) rfl rfl rfl Tryd.func54 rfl rfl (fun u hu => HLEN.out u) ?_ hw1; intro K hK; go_big_quiet_op; go_big_quiet_on)
  (refine wpG_val (v := ii e) rfl rfl (fun u hu => sub_op u q1.out.2.2 q3.out.2.2.1 rfl rfl) ?_ hw1; intro K hK; go_big_quiet_op; go_big_quiet_on)
  (refine wpG_val (v := ii p) rfl rfl (fun u hu => shl_op u HP.out q3.out.2.2.2.2.2 rfl rfl) ?_ hw1; intro K hK; go_big_quiet_op; go_big_quiet_on)
  (refine wpG_val (v := ii (f + p)) rfl rfl (fun u hu => add_op u q2.out q3.out.2.2.2.1 rfl rfl) ?_ hw1; intro K hK; go_big_quiet_op; go_big_quiet_on)
  (refine wpG_op rfl rfl rfl ?_; intro K hK; go_big_quiet_op; go_big_quiet_on)
  clear hone hw1
  refine wpG_nil ?_
  refine anyH_done (by kernel_rfl) ?_
  intro u3 E2'
  have EX2 := Lib.hid E2'
  clear E2'
  go_upto_region 2 with (fail)
  refine wp_region_Hx (w0 := w) [0, 1, 2, 3, 4, 5, 6, 7, 8, 9] [(w.heap.size + 1, Obj.cells #[ii 0, ii 0, ii 0, ii 0] 69 (0, 0)), (w.heap.size, Obj.cells #[ii f, ii (f + n)] 68 (0, 0))] rfl EX2.out ?_
  refine lexH_phase [0, 1, 2, 3, 4, 5, 6, 7, 8] [9] ?_
  have hw4 : EnvX w _ [(w.heap.size + 1, Obj.cells #[ii 0, ii 0, ii 0, ii 0] 69 (0, 0)), (w.heap.size, Obj.cells #[ii f, ii (f + n)] 68 (0, 0))] := EX2.out
  have hone := @EnvC.one _ _ _ hw4
  (refine wpG_op rfl rfl rfl ?_; intro K hK; go_big_quiet_op; go_big_quiet_on)
  (refine wpG_val (v := ii f) rfl rfl (fun u hu => load_any_op u (run_load_one oneInt u (box_cell (k := 0) hu (List.Mem.tail _ (List.Mem.head _)) rfl)) rfl) ?_ hw4; intro K hK; go_big_quiet_op; go_big_quiet_on)
  (refine wpG_op rfl rfl rfl ?_; intro K hK; go_big_quiet_op; go_big_quiet_on)
  (refine wpG_val (v := .agg #[ii f, ii (f + p)]) rfl rfl (fun u hu => buildA_op u (by kernel_rfl)) ?_ hw4; intro K hK; go_big_quiet_op; go_big_quiet_on)
  (refine wpG_op rfl rfl rfl ?_; intro K hK; go_big_quiet_op; go_big_quiet_on)
  (refine wpG_op rfl rfl rfl ?_; intro K hK; go_big_quiet_op; go_big_quiet_on)
  (refine wpG_val (v := ii (f + n)) rfl rfl (fun u hu => load_any_op u (run_load_one oneInt u (box_cell (k := 1) hu (List.Mem.tail _ (List.Mem.head _)) rfl)) rfl) ?_ hw4; intro K hK; go_big_quiet_op; go_big_quiet_on)
  (refine wpG_val (v := .agg #[ii (f + p), ii (f + n)]) rfl rfl (fun u hu => buildA_op u (by kernel_rfl)) ?_ hw4; intro K hK; go_big_quiet_op; go_big_quiet_on)
  (refine wpG_val (v := .agg #[ii f, ii (f + p), ii (f + p), ii (f + n)]) rfl rfl (fun u hu => buildA_op u (by kernel_rfl)) ?_ hw4; intro K hK; go_big_quiet_op; go_big_quiet_on)
  clear hone hw4
  refine wpG_nil ?_
  refine (hOp_store rfl (w.heap.size + 1) (#[ii f, ii (f + p), ii (f + p), ii (f + n)]) rfl rfl (Nat.le_succ _) 69 (#[ii 0, ii 0, ii 0, ii 0]) (List.Mem.head _) info_spans rfl (by kernel_rfl) [(w.heap.size + 1, Obj.cells (#[ii f, ii (f + p), ii (f + p), ii (f + n)]) 69 (0, 0)), (w.heap.size, Obj.cells #[ii f, ii (f + n)] 68 (0, 0))] (List.forall_mem_cons.2 ⟨.inl rfl, List.forall_mem_cons.2 ⟨.inr ⟨List.Mem.tail _ (List.Mem.head _), by omega⟩, (fun _ h => by cases h)⟩⟩) ?_)
  intro he5
  intro u7 E2'
  have EX6 := Lib.hid E2'
  clear E2'
  have Q0 := Lib.hid (EnvX.box EX6.out _ _ (List.Mem.head _))
  go_wp2_with ((with_reducible refine bodyPost_ret (v := .agg #[ii f, ii (f + p), ii (f + p), ii (f + n)]) ?_ ?_ ?_); (exact results_cell_row (p := 2) (ty := 69) Tryd.results44 _ _ (w.heap.size + 1) 69 #[ii f, ii (f + p), ii (f + p), ii (f + n)] (0, 0) _ rfl Q0.out Tryd.underlying69 rfl info_spans); (rfl))
  first | exact EX6.out.bel | exact ⟨rfl, EX6.out.bel⟩
end Go.Proofs.YtgiacilkecoenaaDoor

/- The walk of Of, and bytes that are put one behind the other. -/
namespace Go.Proofs.YtgiacilkecoenaaDoor
open Go.RowKit












set_option maxRecDepth 20000 in
set_option maxHeartbeats 1000000 in
theorem shaof_any (A : Option Addr) (n c : Nat) (xss : List (List Int)) (w : World) (hl : xss.length = n) (hx : Parts w w.heap.size A xss) (hn : n ≤ 9223372036854775807) (hs : xss.flatten.length ≤ 70368744177664) (ht : Tables w) :
    Calls Tryd.prog 29 #[.slice A n c] w fun e w' => e = .returned (.agg (arrB 32 (sumL xss.flatten))) ∧ Below w.heap.size w w' := by
  have HL := Lib.hid hl
  have HX := Lib.hid hx
  clear hl hx
  go_enter Tryd.func29, Tryd.ntmps29
  go_wp2_with fail
  go_loopw [3, 8] (fun v i u => ∃ k : Nat, k ≤ n ∧ i = .int .i64 k ∧ Below w.heap.size w u ∧ Hid (Row u w.heap.size 29 (arrB 32 []) ∧ u.ownsRow (w.heap.size + 1) 5 1 v (xss.take k).flatten.length ((xss.take k).flatten.map u8v))) (fun _ i _ => n - (intOf i).toNat)
  case atStart => exact ⟨0, by omega, rfl, by go_grown, Row.new w 29 _, World.ownsRow_nil _ _ _ _⟩
  case round =>
    obtain ⟨k, hk, rfl, hbl, hrows⟩ := hrel
    obtain ⟨r0, hown⟩ := hrows.out
    have s0 := r0.lt
    by_cases hlt : k < n
    · have hg := List.getElem?_eq_getElem (by rw [HL.out]; exact hlt : k < xss.length)
      have hst := Lib.hid (flat_step xss k _ hg)
      obtain ⟨b, o, a, c1, rfl, hb, hc, hy, hr⟩ := HX.out k _ hg
      have hle : (xss.take k).flatten.length + (xss[k]'(by rw [HL.out]; exact hlt)).length ≤ xss.flatten.length := by
        have e := congrArg List.length hst.out
        rw [List.length_append] at e
        have h2 : (xss.take (k + 1)).flatten.length ≤ xss.flatten.length := by
          conv => rhs; rw [← List.take_append_drop (k + 1) xss, List.flatten_append, List.length_append]
          omega
        omega
      generalize xss[k]'(by rw [HL.out]; exact hlt) = ys at *
      obtain ⟨v', w', hrun, hown', hgr⟩ := append_bytes _ _ _ _ wr hown a ys.length c1 w.heap.size ys rfl (hy.below hbl) (by omega) (by omega)
      have hcell := (hbl.cell (p := ⟨b, o + k, none⟩) hb).trans hc
      have hb2 := below_of_grown (B := w.heap.size + 1) hgr (fun g hg => (hown.lt g hg).1) (by omega)
      have R0 := Lib.hid (r0.below hb2 (by omega))
      have BB := Lib.hid (hbl.trans (hb2.mono (by omega)))
      have OO := Lib.hid hown'
      clear r0 hown hrows hg hc hy hr hgr hb2 hown' hle
      have hk2 : (k : Int) < (n : Int) := by omega
      have HRUN := Lib.hid hrun
      clear hrun
      go_wp2_with (at_builtin; (with_reducible refine wpList_append_run (o := ⟨some 14, _, _, _, _, _⟩) ?_ (.tmp 12) (.tmp 13) ?_ ?_ ?_ ?_ HRUN.out ?_); (rfl); (rfl); (rfl); (rfl); (rfl))
      go_roundw
      case rel =>
        refine ⟨k + 1, by omega, by go_num, BB.out, R0.out, ?_⟩
        rw [hst.out, List.length_append, List.map_append]
        exact OO.out
      case measure => simp [intOf]; omega
    · obtain rfl : k = n := by omega
      have hT : xss.take k = xss := List.take_of_length_le (by rw [HL.out]; exact Nat.le_refl _)
      rw [hT] at hown
      obtain ⟨A1, c1, rfl⟩ := own_form hown
      have hr : ∀ x ∈ xss.flatten, 0 ≤ x ∧ x ≤ 255 := by
        intro x hx
        obtain ⟨l, hl, hxl⟩ := List.mem_flatten.1 hx
        obtain ⟨j, hj, rfl⟩ := List.getElem_of_mem hl
        obtain ⟨_, _, _, _, _, _, _, _, hr⟩ := HX.out j _ (List.getElem?_eq_getElem hj)
        exact hr x hxl
      have hby := own_bytes hown
      have R0 := Lib.hid r0
      clear hown r0 hrows hT
      have HRR := Lib.hid hr
      have HBY := Lib.hid hby
      clear hr hby
      generalize hFL : xss.flatten = fl at *
      have HFL := Lib.hid hFL
      clear hFL
      obtain ⟨q, hq⟩ : ∃ q, fl.length = q := ⟨_, rfl⟩
      rw [hq]
      have HQ := Lib.hid hq
      have hs2 : q ≤ 70368744177664 := by omega
      clear hq
      go_wp2_with fail
      refine (sum_any A1 q c1 fl wr HQ.out hs2 HBY.out HRR.out (ht.below hbl)).mono ?_
      rintro e w3 ⟨rfl, hb3⟩
      have hsz : Hid ((arrB 32 (sumL fl)).size = 32 ∧ (arrB 32 []).size = (arrB 32 (sumL fl)).size ∧ (arrB 32 (sumL fl)).all (·.oneCell') = true) :=
        Lib.hid ⟨arrB_size _ _ (by rw [sumL_len]; omega), by rw [arrB_size 32 (sumL fl) (by rw [sumL_len]; omega), arrB_size 32 [] (by simp)], arrB_one _ _⟩
      have Q0 : Hid (w3.heap[w.heap.size]? = some (.cells (arrB 32 []) 29 (0, 0))) := R0.out.below hb3 R0.out.lt
      have bl3 : Below w.heap.size w w3 := hbl.trans (hb3.mono hbl.size)
      clear hb3 R0
      generalize hE : arrB 32 (sumL fl) = cs at *
      have HE := Lib.hid hE
      clear hE
      generalize arrB 32 [] = zs at *
      go_wp2_with (first
        | ((with_reducible refine wpList_store_row (o := ⟨none, .store 29 _ _, _, _, _, _⟩) ?_ 29 (.tmp 2) (.tmp 17) ?_ w.heap.size cs ?_ ?_ 29 zs Q0.out (info26 cs hsz.out.1) hsz.out.2.1 hsz.out.2.2 ?_); (rfl); (rfl); (rfl); (rfl))
        | ((with_reducible refine bodyPost_ret (v := .agg cs) ?_ ?_ ?_); (exact results_cell_row (p := 2) (ty := 29) Tryd.results29 _ _ w.heap.size 29 cs (0, 0) _ rfl (setRow_heap _ _ zs cs 29 (0, 0) Q0.out) Tryd.underlying29 rfl (info26 cs hsz.out.1)); (rfl)))
      exact ⟨by rw [HFL.out, HE.out], below_setRow bl3 (Nat.le_refl _) _⟩
end Go.Proofs.YtgiacilkecoenaaDoor

/- Plain facts on words of 32 bits: the reference's ways of reckoning are the program's. -/
namespace Go.Proofs.YtgiacilkecoenaaDoor
open Go
def InW (x : Int) : Prop := 0 ≤ x ∧ x < 4294967296
theorem InW.mod (x : Int) : InW (x % 4294967296) := ⟨by omega, by omega⟩
theorem InW.bits (op : BinOp) (x y : Int) : InW (bits op .u32 x y) := by
  unfold Go.bits
  rw [IntKind.wrap_u32]
  exact InW.mod _
theorem InW.rot (x n : Int) : InW (rotI x n) := InW.bits _ _ _
theorem InW.nat {x : Int} (h : InW x) : ∃ a : Nat, x = (a : Int) ∧ a < 4294967296 := ⟨x.toNat, by have := h.1; omega, by have := h.2; omega⟩
theorem rot_eq (x : Int) (n : Nat) (h1 : 1 ≤ n) (h2 : n ≤ 31) (hx : InW x) : (x / 2 ^ n + x * 2 ^ (32 - n)) % 4294967296 = rotI x n := by
  obtain ⟨a, rfl, ha⟩ := hx.nat
  unfold rotI
  have e1 : ((n : Int)).toNat = n := by omega
  have e2 : (32 - (n : Int)).toNat = 32 - n := by omega
  rw [e1, e2]
  have hp : 2 ^ (32 - n) * 2 ^ n = 4294967296 := by rw [← Nat.pow_add, show 32 - n + n = 32 by omega]
  have hpos : 0 < 2 ^ n := Nat.two_pow_pos n
  have hpos' : 0 < 2 ^ (32 - n) := Nat.two_pow_pos _
  have hlt : a / 2 ^ n < 2 ^ (32 - n) := by
    rw [Nat.div_lt_iff_lt_mul hpos, hp]
    exact ha
  have hmod : a * 2 ^ (32 - n) % 4294967296 = (a % 2 ^ n) <<< (32 - n) := by
    rw [Nat.shiftLeft_eq, ← hp, Nat.mul_comm a, Nat.mul_mod_mul_left, Nat.mul_comm]
  have hbig : (a % 2 ^ n) <<< (32 - n) + a / 2 ^ n < 4294967296 := by
    rw [Nat.shiftLeft_eq]
    have hm : a % 2 ^ n + 1 ≤ 2 ^ n := Nat.mod_lt _ hpos
    calc a % 2 ^ n * 2 ^ (32 - n) + a / 2 ^ n < a % 2 ^ n * 2 ^ (32 - n) + 2 ^ (32 - n) := by omega
      _ = (a % 2 ^ n + 1) * 2 ^ (32 - n) := by rw [Nat.add_mul, Nat.one_mul]
      _ ≤ 2 ^ n * 2 ^ (32 - n) := Nat.mul_le_mul_right _ hm
      _ = 4294967296 := by rw [Nat.mul_comm, hp]
  have c1 : ((a : Int) / 2 ^ n) = ((a / 2 ^ n : Nat) : Int) := by simp
  have c2 : ((a : Int) * 2 ^ (32 - n)) = ((a * 2 ^ (32 - n) : Nat) : Int) := by simp
  have c3 : ((a * 2 ^ (32 - n) : Nat) : Int) % 4294967296 = (((a % 2 ^ n) <<< (32 - n) : Nat) : Int) := by
    rw [← hmod]; simp
  rw [c1, c2, c3, u32_or_nat _ _ (by omega) (by omega), Nat.or_comm, ← Nat.shiftLeft_add_eq_or_of_lt hlt]
  clear c1 c2 c3 hlt hpos hpos' hp e1 e2
  generalize a * 2 ^ (32 - n) = M at *
  generalize (a % 2 ^ n) <<< (32 - n) = R at *
  generalize a / 2 ^ n = Q at *
  omega
theorem not_eq (x : Int) (hx : InW x) : bits BinOp.xor IntKind.u32 IntKind.u32.max x = 4294967295 - x := by
  obtain ⟨a, rfl, ha⟩ := hx.nat
  have hm : IntKind.u32.max = ((4294967295 : Nat) : Int) := by decide
  rw [hm, u32_xor_nat _ _ (by omega) ha]
  have h : 4294967295 ^^^ a = 4294967295 - a := by
    have h2 : (4294967295 : Nat) = 2 ^ 32 - 1 := by decide
    apply Nat.eq_of_testBit_eq
    intro i
    rw [Nat.testBit_xor, h2, Nat.testBit_two_pow_sub_one, show 2 ^ 32 - 1 - a = 2 ^ 32 - (a + 1) by omega, Nat.testBit_two_pow_sub_succ (by omega)]
    by_cases hi : i < 32
    · simp [hi]
    · have : a.testBit i = false := Nat.testBit_lt_two_pow (Nat.lt_of_lt_of_le ha (by rw [show (4294967296 : Nat) = 2 ^ 32 by decide]; exact Nat.pow_le_pow_right (by omega) (by omega)))
      simp [hi, this]
  rw [h]
  omega
theorem ch_eq (e f g : Int) (he : InW e) : bits BinOp.xor IntKind.u32 (bits BinOp.and IntKind.u32 e f) (bits BinOp.and IntKind.u32 (4294967295 - e) g) = chI e f g := by
  unfold chI
  rw [not_eq e he]
theorem maj_eq (a b c : Int) (ha : InW a) (hb : InW b) (hc : InW c) : bits BinOp.or IntKind.u32 (bits BinOp.or IntKind.u32 (bits BinOp.and IntKind.u32 a b) (bits BinOp.and IntKind.u32 a c)) (bits BinOp.and IntKind.u32 b c) = majI a b c := by
  obtain ⟨x, rfl, hx⟩ := ha.nat
  obtain ⟨y, rfl, hy⟩ := hb.nat
  obtain ⟨z, rfl, hz⟩ := hc.nat
  have l1 : x &&& y < 4294967296 := Nat.lt_of_le_of_lt Nat.and_le_left hx
  have l2 : x &&& z < 4294967296 := Nat.lt_of_le_of_lt Nat.and_le_left hx
  have l3 : y &&& z < 4294967296 := Nat.lt_of_le_of_lt Nat.and_le_left hy
  have l4 : (x &&& y) ||| (x &&& z) < 2 ^ 32 := Nat.or_lt_two_pow l1 l2
  have l5 : (x &&& y) ^^^ (x &&& z) < 2 ^ 32 := Nat.xor_lt_two_pow l1 l2
  unfold majI
  rw [u32_and_nat x y hx hy, u32_and_nat x z hx hz, u32_and_nat y z hy hz, u32_or_nat _ _ l1 l2, u32_or_nat _ _ l4 l3, u32_xor_nat _ _ l1 l2, u32_xor_nat _ _ l5 l3]
  congr 1
  apply Nat.eq_of_testBit_eq
  intro i
  simp only [Nat.testBit_or, Nat.testBit_and, Nat.testBit_xor]
  cases x.testBit i <;> cases y.testBit i <;> cases z.testBit i <;> rfl
theorem mul_two (a b : Nat) : (a * 256 + b) * 65536 = a * 16777216 + b * 65536 := by omega
theorem mul_three (a b c : Nat) : (a * 65536 + b * 256 + c) * 256 = a * 16777216 + b * 65536 + c * 256 := by omega
theorem word_eq (a b c d : Int) (ha : 0 ≤ a ∧ a ≤ 255) (hb : 0 ≤ b ∧ b ≤ 255) (hc : 0 ≤ c ∧ c ≤ 255) (hd : 0 ≤ d ∧ d ≤ 255) : 16777216 * a + 65536 * b + 256 * c + d = wordI a b c d := by
  obtain ⟨a, rfl⟩ := Int.eq_ofNat_of_zero_le ha.1
  obtain ⟨b, rfl⟩ := Int.eq_ofNat_of_zero_le hb.1
  obtain ⟨c, rfl⟩ := Int.eq_ofNat_of_zero_le hc.1
  obtain ⟨d, rfl⟩ := Int.eq_ofNat_of_zero_le hd.1
  have ha' : a ≤ 255 := by omega
  have hb' : b ≤ 255 := by omega
  have hc' : c ≤ 255 := by omega
  have hd' : d ≤ 255 := by omega
  unfold wordI
  have c1 : ((a : Int) * 16777216) = ((a * 16777216 : Nat) : Int) := by simp
  have c2 : ((b : Int) * 65536) = ((b * 65536 : Nat) : Int) := by simp
  have c3 : ((c : Int) * 256) = ((c * 256 : Nat) : Int) := by simp
  have o1 : a * 16777216 ||| b * 65536 = a * 16777216 + b * 65536 := by
    have h := Nat.shiftLeft_add_eq_or_of_lt (a := a) (b := b * 65536) (i := 24) (by omega)
    rw [Nat.shiftLeft_eq] at h
    exact h.symm
  have o2 : a * 16777216 + b * 65536 ||| c * 256 = a * 16777216 + b * 65536 + c * 256 := by
    have h := Nat.shiftLeft_add_eq_or_of_lt (a := a * 256 + b) (b := c * 256) (i := 16) (by omega)
    rw [Nat.shiftLeft_eq] at h
    rw [show (2 : Nat) ^ 16 = 65536 from rfl, mul_two] at h
    exact h.symm
  have o3 : a * 16777216 + b * 65536 + c * 256 ||| d = a * 16777216 + b * 65536 + c * 256 + d := by
    have h := Nat.shiftLeft_add_eq_or_of_lt (a := a * 65536 + b * 256 + c) (b := d) (i := 8) (by omega)
    rw [Nat.shiftLeft_eq] at h
    rw [show (2 : Nat) ^ 8 = 256 from rfl, mul_three] at h
    exact h.symm
  rw [c1, c2, c3, u32_or_nat _ _ (by omega) (by omega), o1, u32_or_nat _ _ (by omega) (by omega), o2, u32_or_nat _ _ (by omega) (by omega), o3]
  omega
theorem InW.word (a b c d : Int) : InW (wordI a b c d) := InW.bits _ _ _
end Go.Proofs.YtgiacilkecoenaaDoor

/- The walks of the reference: pow and turn. -/
namespace Go.Proofs.YtgiacilkecoenaaDoor
open Go.RowKit













theorem pow_nat (k : Nat) : (2 : Int) * ((2 : Int) ^ k % 4294967296) % 4294967296 = (2 : Int) ^ (k + 1) % 4294967296 := by
  rw [Int.pow_succ]
  generalize (2 : Int) ^ k = y
  omega
set_option maxRecDepth 20000 in
set_option maxHeartbeats 1000000 in
theorem pow_any (n : Nat) (w : World) (h : n ≤ 32) : Calls Tryd.prog 61 #[.int .i64 (n : Int)] w fun e w' => e = .returned (.int .u32 ((2 : Int) ^ n % 4294967296)) ∧ w' = w := by
  go_enter Tryd.func61, Tryd.ntmps61
  go_wp2
  go_loop [3, 4] (fun t i => ∃ k : Nat, k ≤ n ∧ i = .int .i64 k ∧ t = .int .u32 ((2 : Int) ^ k % 4294967296)) (fun _ i => n - (intOf i).toNat)
  case atStart => exact ⟨0, by omega, rfl, by simp⟩
  case round =>
    obtain ⟨k, hk, rfl, rfl⟩ := hrel
    have hp := Lib.hid (pow_nat k)
    have r := InW.mod ((2 : Int) ^ k)
    generalize hY : (2 : Int) ^ k % 4294967296 = y at *
    have HY := Lib.hid hY
    clear hY
    obtain ⟨r0, r1⟩ := r
    by_cases hlt : k < n
    · go_wp2
      go_round
      case rel => exact ⟨k + 1, by omega, by go_num, by rw [← hp.out]⟩
      case measure => simp [intOf]; omega
    · obtain rfl : k = n := by omega
      go_wp2
      go_ret
      exact ⟨by rw [HY.out]; rfl, rfl⟩
set_option maxRecDepth 20000 in
set_option maxHeartbeats 1000000 in
theorem rturn_any (x : Int) (n : Nat) (w : World) (h1 : 1 ≤ n) (h2 : n ≤ 31) (hx : InW x) :
    Calls Tryd.prog 56 #[.int .u32 x, .int .i64 (n : Int)] w fun e w' => e = .returned (.int .u32 (rotI x n)) ∧ ∃ q, w' = w.drewN q := by
  have hr := rot_eq x n h1 h2 hx
  obtain ⟨x0, x1⟩ := hx
  have q1 : (2 : Int) ^ n % 4294967296 = 2 ^ n := by
    have h : (2 : Nat) ^ n < 2 ^ 32 := Nat.pow_lt_pow_right (by omega) (by omega)
    have h' : ((2 ^ n : Nat) : Int) < 4294967296 := by have e : (2 : Nat) ^ 32 = 4294967296 := rfl; omega
    have e : ((2 ^ n : Nat) : Int) = (2 : Int) ^ n := by simp
    rw [← e]
    exact Int.emod_eq_of_lt (Int.natCast_nonneg _) h'
  have q2 : (2 : Int) ^ (32 - n) % 4294967296 = 2 ^ (32 - n) := by
    have h : (2 : Nat) ^ (32 - n) < 2 ^ 32 := Nat.pow_lt_pow_right (by omega) (by omega)
    have h' : ((2 ^ (32 - n) : Nat) : Int) < 4294967296 := by have e : (2 : Nat) ^ 32 = 4294967296 := rfl; omega
    have e : ((2 ^ (32 - n) : Nat) : Int) = (2 : Int) ^ (32 - n) := by simp
    rw [← e]
    exact Int.emod_eq_of_lt (Int.natCast_nonneg _) h'
  have p0 : 0 < (2 : Int) ^ n := by
    have h : 0 < (2 : Nat) ^ n := Nat.two_pow_pos n
    have e : ((2 ^ n : Nat) : Int) = (2 : Int) ^ n := by simp
    omega
  have c1 := fun u : World => pow_any n u (by omega)
  have c2 := fun u : World => pow_any (32 - n) u (by omega)
  rw [q1] at c1
  rw [q2] at c2
  generalize (2 : Int) ^ n = p1 at *
  generalize (2 : Int) ^ (32 - n) = p2 at *
  have C1 := Lib.hid c1
  have C2 := Lib.hid c2
  have HR := Lib.hid hr
  have r1 : InW (x / p1) := ⟨Int.ediv_nonneg x0 (by omega), Int.lt_of_le_of_lt (Int.ediv_le_self p1 x0) x1⟩
  obtain ⟨r10, r11⟩ := r1
  clear c1 c2 hr q1 q2
  have s1 : IntKind.i64.wrap (32 - (n : Int)) = ((32 - n : Nat) : Int) := by rw [IntWalk.i64_in _ (by omega)]; omega
  have s2 : (p1 == 0) = false := by simp; omega
  have s3 : ¬ p1 = 0 := by omega
  have s4 : x.tdiv p1 = x / p1 := Int.tdiv_eq_ediv_of_nonneg x0
  have s5 : IntKind.u32.wrap (x / p1) = x / p1 := by rw [IntKind.wrap_u32]; omega
  go_enter Tryd.func56, Tryd.ntmps56
  go_wp2_with fail
  go_quiet ((go_at_call 61; first | (with_reducible exact Calls.quiet_of_same (C1.out _)) | (with_reducible exact Calls.quiet_of_same (C2.out _))))
  have e : (x / p1 + x * p2 % 4294967296) % 4294967296 = rotI x n := by
    rw [← HR.out]
    generalize x / p1 = A
    generalize x * p2 = B
    omega
  have E := Lib.hid e
  clear e s1 s2 s3 s4 s5
  go_wp2
  go_ret
  exact ⟨by show Ending.returned (.int .u32 ((x / p1 + x * p2 % 4294967296) % 4294967296)) = _; rw [E.out], nq, rfl⟩
end Go.Proofs.YtgiacilkecoenaaDoor

/- The walk of the words of the reference. -/
namespace Go.Proofs.YtgiacilkecoenaaDoor
open Go.RowKit














theorem InW.getD (l : List Int) (h : ∀ x ∈ l, InW x) (i : Nat) : InW (l.getD i 0) := by
  by_cases hi : i < l.length
  · have e : l.getD i 0 = l[i] := by simp [List.getD, List.getElem?_eq_getElem hi]
    rw [e]
    exact h _ (List.getElem_mem hi)
  · have e : l.getD i 0 = 0 := by simp [List.getD, List.getElem?_eq_none (by omega : l.length ≤ i)]
    rw [e]
    exact ⟨by omega, by omega⟩
theorem firstL_in (xs : List Int) : ∀ k, ∀ x ∈ firstL xs k, InW x
  | 0, x, hx => by simp [firstL] at hx
  | k + 1, x, hx => by
    simp only [firstL, List.mem_append, List.mem_singleton] at hx
    rcases hx with hx | rfl
    · exact firstL_in xs k x hx
    · exact InW.word _ _ _ _
theorem moreL_in (xs : List Int) : ∀ k, ∀ x ∈ moreL xs k, InW x
  | 0, x, hx => firstL_in xs 16 x hx
  | k + 1, x, hx => by
    simp only [moreL, List.mem_append, List.mem_singleton] at hx
    rcases hx with hx | rfl
    · exact moreL_in xs k x hx
    · exact InW.mod _
theorem info39 : (Tryd.prog.info? 59).map (fun i => (i.zero, i.size, i.bytes)) = some (some (.int .u32 0), 1, 4) := by kernel_rfl
theorem append_words (base : Nat) (v : Value) (n : Nat) (l : List Value) (w : World) (hown : w.ownsRow base 59 1 v n l) (ad : Addr) (m c : Nat) (ys : List Int) (hl : ys.length = m)
    (hy : ∀ j u, (ys.map u32v)[j]? = some u → w.cell? (ad.add j) = some u) (hs : n + m ≤ 1000) (hbase : base ≤ w.heap.size) :
    ∃ v' w', (Builtin.append_ #[74, 74] 74 #[v, .slice (some ad) m c]).run Tryd.prog w = .ok v' w' ∧ w'.ownsRow base 59 1 v' (n + m) (l ++ ys.map u32v) ∧ w.grownBy w' v.ownBlock := by
  cases hq : Tryd.prog.info? 59 with
  | none => have := info39; rw [hq] at this; cases this
  | some i =>
    have h := info39
    rw [hq] at h
    simp only [Option.map_some, Option.some.injEq, Prod.mk.injEq] at h
    obtain ⟨h1, h2, h3⟩ := h
    obtain ⟨v', w', hrun, hown', hg, _⟩ := run_append_own_at (P := Tryd.prog) w base 74 74 59 i _ 1 4 Tryd.underlying74 hq h1 h2 h3 rfl (by omega) v n l hown ad m c (ys.map u32v) (by simp [hl]) hy (by intro u hu; obtain ⟨z, _, rfl⟩ := List.mem_map.1 hu; rfl) (by unfold maxLen; omega) (by omega) hbase
    exact ⟨v', w', hrun, hown', hg⟩
theorem append_word (base : Nat) (v : Value) (n : Nat) (l : List Value) (w : World) (x : Int) (hown : w.ownsRow base 59 1 v n l) (hs : n ≤ 900) (hbase : base ≤ w.heap.size) :
    ∃ v' w', (Builtin.append_ #[74, 74] 74 #[v, .slice (some ⟨w.heap.size, 0, none⟩) 1 1]).run Tryd.prog (w.alloc (.cells #[.int .u32 x] 59)) = .ok v' w' ∧ w'.ownsRow base 59 1 v' (n + 1) (l ++ [u32v x]) ∧ Below base w w' := by
  have ho := hown.alloc (.cells #[.int .u32 x] 59)
  obtain ⟨v', w', hrun, hown', hg⟩ := append_words base v n l (w.alloc (.cells #[.int .u32 x] 59)) ho ⟨w.heap.size, 0, none⟩ 1 1 [x] rfl (fun j u hu => by
    rcases j with _ | j
    · have hu' : u32v x = u := by simpa using hu
      subst hu'
      exact (Row.new w 59 #[.int .u32 x]).cell 0
    · simp at hu) (by omega) (by simp; omega)
  refine ⟨v', w', hrun, hown', ?_⟩
  have hb : Below base w (w.alloc (.cells #[.int .u32 x] 59)) := (Below.refl _ _).alloc hbase _
  exact hb.trans (below_of_grown hg (fun g hg => (ho.lt g hg).1) (by simp; omega))
theorem step_append_run {P : Program} {ops : Array Oper} {o : Oper} {a : Act} {w w' : World} {K : Act → World → Prop} {Q : Exit → Act → World → Prop} {v y v' : Value} {t : TypeId} (hgd : o.guard = none) (s x : Operand)
    (ho : o.op = .call { callee := .builtin .append, args := #[s, x], argTypes := #[t, t] }) (hty : o.type = t) (hs : a.eval s = v) (hx : a.eval x = y)
    (hrun : (Builtin.append_ #[t, t] t #[v, y]).run P w = .ok v' w') (h : K (a.put o.dst v') w') : if Region.wanted o (yielded ops a.tmps) = true then Oper.wp P o a w K Q else K (a.put o.dst undef) w := by
  rw [if_pos (by simp only [Region.wanted, hgd])]
  unfold Oper.wp execOp
  simp only [ho, hty, resolve, invoke, builtin, Sem.run_bind, Sem.run_pure, Result.andThen_ok, List.map_toArray, List.map_cons, List.map_nil, hs, hx, hrun]
  exact h
theorem step_append_word {ops : Array Oper} {o : Oper} {a : Act} {w0 : World} {x : Int} {K : Act → World → Prop} {Q : Exit → Act → World → Prop} {v : Value} {base n : Nat} {l : List Value} (hgd : o.guard = none) (s y : Operand)
    (ho : o.op = .call { callee := .builtin .append, args := #[s, y], argTypes := #[74, 74] }) (hty : o.type = 74) (hs : a.eval s = v) (hy : a.eval y = .slice (some ⟨w0.heap.size, 0, none⟩) 1 1)
    (hown : w0.ownsRow base 59 1 v n l) (hn : n ≤ 900) (hbase : base ≤ w0.heap.size)
    (h : ∀ v' w', w'.ownsRow base 59 1 v' (n + 1) (l ++ [u32v x]) → Below base w0 w' → K (a.put o.dst v') w') :
    if Region.wanted o (yielded ops a.tmps) = true then Oper.wp Tryd.prog o a (w0.alloc (.cells #[.int .u32 x] 59)).drew K Q else K (a.put o.dst undef) (w0.alloc (.cells #[.int .u32 x] 59)).drew := by
  obtain ⟨v', w', hrun, hown', hb2⟩ := append_word base v n l w0.drew x hown hn hbase
  have hrun' : (Builtin.append_ #[74, 74] 74 #[v, .slice (some ⟨w0.heap.size, 0, none⟩) 1 1]).run Tryd.prog (w0.alloc (.cells #[.int .u32 x] 59)).drew = .ok v' w' := hrun
  exact step_append_run hgd s y ho hty hs hy hrun' (h v' w' hown' ((Below.refl _ _).drew.trans hb2))
theorem turn_at (x : Int) (hx : InW x) (n : Nat) (h1 : 1 ≤ n) (h2 : n ≤ 31) (m : Int) (hm : m = (n : Int)) (u : World) (q : Nat) :
    Calls Tryd.prog 56 #[.int .u32 x, .int .i64 m] (u.drewN q) fun e w' => e = .returned (.int .u32 (rotI x m)) ∧ ∃ r, w' = u.drewN r := by
  subst hm
  exact Calls.quiet_of (rturn_any x n _ h1 h2 hx)
theorem own_cell {base n g cap : Nat} {l : List Int} {w : World} (h : w.ownsRow base 59 1 (.slice (some ⟨g, 0, none⟩) n cap) n (l.map u32v)) (i : Nat) (hi : i < n) : w.cell? ⟨g, i, none⟩ = some (.int .u32 (l.getD i 0)) := by
  have hl : l.length = n := by have := h.1; simpa using this
  have := h.cells (g := g) rfl i (u32v (l.getD i 0)) (by simp [List.getD, List.getElem?_eq_getElem (by omega : i < l.length)])
  rw [Addr.add_mid, Nat.zero_add] at this
  exact this
set_option maxHeartbeats 4000000 in
set_option maxRecDepth 100000 in
theorem rwords_any (b o n c : Nat) (xs : List Int) (w : World) (hn : 64 ≤ n) (hb : b < w.heap.size)
    (hx : ∀ i, i < 64 → w.cell? ⟨b, o + i, none⟩ = some (.int .u8 (xs.getD i 0))) (hr : ∀ i, 0 ≤ xs.getD i 0 ∧ xs.getD i 0 ≤ 255) :
    Calls Tryd.prog 48 #[.slice (some ⟨b, o, none⟩) n c] w fun e w' => ∃ v, e = .returned v ∧ w'.ownsRow w.heap.size 59 1 v 64 ((moreL xs 48).map u32v) ∧ Below w.heap.size w w' := by
  have HX := Lib.hid hx
  have HR := Lib.hid hr
  clear hx hr
  go_enter Tryd.func48, Tryd.ntmps48
  go_wp2
  go_loopw [3, 4] (fun v i u => ∃ k : Nat, k ≤ 16 ∧ i = .int .i64 k ∧ Below w.heap.size w u ∧ Hid (u.ownsRow w.heap.size 59 1 v k ((firstL xs k).map u32v))) (fun _ i _ => 16 - (intOf i).toNat)
  case atStart => exact ⟨0, by omega, rfl, Below.refl _ _, World.ownsRow_nil _ _ _ _⟩
  case round =>
    obtain ⟨k, hk, rfl, hbl, hown⟩ := hrel
    by_cases hlt : k < 16
    · have g0 := (hbl.cell (p := ⟨b, o + 4 * k, none⟩) hb).trans (HX.out (4 * k) (by omega))
      have g1 := (hbl.cell (p := ⟨b, o + (4 * k + 1), none⟩) hb).trans (HX.out (4 * k + 1) (by omega))
      have g2 := (hbl.cell (p := ⟨b, o + (4 * k + 2), none⟩) hb).trans (HX.out (4 * k + 2) (by omega))
      have g3 := (hbl.cell (p := ⟨b, o + (4 * k + 3), none⟩) hb).trans (HX.out (4 * k + 3) (by omega))
      have r0 := HR.out (4 * k)
      have r1 := HR.out (4 * k + 1)
      have r2 := HR.out (4 * k + 2)
      have r3 := HR.out (4 * k + 3)
      have hw : Hid (wordAt xs k = 16777216 * xs.getD (4 * k) 0 + 65536 * xs.getD (4 * k + 1) 0 + 256 * xs.getD (4 * k + 2) 0 + xs.getD (4 * k + 3) 0) := (word_eq _ _ _ _ r0 r1 r2 r3).symm
      generalize xs.getD (4 * k) 0 = x0 at *
      generalize xs.getD (4 * k + 1) 0 = x1 at *
      generalize xs.getD (4 * k + 2) 0 = x2 at *
      generalize xs.getD (4 * k + 3) 0 = x3 at *
      obtain ⟨r00, r01⟩ := r0
      obtain ⟨r10, r11⟩ := r1
      obtain ⟨r20, r21⟩ := r2
      obtain ⟨r30, r31⟩ := r3
      obtain ⟨v', w', hrun, hown', hb2⟩ := append_word w.heap.size _ k _ wr.drew (16777216 * x0 + 65536 * x1 + 256 * x2 + x3) hown.out (by omega) hbl.size
      have hst : Hid (firstL xs (k + 1) = firstL xs k ++ [wordAt xs k]) := rfl
      have HRUN : Hid ((Builtin.append_ #[74, 74] 74 #[_, .slice (some ⟨wr.heap.size, 0, none⟩) 1 1]).run Tryd.prog (wr.alloc (.cells #[.int .u32 (16777216 * x0 + 65536 * x1 + 256 * x2 + x3)] 59)).drew = .ok v' w') := hrun
      have OO := Lib.hid hown'
      have B2 := hbl.drew.trans hb2
      have BB := Lib.hid B2
      have k0 := (B2.cell (p := ⟨b, o + 4 * k, none⟩) hb).trans ((hbl.cell (p := ⟨b, o + 4 * k, none⟩) hb).symm.trans g0)
      have k1 := (B2.cell (p := ⟨b, o + (4 * k + 1), none⟩) hb).trans ((hbl.cell (p := ⟨b, o + (4 * k + 1), none⟩) hb).symm.trans g1)
      have k2 := (B2.cell (p := ⟨b, o + (4 * k + 2), none⟩) hb).trans ((hbl.cell (p := ⟨b, o + (4 * k + 2), none⟩) hb).symm.trans g2)
      have k3 := (B2.cell (p := ⟨b, o + (4 * k + 3), none⟩) hb).trans ((hbl.cell (p := ⟨b, o + (4 * k + 3), none⟩) hb).symm.trans g3)
      have hbz : b < wr.heap.size := Nat.lt_of_lt_of_le hb hbl.size
      have hbe : ¬ b = wr.heap.size := by omega
      clear hrun hown' hb2 hown B2
      have i0 : IntKind.i64.wrap (4 * (k : Int)) = 4 * (k : Int) := IntWalk.i64_in _ (by omega)
      have i1 : IntKind.i64.wrap (4 * (k : Int) + 1) = 4 * (k : Int) + 1 := IntWalk.i64_in _ (by omega)
      have i2 : IntKind.i64.wrap (4 * (k : Int) + 2) = 4 * (k : Int) + 2 := IntWalk.i64_in _ (by omega)
      have i3 : IntKind.i64.wrap (4 * (k : Int) + 3) = 4 * (k : Int) + 3 := IntWalk.i64_in _ (by omega)
      have n0 : (4 * (k : Int)).toNat = 4 * k := by omega
      have n1 : (4 * (k : Int) + 1).toNat = 4 * k + 1 := by omega
      have n2 : (4 * (k : Int) + 2).toNat = 4 * k + 2 := by omega
      have n3 : (4 * (k : Int) + 3).toNat = 4 * k + 3 := by omega
      have z0 : 0 ≤ 4 * (k : Int) := by omega
      have z1 : 0 ≤ 4 * (k : Int) + 1 := by omega
      have z2 : 0 ≤ 4 * (k : Int) + 2 := by omega
      have z3 : 0 ≤ 4 * (k : Int) + 3 := by omega
      have y0 : 4 * (k : Int) < (n : Int) := by omega
      have y1 : 4 * (k : Int) + 1 < (n : Int) := by omega
      have y2 : 4 * (k : Int) + 2 < (n : Int) := by omega
      have y3 : 4 * (k : Int) + 3 < (n : Int) := by omega
      have u0 : IntKind.u32.wrap x0 = x0 := by rw [IntKind.wrap_u32]; omega
      have u1 : IntKind.u32.wrap x1 = x1 := by rw [IntKind.wrap_u32]; omega
      have u2 : IntKind.u32.wrap x2 = x2 := by rw [IntKind.wrap_u32]; omega
      have u3 : IntKind.u32.wrap x3 = x3 := by rw [IntKind.wrap_u32]; omega
      have u4 : IntKind.u32.wrap (16777216 * x0) = 16777216 * x0 := by rw [IntKind.wrap_u32]; omega
      have u5 : IntKind.u32.wrap (65536 * x1) = 65536 * x1 := by rw [IntKind.wrap_u32]; omega
      have u6 : IntKind.u32.wrap (256 * x2) = 256 * x2 := by rw [IntKind.wrap_u32]; omega
      have u7 : IntKind.u32.wrap (16777216 * x0 + 65536 * x1) = 16777216 * x0 + 65536 * x1 := by rw [IntKind.wrap_u32]; omega
      have u8 : IntKind.u32.wrap (16777216 * x0 + 65536 * x1 + 256 * x2) = 16777216 * x0 + 65536 * x1 + 256 * x2 := by rw [IntKind.wrap_u32]; omega
      have u9 : IntKind.u32.wrap (16777216 * x0 + 65536 * x1 + 256 * x2 + x3) = 16777216 * x0 + 65536 * x1 + 256 * x2 + x3 := by rw [IntKind.wrap_u32]; omega
      go_wp2_with fail
      go_region_held3 (fun u => u.cell? ⟨b, o + 4 * k, none⟩ = some (.int .u8 x0) ∧ u.cell? ⟨b, o + (4 * k + 1), none⟩ = some (.int .u8 x1) ∧ u.cell? ⟨b, o + (4 * k + 2), none⟩ = some (.int .u8 x2) ∧ u.cell? ⟨b, o + (4 * k + 3), none⟩ = some (.int .u8 x3))
        (first
          | exact ⟨k0, k1, k2, k3⟩
          | exact ⟨g0, g1, g2, g3⟩
          | exact ⟨(World.cell?_alloc_lt _ _ _ hbz).trans g0, (World.cell?_alloc_lt _ _ _ hbz).trans g1, (World.cell?_alloc_lt _ _ _ hbz).trans g2, (World.cell?_alloc_lt _ _ _ hbz).trans g3⟩)
        (first
          | ((refine step_append_run (by rfl) (.tmp 12) (.tmp 46) (by rfl) (by rfl) (by rfl) (by rfl) HRUN.out ?_)))
      clear i0 i1 i2 i3 n0 n1 n2 n3 z0 z1 z2 z3 y0 y1 y2 y3 u0 u1 u2 u3 u4 u5 u6 u7 u8 u9 g0 g1 g2 g3 k0 k1 k2 k3
      go_wp2
      go_roundw
      case rel =>
        refine ⟨k + 1, by omega, by go_num, BB.out, ?_⟩
        show World.ownsRow _ _ _ _ _ _ _
        rw [hst.out, List.map_append, hw.out]
        exact OO.out
      case measure => simp [intOf]; omega
    · obtain rfl : k = 16 := by omega
      go_wp2
      go_loopw [3, 5] (fun v i u => ∃ j : Nat, j ≤ 48 ∧ i = .int .i64 (j + 16) ∧ Below w.heap.size w u ∧ Hid (u.ownsRow w.heap.size 59 1 v (j + 16) ((moreL xs j).map u32v))) (fun _ i _ => 64 - (intOf i).toNat)
      case atStart => exact ⟨0, by omega, rfl, hbl, hown.out⟩
      case round =>
        clear hbl hown
        obtain ⟨j, hj, rfl, hbl, hown⟩ := hrel
        by_cases hlt : j < 48
        · rcases hown.out.2 with ⟨_, h0⟩ | ⟨g, cap, cur, rfl, hgb, hgr, hcap, hcm, _⟩
          · omega
          unfold maxLen at hcm
          have c0 := own_cell hown.out j (by omega)
          have c1 := own_cell hown.out (j + 1) (by omega)
          have c9 := own_cell hown.out (j + 9) (by omega)
          have c14 := own_cell hown.out (j + 14) (by omega)
          have w1 := InW.getD _ (moreL_in xs j) (j + 1)
          have w14 := InW.getD _ (moreL_in xs j) (j + 14)
          have hst : Hid (moreL xs (j + 1) = moreL xs j ++ [((moreL xs j).getD j 0 + (moreL xs j).getD (j + 9) 0 + smallS ((moreL xs j).getD (j + 1) 0) + smallT ((moreL xs j).getD (j + 14) 0)) % 4294967296]) := rfl
          generalize (moreL xs j).getD j 0 = y0 at *
          generalize (moreL xs j).getD (j + 1) 0 = y1 at *
          generalize (moreL xs j).getD (j + 9) 0 = y9 at *
          generalize (moreL xs j).getD (j + 14) 0 = y14 at *
          have T7 : Hid (∀ (u : World) (q : Nat), Calls Tryd.prog 56 #[.int .u32 y1, .int .i64 7] (u.drewN q) fun e w' => e = .returned (.int .u32 (rotI y1 7)) ∧ ∃ r, w' = u.drewN r) := fun u q => turn_at y1 w1 7 (by omega) (by omega) 7 rfl u q
          have T18 : Hid (∀ (u : World) (q : Nat), Calls Tryd.prog 56 #[.int .u32 y1, .int .i64 18] (u.drewN q) fun e w' => e = .returned (.int .u32 (rotI y1 18)) ∧ ∃ r, w' = u.drewN r) := fun u q => turn_at y1 w1 18 (by omega) (by omega) 18 rfl u q
          have T17 : Hid (∀ (u : World) (q : Nat), Calls Tryd.prog 56 #[.int .u32 y14, .int .i64 17] (u.drewN q) fun e w' => e = .returned (.int .u32 (rotI y14 17)) ∧ ∃ r, w' = u.drewN r) := fun u q => turn_at y14 w14 17 (by omega) (by omega) 17 rfl u q
          have T19 : Hid (∀ (u : World) (q : Nat), Calls Tryd.prog 56 #[.int .u32 y14, .int .i64 19] (u.drewN q) fun e w' => e = .returned (.int .u32 (rotI y14 19)) ∧ ∃ r, w' = u.drewN r) := fun u q => turn_at y14 w14 19 (by omega) (by omega) 19 rfl u q
          obtain ⟨w10, w11⟩ := w1
          obtain ⟨w140, w141⟩ := w14
          have s1 : IntKind.i64.wrap ((j : Int) + 16 - 15) = (j : Int) + 1 := by rw [IntWalk.i64_in _ (by omega)]; omega
          have s2 : IntKind.i64.wrap ((j : Int) + 16 - 2) = (j : Int) + 14 := by rw [IntWalk.i64_in _ (by omega)]; omega
          have s3 : IntKind.i64.wrap ((j : Int) + 16 - 16) = (j : Int) := by rw [IntWalk.i64_in _ (by omega)]; omega
          have s4 : IntKind.i64.wrap ((j : Int) + 16 - 7) = (j : Int) + 9 := by rw [IntWalk.i64_in _ (by omega)]; omega
          have s5 : IntKind.i64.wrap (j : Int) = (j : Int) := by rw [IntWalk.i64_in _ (by omega)]
          have t1 : ((j : Int) + 1).toNat = j + 1 := by omega
          have t2 : ((j : Int) + 14).toNat = j + 14 := by omega
          have t4 : ((j : Int) + 9).toNat = j + 9 := by omega
          have z1 : 0 ≤ (j : Int) + 1 := by omega
          have z2 : 0 ≤ (j : Int) + 14 := by omega
          have z4 : 0 ≤ (j : Int) + 9 := by omega
          have b1 : (j : Int) + 1 < (j : Int) + 16 := by omega
          have b2 : (j : Int) + 14 < (j : Int) + 16 := by omega
          have b3 : (j : Int) < (j : Int) + 16 := by omega
          have b4 : (j : Int) + 9 < (j : Int) + 16 := by omega
          have d1 : y1.tdiv 8 = y1 / 8 := Int.tdiv_eq_ediv_of_nonneg w10
          have d2 : y14.tdiv 1024 = y14 / 1024 := Int.tdiv_eq_ediv_of_nonneg w140
          have e1 : IntKind.u32.wrap (y1 / 8) = y1 / 8 := by rw [IntKind.wrap_u32]; omega
          have e2 : IntKind.u32.wrap (y14 / 1024) = y14 / 1024 := by rw [IntKind.wrap_u32]; omega
          go_wp2_with fail
          go_quiet ((go_at_call 56; first | (with_reducible exact T7.out _ _) | (with_reducible exact T18.out _ _)))
          have O1 : Hid ((wr.drewN nq).ownsRow w.heap.size 59 1 (.slice (some ⟨g, 0, none⟩) (j + 16) cap) (j + 16) ((moreL xs j).map u32v)) := hown
          have B1 := below_drewN hbl nq
          have c0' : (wr.drewN nq).cell? ⟨g, j, none⟩ = some (.int .u32 y0) := c0
          have c9' : (wr.drewN nq).cell? ⟨g, j + 9, none⟩ = some (.int .u32 y9) := c9
          have c14' : (wr.drewN nq).cell? ⟨g, j + 14, none⟩ = some (.int .u32 y14) := c14
          clear c0 c1 c9 c14 hown hbl hgr
          generalize wr.drewN nq = w2 at *
          go_wp2_with fail
          go_quiet ((go_at_call 56; first | (with_reducible exact T17.out _ _) | (with_reducible exact T19.out _ _)))
          have O2 : Hid ((w2.drewN nq).ownsRow w.heap.size 59 1 (.slice (some ⟨g, 0, none⟩) (j + 16) cap) (j + 16) ((moreL xs j).map u32v)) := O1
          have B2 := below_drewN B1 nq
          have c0 : (w2.drewN nq).cell? ⟨g, j, none⟩ = some (.int .u32 y0) := c0'
          have c9 : (w2.drewN nq).cell? ⟨g, j + 9, none⟩ = some (.int .u32 y9) := c9'
          clear c0' c9' c14' O1 B1
          generalize w2.drewN nq = w3 at *
          have hv : Hid ((y0 + smallS y1 + y9 + smallT y14) % 4294967296 = (y0 + y9 + smallS y1 + smallT y14) % 4294967296) := by show _ = _; congr 1; omega
          have hsS : Hid (bits BinOp.xor IntKind.u32 (bits BinOp.xor IntKind.u32 (rotI y1 7) (rotI y1 18)) (y1 / 8) = smallS y1) := rfl
          have hsT : Hid (bits BinOp.xor IntKind.u32 (bits BinOp.xor IntKind.u32 (rotI y14 17) (rotI y14 19)) (y14 / 1024) = smallT y14) := rfl
          have hu32 : ∀ z, IntKind.u32.wrap z = z % 4294967296 := IntKind.wrap_u32
          go_wp2_with fail
          rw [hsS.out, hsT.out]
          generalize smallS y1 = sS at *
          generalize smallT y14 = sT at *
          have hw3 := B2.size
          go_region_law (first
            | ((refine step_append_word (by rfl) (.tmp 92) (.tmp 108) (by rfl) (by rfl) (by rfl) (by rfl) O2.out (by omega) hw3 ?_); intro v' w' OO BB))
          all_goals
            have OH := Lib.hid OO
            have BH := Lib.hid (B2.trans BB)
            clear OO BB c0 c9 O2 B2 s1 s2 s3 s4 s5 t1 t2 t4 z1 z2 z4 b1 b2 b3 b4 d1 d2 e1 e2 hu32
            go_wp2
            go_roundw
            case rel =>
              repeat apply Exists.intro
              refine ⟨⟨j + 1, by omega, by go_num, BH.out, ?_⟩, rfl⟩
              show World.ownsRow _ _ _ _ _ _ _
              rw [show j + 1 + 16 = j + 16 + 1 by omega, hst.out, List.map_append, ← hv.out]
              exact OH.out
            case measure => simp [intOf]; omega
        · obtain rfl : j = 48 := by omega
          go_wp2
          go_ret
          exact ⟨_, rfl, hown.out, hbl⟩
end Go.Proofs.YtgiacilkecoenaaDoor
