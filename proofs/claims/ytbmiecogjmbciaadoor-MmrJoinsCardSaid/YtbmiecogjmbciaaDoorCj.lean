/- Part of a proof. -/
import Derived.Test.YtbmiecogjmbciaaDoorCi
import Derived.Lib.Strings
import Derived.Lib.Slices
import Derived.Lib.Small
import Derived.Lib.Walk
import Derived.Lib.BitFns
namespace Go.Proofs.YtbmiecogjmbciaaDoor
set_option maxRecDepth 8000
open Go.RowKit

set_option maxHeartbeats 4000000 in
set_option maxRecDepth 100000 in
theorem blen64_any (x : Int) (w : World) (h0 : 0 ≤ x) (h1 : x < 16777216) :
    Calls Tryd.prog 80 #[.int .u64 x] w fun e w' => e = .returned (.int .i64 (Lib.bitLen x.toNat)) ∧ w' = w := by
  have n1 : ¬ 4294967296 ≤ x := by omega
  have hw : x ≤ 18446744073709551615 := by omega
  by_cases hA : x < 256
  · have n2 : ¬ 65536 ≤ x := by omega
    have n3 : ¬ 256 ≤ x := by omega
    have hA2 : x ≤ 255 := by omega
    have l := Lib.bitLen_le8' x (by omega) (by omega)
    have HE := Lib.hid (Lib.len8_of x (by omega) (by omega))
    go_enter Tryd.func80, Tryd.ntmps80
    go_wp2
    go_ret
    refine ⟨congrArg Ending.returned (congrArg (Value.int IntKind.i64) ?_), rfl⟩
    rw [HE.out]
    unfold wrap64
    omega
  · by_cases hB : x < 65536
    · have n2 : ¬ 65536 ≤ x := by omega
      have n3 : 256 ≤ x := by omega
      have q0 : 0 ≤ x / 256 := by omega
      have q1 : x / 256 ≤ 255 := by omega
      have HE := Lib.hid (Lib.len8_of (x / 256) q0 q1)
      go_enter Tryd.func80, Tryd.ntmps80
      go_wp2
      go_ret
      refine ⟨congrArg Ending.returned (congrArg (Value.int IntKind.i64) ?_), rfl⟩
      have e : (x / 256).toNat = x.toNat / 256 := by omega
      have l := Lib.bitLen_le8' (x / 256) (by omega) (by omega)
      have s := Lib.bitLen_shift8 x.toNat (by omega) (by omega)
      rw [HE.out]
      rw [e] at l ⊢
      unfold wrap64
      omega
    · have n2 : 65536 ≤ x := by omega
      have q0 : 0 ≤ x / 65536 := by omega
      have q1 : x / 65536 ≤ 255 := by omega
      have HE := Lib.hid (Lib.len8_of (x / 65536) q0 q1)
      have n3 : ¬ 256 ≤ x / 65536 := by omega
      go_enter Tryd.func80, Tryd.ntmps80
      go_wp2
      go_ret
      refine ⟨congrArg Ending.returned (congrArg (Value.int IntKind.i64) ?_), rfl⟩
      have e : (x / 65536).toNat = x.toNat / 65536 := by omega
      have l := Lib.bitLen_le8' (x / 65536) (by omega) (by omega)
      have s := Lib.bitLen_shift16 x.toNat (by omega) (by omega)
      rw [HE.out]
      rw [e] at l ⊢
      unfold wrap64
      omega
set_option maxHeartbeats 1000000 in
theorem blen_any (x : Int) (w : World) (h0 : 0 ≤ x) (h1 : x < 16777216) :
    Calls Tryd.prog 70 #[.int .u64 x] w fun e w' => e = .returned (.int .i64 (Lib.bitLen x.toNat)) ∧ w' = w := by
  have HC := Lib.hid (blen64_any x w h0 h1)
  go_enter Tryd.func70, Tryd.ntmps70
  go_wp2_with (go_at_call 80; refine HC.out.mono ?_; rintro e w' ⟨rfl, rfl⟩)
  go_ret
  exact ⟨rfl, rfl⟩
theorem bitLen_pow : ∀ (x : Nat), 1 ≤ x → x < 2 ^ 64 → ∃ e, Lib.bitLen x = e + 1 ∧ 2 ^ e ≤ x ∧ x < 2 * 2 ^ e := by
  intro x
  induction x using Nat.strongRecOn with
  | _ x ih =>
    intro h1 h2
    by_cases hx : x = 1
    · subst hx
      exact ⟨0, by decide +kernel, by decide, by decide⟩
    · obtain ⟨e, e1, e2, e3⟩ := ih (x / 2) (by omega) (by omega) (by omega)
      refine ⟨e + 1, by rw [Lib.bitLen_half x (by omega) h2, e1]; omega, ?_, ?_⟩
      · rw [Nat.pow_succ]; omega
      · rw [Nat.pow_succ]; omega
theorem half_bit {n : Nat} (h : 2 ≤ n) (hn : n ≤ 1099511627776) : ∃ e, Lib.bitLen (n - 1) = e + 1 ∧ halfT n = 2 ^ e ∧ e < 40 := by
  obtain ⟨e, e1, e2, e3⟩ := bitLen_pow (n - 1) (by omega) (by omega)
  refine ⟨e, e1, half_unique (by omega) (by omega), ?_⟩
  rcases Nat.lt_or_ge e 40 with h | h
  · exact h
  · have := Nat.pow_le_pow_right (n := 2) (by decide) h
    omega
def standT (n i : Int) : Bool := decide (n ≤ 64 ∧ 0 ≤ i ∧ i < n)
end Go.Proofs.YtbmiecogjmbciaaDoor

namespace Go.Proofs.YtbmiecogjmbciaaDoor
set_option maxRecDepth 8000
open Go.RowKit

def ii (n : Nat) : Value := .int .i64 (n : Int)
section
variable {a : Act} {dst : Option Tmp} {x y : Operand} {ty : TypeId} {pos : String} {after : Array Edge} {gd : Option (Nat × Bool)}
theorem conv_uint_op {m : Nat} (u : World) (hm : m < 9223372036854775808) (hx : a.eval x = .int .i64 (m : Int)) :
    (execOp a.eval ⟨dst, .convert 3 94 x, ty, pos, after, gd⟩).run Tryd.prog u = .ok (.value (.int .u64 (m : Int))) u := by
  have hq : IntKind.u64.wrap (m : Int) = (m : Int) := by rw [IntKind.wrap_u64]; omega
  unfold execOp
  simp only [hx]
  go_simp
theorem shl_op {e p : Nat} (u : World) (hp : 2 ^ e = p) (he : e < 62) (hx : a.eval x = .int .i64 1) (hy : a.eval y = .int .i64 (e : Int)) :
    (execOp a.eval ⟨dst, .binOp .shl 3 x y 3, ty, pos, after, gd⟩).run Tryd.prog u = .ok (.value (.int .i64 (p : Int))) u := by
  have h0 : ¬ (e : Int) < 0 := by omega
  have h1 : ¬ (64 : Int) ≤ (e : Int) := by omega
  have hp2 : 2 ^ e < 2 ^ 62 := Nat.pow_lt_pow_right (by decide) he
  have hc : ((2 : Int) ^ e) = (p : Int) := by rw [← hp]; simp
  have hq : IntKind.i64.wrap (p : Int) = (p : Int) := wrap64_in (by rw [hp] at hp2; unfold InI; omega)
  unfold execOp
  simp only [hx, hy]
  go_simp
end
end Go.Proofs.YtbmiecogjmbciaaDoor

namespace Go.Proofs.YtbmiecogjmbciaaDoor
set_option maxRecDepth 8000
open Go.RowKit

theorem aggMSpan : AggT 58 2 := ⟨fun w => by simp [isAgg, run_underlying Tryd.underlying58], by kernel_rfl⟩
theorem aggMSides : AggT 60 4 := ⟨fun w => by simp [isAgg, run_underlying Tryd.underlying60], by kernel_rfl⟩
theorem aggMStep : AggT 63 41 := ⟨fun w => by simp [isAgg, run_underlying Tryd.underlying63], by kernel_rfl⟩
theorem info_mspan : (Tryd.prog.info? 58).map (·.size) = some 2 := by kernel_rfl
theorem info_msides : (Tryd.prog.info? 60).map (·.size) = some 4 := by kernel_rfl
theorem EnvX.five {w : World} (o1 o2 o3 o4 o5 : Obj) : EnvX w (((((w.alloc o1).alloc o2).alloc o3).alloc o4).alloc o5) [(w.heap.size + 1 + 1 + 1 + 1, o5), (w.heap.size + 1 + 1 + 1, o4), (w.heap.size + 1 + 1, o3), (w.heap.size + 1, o2), (w.heap.size, o1)] := by
  have h := ((EnvX.three (w := w) o1 o2 o3).new o4).new o5
  have hs : (((w.alloc o1).alloc o2).alloc o3).heap.size = w.heap.size + 1 + 1 + 1 := by simp
  have hs2 : ((((w.alloc o1).alloc o2).alloc o3).alloc o4).heap.size = w.heap.size + 1 + 1 + 1 + 1 := by simp
  rw [hs2, hs] at h
  exact h
/-- the two sides of a cut list, as cells -/
def sdV (x : Nat × Nat × Bool) : List Value := [ii (nearF x), ii (nearF x + nearN x), ii (farF x), ii (farF x + farN x)]
theorem new_mspan {dst : Option Tmp} {ty : TypeId} {pos : String} {after : Array Edge} {gd : Option (Nat × Bool)} (a : Act) : NewAt Tryd.prog ⟨dst, .alloc 58, ty, pos, after, gd⟩ a (.cells #[ii 0, ii 0] 58 (0, 0)) := fun u => by
  rw [← (show (#[.int .i64 0, .int .i64 0] : Array Value) = #[ii 0, ii 0] from rfl)]
  go_simp
theorem new_msides {dst : Option Tmp} {ty : TypeId} {pos : String} {after : Array Edge} {gd : Option (Nat × Bool)} (a : Act) : NewAt Tryd.prog ⟨dst, .alloc 60, ty, pos, after, gd⟩ a (.cells #[ii 0, ii 0, ii 0, ii 0] 60 (0, 0)) := fun u => by
  rw [← (show (#[.int .i64 0, .int .i64 0, .int .i64 0, .int .i64 0] : Array Value) = #[ii 0, ii 0, ii 0, ii 0] from rfl)]
  go_simp
set_option maxHeartbeats 1000000 in
theorem mstand_any (n i : Int) (w : World) (hn0 : -9223372036854775808 ≤ n) (hn1 : n ≤ 9223372036854775807) (hi0 : -9223372036854775808 ≤ i) (hi1 : i ≤ 9223372036854775807) :
    Calls Tryd.prog 33 #[.int .i64 n, .int .i64 i] w fun e w' => e = .returned (.bool (standT n i)) ∧ Below w.heap.size w w' := by
  by_cases h1 : n ≤ 64
  · by_cases h2 : 0 ≤ i
    · by_cases h3 : i < n
      · have hs : standT n i = true := by unfold standT; simp only [decide_eq_true_eq]; omega
        rw [hs]
        go_enter Tryd.func33, Tryd.ntmps33
        go_wp2
        go_ret
        exact ⟨rfl, Below.refl _ _⟩
      · have hs : standT n i = false := by unfold standT; simp only [decide_eq_false_iff_not]; omega
        rw [hs]
        go_enter Tryd.func33, Tryd.ntmps33
        go_wp2
        go_ret
        exact ⟨rfl, Below.refl _ _⟩
    · have hs : standT n i = false := by unfold standT; simp only [decide_eq_false_iff_not]; omega
      rw [hs]
      go_enter Tryd.func33, Tryd.ntmps33
      go_wp2
      go_ret
      exact ⟨rfl, Below.refl _ _⟩
  · have hs : standT n i = false := by unfold standT; simp only [decide_eq_false_iff_not]; omega
    rw [hs]
    go_enter Tryd.func33, Tryd.ntmps33
    go_wp2
    go_ret
    exact ⟨rfl, Below.refl _ _⟩
set_option maxRecDepth 20000 in
set_option maxHeartbeats 4000000 in
theorem msize_any (f m : Nat) (w : World) (hb : f + m ≤ 1000000) :
    Calls Tryd.prog 53 #[.agg #[ii f, ii (f + m)]] w fun e w' => e = .returned (ii m) ∧ Below w.heap.size w w' := by
  have q1 : Hid (((f + m : Nat) : Int) - (f : Int) = (m : Int) ∧ InI (m : Int)) := ⟨by omega, by unfold InI; omega⟩
  clear hb
  have E1 : Hid (EnvX w (w.alloc (.cells (#[ii f, ii (f + m)]) 58)) [(w.heap.size, Obj.cells (#[ii f, ii (f + m)]) 58 (0, 0))]) := (EnvX.start w).new _
  go_enter Tryd.func53, Tryd.ntmps53
  go_upto_region 1 with (fail)
  change Code.wp _ _ _ _ (w.alloc (.cells (#[ii f, ii (f + m)]) 58))
  generalize w.alloc (.cells (#[ii f, ii (f + m)]) 58) = W at *
  refine wp_region_Hx (w0 := w) [0, 1, 2, 3, 4, 5] [(w.heap.size, Obj.cells (#[ii f, ii (f + m)]) 58 (0, 0))] rfl E1.out ?_
  refine lexH_phase [0, 1, 2, 3, 4, 5] [] ?_
  have hw1 : EnvX w _ [(w.heap.size, Obj.cells (#[ii f, ii (f + m)]) 58 (0, 0))] := E1.out
  have hone := @EnvC.one _ _ _ hw1
  (refine wpG_op rfl rfl rfl ?_; intro K hK; go_big_quiet_op; go_big_quiet_on)
  (refine wpG_val (v := ii (f + m)) rfl rfl (fun u hu => load_any_op u (run_load_one oneInt u (box_cell (k := 1) hu (List.Mem.head _) rfl)) rfl) ?_ hw1; intro K hK; go_big_quiet_op; go_big_quiet_on)
  (refine wpG_op rfl rfl rfl ?_; intro K hK; go_big_quiet_op; go_big_quiet_on)
  (refine wpG_val (v := ii f) rfl rfl (fun u hu => load_any_op u (run_load_one oneInt u (box_cell (k := 0) hu (List.Mem.head _) rfl)) rfl) ?_ hw1; intro K hK; go_big_quiet_op; go_big_quiet_on)
  (refine wpG_val (v := ii m) rfl rfl (fun u hu => sub_op u q1.out.1 q1.out.2 rfl rfl) ?_ hw1; intro K hK; go_big_quiet_op; go_big_quiet_on)
  (refine wpG_op rfl rfl rfl ?_; intro K hK; go_big_quiet_op; go_big_quiet_on)
  clear hone hw1
  refine wpG_nil ?_
  intro u3 E2'
  have EX2 := Lib.hid E2'
  clear E2'
  go_wp2
  go_ret
  exact ⟨rfl, EnvX.bel EX2.out⟩
set_option maxRecDepth 20000 in
set_option maxHeartbeats 4000000 in
theorem mmid_any (n : Nat) (w : World) (h2 : 2 ≤ n) (hn : n ≤ 1000000) :
    Calls Tryd.prog 56 #[ii n] w fun e w' => e = .returned (ii (halfT n)) ∧ Below w.heap.size w w' := by
  obtain ⟨e, e1, e2, e3⟩ := half_bit h2 (by omega)
  rw [e2]
  have HLEN : Hid (∀ u, Calls Tryd.prog 70 #[.int .u64 ((n - 1 : Nat) : Int)] u fun en w' => en = .returned (.int .i64 ((e + 1 : Nat) : Int)) ∧ Below u.heap.size u w') := fun u => by
    refine (blen_any ((n - 1 : Nat) : Int) u (by omega) (by omega)).mono ?_
    rintro en w' ⟨rfl, rfl⟩
    exact ⟨by rw [Int.toNat_natCast, e1], Below.refl _ _⟩
  have q1 : Hid ((n : Int) - 1 = ((n - 1 : Nat) : Int) ∧ ((e + 1 : Nat) : Int) - 1 = (e : Int)) := ⟨by omega, by omega⟩
  have q3 : Hid (InI ((n - 1 : Nat) : Int) ∧ InI (e : Int) ∧ n - 1 < 9223372036854775808 ∧ e < 62) := by show _ ∧ _; unfold InI; omega
  clear e1 e2 e3
  generalize hp : 2 ^ e = p at *
  have HP := Lib.hid hp
  clear hp
  have E1 : Hid (EnvX w w []) := EnvX.start w
  go_enter Tryd.func56, Tryd.ntmps56
  go_upto_region 1 with (fail)
  refine wp_region_Hx (w0 := w) [0, 1, 2, 3, 4, 5, 6] [] rfl E1.out ?_
  refine lexH_phase [0, 1, 2, 3, 4, 5, 6] [] ?_
  have hw1 : EnvX w _ [] := E1.out
  have hone := @EnvC.one _ _ _ hw1
  (refine wpG_op rfl rfl rfl ?_; intro K hK; go_big_quiet_op; go_big_quiet_on)
  (refine wpG_val (v := ii (n - 1)) rfl rfl (fun u hu => sub_op u q1.out.1 q3.out.1 rfl rfl) ?_ hw1; intro K hK; go_big_quiet_op; go_big_quiet_on)
  (refine wpG_val (v := .int .u64 ((n - 1 : Nat) : Int)) rfl rfl (fun u hu => conv_uint_op u q3.out.2.2.1 rfl) ?_ hw1; intro K hK; go_big_quiet_op; go_big_quiet_on)
  (refine wpG_call (f := 70) (args := #[.int .u64 ((n - 1 : Nat) : Int)]) (v := ii (e + 1)) rfl rfl rfl Tryd.func70 rfl rfl (fun u hu => HLEN.out u) ?_ hw1; intro K hK; go_big_quiet_op; go_big_quiet_on)
  (refine wpG_val (v := ii e) rfl rfl (fun u hu => sub_op u q1.out.2 q3.out.2.1 rfl rfl) ?_ hw1; intro K hK; go_big_quiet_op; go_big_quiet_on)
  (refine wpG_val (v := ii p) rfl rfl (fun u hu => shl_op u HP.out q3.out.2.2.2 rfl rfl) ?_ hw1; intro K hK; go_big_quiet_op; go_big_quiet_on)
  (refine wpG_op rfl rfl rfl ?_; intro K hK; go_big_quiet_op; go_big_quiet_on)
  clear hone hw1
  refine wpG_nil ?_
  intro u3 E2'
  have EX2 := Lib.hid E2'
  clear E2'
  go_wp2
  go_ret
  exact ⟨rfl, EnvX.bel EX2.out⟩
set_option maxRecDepth 20000 in
set_option maxHeartbeats 4000000 in
theorem mcut_low (f m i p : Nat) (w : World) (h2 : 2 ≤ m) (hp : halfT m = p) (hn : f + m ≤ 1000000) (hi : i ≤ 1000000) (hlt : i < f + p) :
    Calls Tryd.prog 54 #[.agg #[ii f, ii (f + m)], .int .i64 (i : Int)] w fun e w' => e = .returned (.agg #[ii f, ii (f + p), ii (f + p), ii (f + m)]) ∧ Below w.heap.size w w' := by
  have HSZ : Hid (∀ u, Calls Tryd.prog 53 #[.agg #[ii f, ii (f + m)]] u fun e w' => e = .returned (ii m) ∧ Below u.heap.size u w') := fun u => msize_any f m u hn
  have HMD : Hid (∀ u, Calls Tryd.prog 56 #[ii m] u fun e w' => e = .returned (ii p) ∧ Below u.heap.size u w') := fun u => by rw [← hp]; exact mmid_any m u h2 (by omega)
  have hpm : p < m := by rw [← hp]; exact (half_spec h2).2.1
  have q2 : Hid ((f : Int) + (p : Int) = ((f + p : Nat) : Int) ∧ InI ((f + p : Nat) : Int)) := ⟨by omega, by unfold InI; omega⟩
  have hlt' : (i : Int) < ((f + p : Nat) : Int) := by omega
  clear hn hi h2 hp hpm hlt
  have E1 : Hid (EnvX w ((w.alloc (.cells (#[ii f, ii (f + m)]) 58)).alloc (.cells (#[ii 0, ii 0, ii 0, ii 0]) 60)) [(w.heap.size + 1, Obj.cells (#[ii 0, ii 0, ii 0, ii 0]) 60 (0, 0)), (w.heap.size, Obj.cells (#[ii f, ii (f + m)]) 58 (0, 0))]) := (EnvX.start w).two _ _
  go_enter Tryd.func54, Tryd.ntmps54
  go_upto_region 1 with (fail)
  change Code.wp _ _ _ _ ((w.alloc (.cells (#[ii f, ii (f + m)]) 58)).alloc (.cells (#[ii 0, ii 0, ii 0, ii 0]) 60))
  generalize (w.alloc (.cells (#[ii f, ii (f + m)]) 58)).alloc (.cells (#[ii 0, ii 0, ii 0, ii 0]) 60) = W at *
  refine wp_region_H (w0 := w) [(w.heap.size + 1, Obj.cells (#[ii 0, ii 0, ii 0, ii 0]) 60 (0, 0)), (w.heap.size, Obj.cells (#[ii f, ii (f + m)]) 58 (0, 0))] (by kernel_rfl) E1.out ?_
  refine anyH_phase [0, 1, 2, 3, 4, 5, 6] 0 rfl ⟨_, (EnvX.drew E1.out)⟩ (by kernel_rfl) ?_
  have hw1 : EnvX w _ [(w.heap.size + 1, Obj.cells (#[ii 0, ii 0, ii 0, ii 0]) 60 (0, 0)), (w.heap.size, Obj.cells (#[ii f, ii (f + m)]) 58 (0, 0))] := (EnvX.drew E1.out)
  have hone := @EnvC.one _ _ _ hw1
  (refine wpG_op rfl rfl rfl ?_; intro K hK; go_big_quiet_op; go_big_quiet_on)
  (refine wpG_val (v := ii f) rfl rfl (fun u hu => load_any_op u (run_load_one oneInt u (box_cell (k := 0) hu (List.Mem.tail _ (List.Mem.head _)) rfl)) rfl) ?_ hw1; intro K hK; go_big_quiet_op; go_big_quiet_on)
  (refine wpG_val (v := .agg #[ii f, ii (f + m)]) rfl rfl (fun u hu => load_any_op u (box_agg aggMSpan (k := 0) hu (List.Mem.tail _ (List.Mem.head _)) [ii f, ii (f + m)] rfl rfl) rfl) ?_ hw1; intro K hK; go_big_quiet_op; go_big_quiet_on)
  (refine wpG_call (f := 53) (args := #[.agg #[ii f, ii (f + m)]]) (v := ii m) rfl rfl rfl Tryd.func53 rfl rfl (fun u hu => HSZ.out u) ?_ hw1; intro K hK; go_big_quiet_op; go_big_quiet_on)
  (refine wpG_call (f := 56) (args := #[ii m]) (v := ii p) rfl rfl rfl Tryd.func56 rfl rfl (fun u hu => HMD.out u) ?_ hw1; intro K hK; go_big_quiet_op; go_big_quiet_on)
  (refine wpG_val (v := .int .i64 ((f + p : Nat) : Int)) rfl rfl (fun u hu => add_op u q2.out.1 q2.out.2 rfl rfl) ?_ hw1; intro K hK; go_big_quiet_op; go_big_quiet_on)
  (refine wpG_op rfl rfl rfl ?_; intro K hK; go_big_quiet_op; go_big_quiet_on)
  clear hone hw1
  refine wpG_nil ?_
  refine anyH_done (by kernel_rfl) ?_
  intro u3 E2'
  have EX2 := Lib.hid E2'
  clear E2'
  have HL0 : Hid (∀ u, EnvX u3 u [] → (loadVar 3 ⟨w.heap.size, 0, none⟩).run Tryd.prog u = .ok (ii f) u) := fun u hu => run_load_one oneInt u (box_cell (k := 0) (EnvX.comb EX2.out hu) (List.Mem.tail _ (List.Mem.head _)) rfl)
  have HL1 : Hid (∀ u, EnvX u3 u [] → (loadVar 3 ⟨w.heap.size, 1, none⟩).run Tryd.prog u = .ok (ii (f + m)) u) := fun u hu => run_load_one oneInt u (box_cell (k := 1) (EnvX.comb EX2.out hu) (List.Mem.tail _ (List.Mem.head _)) rfl)
  have EU : Hid (EnvX u3 u3 []) := EnvX.start _
  generalize u3 = U at *
  go_upto_region 2 with (fail)
  refine wp_region_H (w0 := U) [] (by kernel_rfl) EU.out ?_
  refine anyH_phaseN [0, 1, 2, 3, 4, 5, 6, 7] 4 rfl (by kernel_rfl) ?_
  have hw4 : EnvX U _ [] := EnvX.sub (EnvX.drew EU.out) (fun _ h => by cases h)
  have hone := @EnvC.one _ _ _ hw4
  (refine wpG_op rfl rfl rfl ?_; intro K hK; go_big_quiet_op; go_big_quiet_on)
  (refine wpG_val (v := ii f) rfl rfl (fun u hu => load_any_op u (HL0.out u hu) rfl) ?_ hw4; intro K hK; go_big_quiet_op; go_big_quiet_on)
  (refine wpG_op rfl rfl rfl ?_; intro K hK; go_big_quiet_op; go_big_quiet_on)
  (refine wpG_val (v := .agg #[ii f, ii (f + p)]) rfl rfl (fun u hu => buildA_op u (by kernel_rfl)) ?_ hw4; intro K hK; go_big_quiet_op; go_big_quiet_on)
  (refine wpG_op rfl rfl rfl ?_; intro K hK; go_big_quiet_op; go_big_quiet_on)
  (refine wpG_op rfl rfl rfl ?_; intro K hK; go_big_quiet_op; go_big_quiet_on)
  (refine wpG_val (v := ii (f + m)) rfl rfl (fun u hu => load_any_op u (HL1.out u hu) rfl) ?_ hw4; intro K hK; go_big_quiet_op; go_big_quiet_on)
  (refine wpG_val (v := .agg #[ii (f + p), ii (f + m)]) rfl rfl (fun u hu => buildA_op u (by kernel_rfl)) ?_ hw4; intro K hK; go_big_quiet_op; go_big_quiet_on)
  clear hone hw4
  refine wpG_nil ?_
  refine anyH_twoFreshG (i := 8) (j := 9) (fun _ _ _ hM hh => env_perm _ _ _ hM hh) (by kernel_rfl) (by kernel_rfl) (by kernel_rfl) rfl rfl (by decide) (by kernel_rfl) rfl rfl (fun x N => ∃ g, x = .pointer (some ⟨g, 0, none⟩) ∧ N = [(g, Obj.cells (#[ii 0, ii 0]) 58 (0, 0))]) (fun x N => ∃ g, x = .pointer (some ⟨g, 0, none⟩) ∧ N = [(g, Obj.cells (#[ii 0, ii 0]) 58 (0, 0))]) [] [] (fun _ h => h) (fun _ h => h) (fun u hu => FAt_new (new_mspan _) u) (fun u hu => FAt_new (new_mspan _) u) ?_
  rintro _ _ _ _ ⟨g6, rfl, rfl⟩ ⟨g7, rfl, rfl⟩ hf1 hf2 he5 K1 hK1; go_big_quiet_op; go_big_quiet_on; intro K' hK'; go_big_quiet_op; go_big_quiet_on
  have HG6 := Lib.hid (hf1 _ (List.mem_singleton.2 rfl))
  have HG7 := Lib.hid (hf2 _ (List.mem_singleton.2 rfl))
  clear hf1 hf2
  change anyH _ _ _ _ _ _ _ _ [(g7, Obj.cells (#[ii 0, ii 0]) 58 (0, 0)), (g6, Obj.cells (#[ii 0, ii 0]) 58 (0, 0))]
  refine anyH_one (i := 10) (by kernel_rfl) (hOp_store rfl (g6) (#[ii f, ii (f + p)]) rfl rfl HG6.out.1 58 ((#[ii 0, ii 0])) (List.Mem.tail _ (List.Mem.head _)) info_mspan rfl (by kernel_rfl) [(g6, Obj.cells (#[ii f, ii (f + p)]) 58 (0, 0)), (g7, Obj.cells (#[ii 0, ii 0]) 58 (0, 0))] (List.forall_mem_cons.2 ⟨.inl rfl, List.forall_mem_cons.2 ⟨.inr ⟨List.Mem.head _, fun e => HG7.out.2 _ (List.Mem.head _) e.symm⟩, (fun _ h => by cases h)⟩⟩) ?_)
  intro he6
  refine anyH_one (i := 11) (by kernel_rfl) (hOp_store rfl (g7) (#[ii (f + p), ii (f + m)]) rfl rfl HG7.out.1 58 ((#[ii 0, ii 0])) (List.Mem.tail _ (List.Mem.head _)) info_mspan rfl (by kernel_rfl) [(g7, Obj.cells (#[ii (f + p), ii (f + m)]) 58 (0, 0)), (g6, Obj.cells (#[ii f, ii (f + p)]) 58 (0, 0))] (List.forall_mem_cons.2 ⟨.inl rfl, List.forall_mem_cons.2 ⟨.inr ⟨List.Mem.head _, fun e => HG7.out.2 _ (List.Mem.head _) e⟩, (fun _ h => by cases h)⟩⟩) ?_)
  intro he7
  refine anyH_done (by kernel_rfl) ?_
  intro u9 E2'
  have EX8 := Lib.hid E2'
  clear E2'
  have EC : Hid (EnvX w u9 [(g7, Obj.cells (#[ii (f + p), ii (f + m)]) 58 (0, 0)), (g6, Obj.cells (#[ii f, ii (f + p)]) 58 (0, 0)), (w.heap.size + 1, Obj.cells (#[ii 0, ii 0, ii 0, ii 0]) 60 (0, 0)), (w.heap.size, Obj.cells (#[ii f, ii (f + m)]) 58 (0, 0))]) := EnvX.comb EX2.out EX8.out
  clear EX2 EX8
  go_upto_region 4 with (fail)
  refine wp_region_Hx (w0 := w) [0, 1, 2, 3] [(g7, Obj.cells (#[ii (f + p), ii (f + m)]) 58 (0, 0)), (g6, Obj.cells (#[ii f, ii (f + p)]) 58 (0, 0)), (w.heap.size + 1, Obj.cells (#[ii 0, ii 0, ii 0, ii 0]) 60 (0, 0)), (w.heap.size, Obj.cells (#[ii f, ii (f + m)]) 58 (0, 0))] rfl EC.out ?_
  refine lexH_phase [0, 1, 2] [3] ?_
  have hw10 : EnvX w _ [(g7, Obj.cells (#[ii (f + p), ii (f + m)]) 58 (0, 0)), (g6, Obj.cells (#[ii f, ii (f + p)]) 58 (0, 0)), (w.heap.size + 1, Obj.cells (#[ii 0, ii 0, ii 0, ii 0]) 60 (0, 0)), (w.heap.size, Obj.cells (#[ii f, ii (f + m)]) 58 (0, 0))] := EC.out
  have hone := @EnvC.one _ _ _ hw10
  (refine wpG_val (v := .agg #[ii f, ii (f + p)]) rfl rfl (fun u hu => load_any_op u (box_agg aggMSpan (k := 0) hu (List.Mem.tail _ (List.Mem.head _)) [ii f, ii (f + p)] rfl rfl) rfl) ?_ hw10; intro K hK; go_big_quiet_op; go_big_quiet_on)
  (refine wpG_val (v := .agg #[ii (f + p), ii (f + m)]) rfl rfl (fun u hu => load_any_op u (box_agg aggMSpan (k := 0) hu (List.Mem.head _) [ii (f + p), ii (f + m)] rfl rfl) rfl) ?_ hw10; intro K hK; go_big_quiet_op; go_big_quiet_on)
  (refine wpG_val (v := .agg #[ii f, ii (f + p), ii (f + p), ii (f + m)]) rfl rfl (fun u hu => buildA_op u (by kernel_rfl)) ?_ hw10; intro K hK; go_big_quiet_op; go_big_quiet_on)
  clear hone hw10
  refine wpG_nil ?_
  refine (hOp_store rfl (w.heap.size + 1) (#[ii f, ii (f + p), ii (f + p), ii (f + m)]) rfl rfl (Nat.le_succ _) 60 ((#[ii 0, ii 0, ii 0, ii 0])) (List.Mem.tail _ (List.Mem.tail _ (List.Mem.head _))) info_msides rfl (by kernel_rfl) [(w.heap.size + 1, Obj.cells (#[ii f, ii (f + p), ii (f + p), ii (f + m)]) 60 (0, 0))] (List.forall_mem_cons.2 ⟨.inl rfl, (fun _ h => by cases h)⟩) ?_)
  intro he11
  intro u13 E2'
  have EX12 := Lib.hid E2'
  clear E2'
  have Q0 := Lib.hid (EnvX.box EX12.out _ _ (List.Mem.head _))
  have HBEL := Lib.hid EX12.out.bel
  clear EX12
  go_wp2_with ((with_reducible refine bodyPost_ret (v := .agg (#[ii f, ii (f + p), ii (f + p), ii (f + m)])) ?_ ?_ ?_); (exact results_cell_row (p := 4) (ty := 60) Tryd.results54 _ _ (w.heap.size + 1) 60 (#[ii f, ii (f + p), ii (f + p), ii (f + m)]) (0, 0) _ rfl Q0.out Tryd.underlying60 rfl info_msides); (rfl))
  first | exact HBEL.out | exact ⟨rfl, HBEL.out⟩
set_option maxRecDepth 20000 in
set_option maxHeartbeats 4000000 in
theorem mcut_high (f m i p : Nat) (w : World) (h2 : 2 ≤ m) (hp : halfT m = p) (hn : f + m ≤ 1000000) (hi : i ≤ 1000000) (hlt : ¬ i < f + p) :
    Calls Tryd.prog 54 #[.agg #[ii f, ii (f + m)], .int .i64 (i : Int)] w fun e w' => e = .returned (.agg #[ii (f + p), ii (f + m), ii f, ii (f + p)]) ∧ Below w.heap.size w w' := by
  have HSZ : Hid (∀ u, Calls Tryd.prog 53 #[.agg #[ii f, ii (f + m)]] u fun e w' => e = .returned (ii m) ∧ Below u.heap.size u w') := fun u => msize_any f m u hn
  have HMD : Hid (∀ u, Calls Tryd.prog 56 #[ii m] u fun e w' => e = .returned (ii p) ∧ Below u.heap.size u w') := fun u => by rw [← hp]; exact mmid_any m u h2 (by omega)
  have hpm : p < m := by rw [← hp]; exact (half_spec h2).2.1
  have q2 : Hid ((f : Int) + (p : Int) = ((f + p : Nat) : Int) ∧ InI ((f + p : Nat) : Int)) := ⟨by omega, by unfold InI; omega⟩
  have hlt' : ¬ (i : Int) < ((f + p : Nat) : Int) := by omega
  clear hn hi h2 hp hpm hlt
  have E1 : Hid (EnvX w ((w.alloc (.cells (#[ii f, ii (f + m)]) 58)).alloc (.cells (#[ii 0, ii 0, ii 0, ii 0]) 60)) [(w.heap.size + 1, Obj.cells (#[ii 0, ii 0, ii 0, ii 0]) 60 (0, 0)), (w.heap.size, Obj.cells (#[ii f, ii (f + m)]) 58 (0, 0))]) := (EnvX.start w).two _ _
  go_enter Tryd.func54, Tryd.ntmps54
  go_upto_region 1 with (fail)
  change Code.wp _ _ _ _ ((w.alloc (.cells (#[ii f, ii (f + m)]) 58)).alloc (.cells (#[ii 0, ii 0, ii 0, ii 0]) 60))
  generalize (w.alloc (.cells (#[ii f, ii (f + m)]) 58)).alloc (.cells (#[ii 0, ii 0, ii 0, ii 0]) 60) = W at *
  refine wp_region_H (w0 := w) [(w.heap.size + 1, Obj.cells (#[ii 0, ii 0, ii 0, ii 0]) 60 (0, 0)), (w.heap.size, Obj.cells (#[ii f, ii (f + m)]) 58 (0, 0))] (by kernel_rfl) E1.out ?_
  refine anyH_phase [0, 1, 2, 3, 4, 5, 6] 0 rfl ⟨_, (EnvX.drew E1.out)⟩ (by kernel_rfl) ?_
  have hw1 : EnvX w _ [(w.heap.size + 1, Obj.cells (#[ii 0, ii 0, ii 0, ii 0]) 60 (0, 0)), (w.heap.size, Obj.cells (#[ii f, ii (f + m)]) 58 (0, 0))] := (EnvX.drew E1.out)
  have hone := @EnvC.one _ _ _ hw1
  (refine wpG_op rfl rfl rfl ?_; intro K hK; go_big_quiet_op; go_big_quiet_on)
  (refine wpG_val (v := ii f) rfl rfl (fun u hu => load_any_op u (run_load_one oneInt u (box_cell (k := 0) hu (List.Mem.tail _ (List.Mem.head _)) rfl)) rfl) ?_ hw1; intro K hK; go_big_quiet_op; go_big_quiet_on)
  (refine wpG_val (v := .agg #[ii f, ii (f + m)]) rfl rfl (fun u hu => load_any_op u (box_agg aggMSpan (k := 0) hu (List.Mem.tail _ (List.Mem.head _)) [ii f, ii (f + m)] rfl rfl) rfl) ?_ hw1; intro K hK; go_big_quiet_op; go_big_quiet_on)
  (refine wpG_call (f := 53) (args := #[.agg #[ii f, ii (f + m)]]) (v := ii m) rfl rfl rfl Tryd.func53 rfl rfl (fun u hu => HSZ.out u) ?_ hw1; intro K hK; go_big_quiet_op; go_big_quiet_on)
  (refine wpG_call (f := 56) (args := #[ii m]) (v := ii p) rfl rfl rfl Tryd.func56 rfl rfl (fun u hu => HMD.out u) ?_ hw1; intro K hK; go_big_quiet_op; go_big_quiet_on)
  (refine wpG_val (v := .int .i64 ((f + p : Nat) : Int)) rfl rfl (fun u hu => add_op u q2.out.1 q2.out.2 rfl rfl) ?_ hw1; intro K hK; go_big_quiet_op; go_big_quiet_on)
  (refine wpG_op rfl rfl rfl ?_; intro K hK; go_big_quiet_op; go_big_quiet_on)
  clear hone hw1
  refine wpG_nil ?_
  refine anyH_done (by kernel_rfl) ?_
  intro u3 E2'
  have EX2 := Lib.hid E2'
  clear E2'
  have HL0 : Hid (∀ u, EnvX u3 u [] → (loadVar 3 ⟨w.heap.size, 0, none⟩).run Tryd.prog u = .ok (ii f) u) := fun u hu => run_load_one oneInt u (box_cell (k := 0) (EnvX.comb EX2.out hu) (List.Mem.tail _ (List.Mem.head _)) rfl)
  have HL1 : Hid (∀ u, EnvX u3 u [] → (loadVar 3 ⟨w.heap.size, 1, none⟩).run Tryd.prog u = .ok (ii (f + m)) u) := fun u hu => run_load_one oneInt u (box_cell (k := 1) (EnvX.comb EX2.out hu) (List.Mem.tail _ (List.Mem.head _)) rfl)
  have EU : Hid (EnvX u3 u3 []) := EnvX.start _
  generalize u3 = U at *
  go_upto_region 2 with (fail)
  refine wp_region_H (w0 := U) [] (by kernel_rfl) EU.out ?_
  refine anyH_phaseN [0, 1, 2, 3, 4, 5, 6, 7] 4 rfl (by kernel_rfl) ?_
  have hw4 : EnvX U _ [] := EnvX.sub (EnvX.drew EU.out) (fun _ h => by cases h)
  have hone := @EnvC.one _ _ _ hw4
  (refine wpG_op rfl rfl rfl ?_; intro K hK; go_big_quiet_op; go_big_quiet_on)
  (refine wpG_val (v := ii f) rfl rfl (fun u hu => load_any_op u (HL0.out u hu) rfl) ?_ hw4; intro K hK; go_big_quiet_op; go_big_quiet_on)
  (refine wpG_op rfl rfl rfl ?_; intro K hK; go_big_quiet_op; go_big_quiet_on)
  (refine wpG_val (v := .agg #[ii f, ii (f + p)]) rfl rfl (fun u hu => buildA_op u (by kernel_rfl)) ?_ hw4; intro K hK; go_big_quiet_op; go_big_quiet_on)
  (refine wpG_op rfl rfl rfl ?_; intro K hK; go_big_quiet_op; go_big_quiet_on)
  (refine wpG_op rfl rfl rfl ?_; intro K hK; go_big_quiet_op; go_big_quiet_on)
  (refine wpG_val (v := ii (f + m)) rfl rfl (fun u hu => load_any_op u (HL1.out u hu) rfl) ?_ hw4; intro K hK; go_big_quiet_op; go_big_quiet_on)
  (refine wpG_val (v := .agg #[ii (f + p), ii (f + m)]) rfl rfl (fun u hu => buildA_op u (by kernel_rfl)) ?_ hw4; intro K hK; go_big_quiet_op; go_big_quiet_on)
  clear hone hw4
  refine wpG_nil ?_
  refine anyH_twoFreshG (i := 8) (j := 9) (fun _ _ _ hM hh => env_perm _ _ _ hM hh) (by kernel_rfl) (by kernel_rfl) (by kernel_rfl) rfl rfl (by decide) (by kernel_rfl) rfl rfl (fun x N => ∃ g, x = .pointer (some ⟨g, 0, none⟩) ∧ N = [(g, Obj.cells (#[ii 0, ii 0]) 58 (0, 0))]) (fun x N => ∃ g, x = .pointer (some ⟨g, 0, none⟩) ∧ N = [(g, Obj.cells (#[ii 0, ii 0]) 58 (0, 0))]) [] [] (fun _ h => h) (fun _ h => h) (fun u hu => FAt_new (new_mspan _) u) (fun u hu => FAt_new (new_mspan _) u) ?_
  rintro _ _ _ _ ⟨g6, rfl, rfl⟩ ⟨g7, rfl, rfl⟩ hf1 hf2 he5 K1 hK1; go_big_quiet_op; go_big_quiet_on; intro K' hK'; go_big_quiet_op; go_big_quiet_on
  have HG6 := Lib.hid (hf1 _ (List.mem_singleton.2 rfl))
  have HG7 := Lib.hid (hf2 _ (List.mem_singleton.2 rfl))
  clear hf1 hf2
  change anyH _ _ _ _ _ _ _ _ [(g7, Obj.cells (#[ii 0, ii 0]) 58 (0, 0)), (g6, Obj.cells (#[ii 0, ii 0]) 58 (0, 0))]
  refine anyH_one (i := 10) (by kernel_rfl) (hOp_store rfl (g6) (#[ii f, ii (f + p)]) rfl rfl HG6.out.1 58 ((#[ii 0, ii 0])) (List.Mem.tail _ (List.Mem.head _)) info_mspan rfl (by kernel_rfl) [(g6, Obj.cells (#[ii f, ii (f + p)]) 58 (0, 0)), (g7, Obj.cells (#[ii 0, ii 0]) 58 (0, 0))] (List.forall_mem_cons.2 ⟨.inl rfl, List.forall_mem_cons.2 ⟨.inr ⟨List.Mem.head _, fun e => HG7.out.2 _ (List.Mem.head _) e.symm⟩, (fun _ h => by cases h)⟩⟩) ?_)
  intro he6
  refine anyH_one (i := 11) (by kernel_rfl) (hOp_store rfl (g7) (#[ii (f + p), ii (f + m)]) rfl rfl HG7.out.1 58 ((#[ii 0, ii 0])) (List.Mem.tail _ (List.Mem.head _)) info_mspan rfl (by kernel_rfl) [(g7, Obj.cells (#[ii (f + p), ii (f + m)]) 58 (0, 0)), (g6, Obj.cells (#[ii f, ii (f + p)]) 58 (0, 0))] (List.forall_mem_cons.2 ⟨.inl rfl, List.forall_mem_cons.2 ⟨.inr ⟨List.Mem.head _, fun e => HG7.out.2 _ (List.Mem.head _) e⟩, (fun _ h => by cases h)⟩⟩) ?_)
  intro he7
  refine anyH_done (by kernel_rfl) ?_
  intro u9 E2'
  have EX8 := Lib.hid E2'
  clear E2'
  have EC : Hid (EnvX w u9 [(g7, Obj.cells (#[ii (f + p), ii (f + m)]) 58 (0, 0)), (g6, Obj.cells (#[ii f, ii (f + p)]) 58 (0, 0)), (w.heap.size + 1, Obj.cells (#[ii 0, ii 0, ii 0, ii 0]) 60 (0, 0)), (w.heap.size, Obj.cells (#[ii f, ii (f + m)]) 58 (0, 0))]) := EnvX.comb EX2.out EX8.out
  clear EX2 EX8
  go_upto_region 5 with (fail)
  refine wp_region_Hx (w0 := w) [0, 1, 2, 3] [(g7, Obj.cells (#[ii (f + p), ii (f + m)]) 58 (0, 0)), (g6, Obj.cells (#[ii f, ii (f + p)]) 58 (0, 0)), (w.heap.size + 1, Obj.cells (#[ii 0, ii 0, ii 0, ii 0]) 60 (0, 0)), (w.heap.size, Obj.cells (#[ii f, ii (f + m)]) 58 (0, 0))] rfl EC.out ?_
  refine lexH_phase [0, 1, 2] [3] ?_
  have hw10 : EnvX w _ [(g7, Obj.cells (#[ii (f + p), ii (f + m)]) 58 (0, 0)), (g6, Obj.cells (#[ii f, ii (f + p)]) 58 (0, 0)), (w.heap.size + 1, Obj.cells (#[ii 0, ii 0, ii 0, ii 0]) 60 (0, 0)), (w.heap.size, Obj.cells (#[ii f, ii (f + m)]) 58 (0, 0))] := EC.out
  have hone := @EnvC.one _ _ _ hw10
  (refine wpG_val (v := .agg #[ii (f + p), ii (f + m)]) rfl rfl (fun u hu => load_any_op u (box_agg aggMSpan (k := 0) hu (List.Mem.head _) [ii (f + p), ii (f + m)] rfl rfl) rfl) ?_ hw10; intro K hK; go_big_quiet_op; go_big_quiet_on)
  (refine wpG_val (v := .agg #[ii f, ii (f + p)]) rfl rfl (fun u hu => load_any_op u (box_agg aggMSpan (k := 0) hu (List.Mem.tail _ (List.Mem.head _)) [ii f, ii (f + p)] rfl rfl) rfl) ?_ hw10; intro K hK; go_big_quiet_op; go_big_quiet_on)
  (refine wpG_val (v := .agg #[ii (f + p), ii (f + m), ii f, ii (f + p)]) rfl rfl (fun u hu => buildA_op u (by kernel_rfl)) ?_ hw10; intro K hK; go_big_quiet_op; go_big_quiet_on)
  clear hone hw10
  refine wpG_nil ?_
  refine (hOp_store rfl (w.heap.size + 1) (#[ii (f + p), ii (f + m), ii f, ii (f + p)]) rfl rfl (Nat.le_succ _) 60 ((#[ii 0, ii 0, ii 0, ii 0])) (List.Mem.tail _ (List.Mem.tail _ (List.Mem.head _))) info_msides rfl (by kernel_rfl) [(w.heap.size + 1, Obj.cells (#[ii (f + p), ii (f + m), ii f, ii (f + p)]) 60 (0, 0))] (List.forall_mem_cons.2 ⟨.inl rfl, (fun _ h => by cases h)⟩) ?_)
  intro he11
  intro u13 E2'
  have EX12 := Lib.hid E2'
  clear E2'
  have Q0 := Lib.hid (EnvX.box EX12.out _ _ (List.Mem.head _))
  have HBEL := Lib.hid EX12.out.bel
  clear EX12
  go_wp2_with ((with_reducible refine bodyPost_ret (v := .agg (#[ii (f + p), ii (f + m), ii f, ii (f + p)])) ?_ ?_ ?_); (exact results_cell_row (p := 4) (ty := 60) Tryd.results54 _ _ (w.heap.size + 1) 60 (#[ii (f + p), ii (f + m), ii f, ii (f + p)]) (0, 0) _ rfl Q0.out Tryd.underlying60 rfl info_msides); (rfl))
  first | exact HBEL.out | exact ⟨rfl, HBEL.out⟩
end Go.Proofs.YtbmiecogjmbciaaDoor
