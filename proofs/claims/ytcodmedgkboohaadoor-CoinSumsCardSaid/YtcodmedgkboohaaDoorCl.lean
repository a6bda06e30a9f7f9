/- Part of a proof. -/
import Derived.Test.YtcodmedgkboohaaDoorCk
import Derived.Lib.Strings
import Derived.Lib.Slices
import Derived.Lib.Small
import Derived.Lib.Walk
import Derived.Lib.BitFns
namespace Go.Proofs.YtcodmedgkboohaaDoor
set_option maxRecDepth 8000
open Go.RowKit

set_option maxRecDepth 20000 in
set_option maxHeartbeats 8000000 in
theorem sameP_any (s t : TxM) (w : World) (hs : TxOk w s) (ht : TxOk w t) :
    Calls Tryd.prog 19 #[txV s, txV t] w fun e w' => e = .returned (.bool (sameX s.r t.r)) ∧ Below w.heap.size w w' := by
  obtain ⟨b1, hb1⟩ : ∃ b1, decide (s.r.ins = t.r.ins) = b1 := ⟨_, rfl⟩
  obtain ⟨b2, hb2⟩ : ∃ b2, decide (s.r.outs = t.r.outs) = b2 := ⟨_, rfl⟩
  have HE1 : Hid (∀ u, Below w.heap.size w u → Calls Tryd.prog 37 #[.slice s.A1 s.n1 s.c1, .slice t.A1 t.n1 t.c1] u fun e w' => e = .returned (.bool b1) ∧ Below u.heap.size u w') := fun u hu => by
    have h := eqIns_any s.r.ins t.r.ins s.A1 t.A1 s.n1 s.c1 t.n1 t.c1 u hs.l1 ht.l1 hs.b1.1 hs.b1.2 ht.b1.1 ht.b1.2 hs.o1 ht.o1 (hs.m1.up hu) (ht.m1.up hu)
    rwa [hb1] at h
  have HE2 : Hid (∀ u, Below w.heap.size w u → Calls Tryd.prog 38 #[.slice s.A2 s.n2 s.c2, .slice t.A2 t.n2 t.c2] u fun e w' => e = .returned (.bool b2) ∧ Below u.heap.size u w') := fun u hu => by
    have h := eqOuts_any s.r.outs t.r.outs s.A2 t.A2 s.n2 s.c2 t.n2 t.c2 u hs.l2 ht.l2 hs.b2.1 hs.b2.2 ht.b2.1 ht.b2.2 hs.o2 ht.o2 (hs.m2.up hu) (ht.m2.up hu)
    rwa [hb2] at h
  have HS : Hid (sameX s.r t.r = (b1 && b2)) := by
    show _ = _
    rw [← hb1, ← hb2]
    unfold sameX
    obtain ⟨⟨x1, x2⟩, _, _, _, _, _, _⟩ := s
    obtain ⟨⟨y1, y2⟩, _, _, _, _, _, _⟩ := t
    simp only [TxR.mk.injEq, Bool.decide_and]
  have E1 : Hid (EnvX w ((w.alloc (.cells (txA s) 25)).alloc (.cells (txA t) 25)) [(w.heap.size + 1, Obj.cells (txA t) 25 (0, 0)), (w.heap.size, Obj.cells (txA s) 25 (0, 0))]) := (EnvX.start w).two _ _
  clear hs ht hb1 hb2
  cases b1 with
  | false =>
    have HF : Hid (sameX s.r t.r = false) := HS.out
    clear HS HE2
    unfold txV
    go_enter Tryd.func19, Tryd.ntmps19
    go_upto_region 1 with (fail)
    generalize (w.alloc (.cells (txA s) 25)).alloc (.cells (txA t) 25) = W at *
    refine wp_region_Hx (w0 := w) [0, 1, 2, 3, 4, 5, 6, 7, 8, 9, 10, 11, 12] [(w.heap.size + 1, Obj.cells (txA t) 25 (0, 0)), (w.heap.size, Obj.cells (txA s) 25 (0, 0))] rfl E1.out ?_
    refine lexH_phase [0, 1, 2, 3, 4, 5, 6, 7, 8, 9, 10, 11, 12] [] ?_
    have hw1 : EnvX w _ [(w.heap.size + 1, Obj.cells (txA t) 25 (0, 0)), (w.heap.size, Obj.cells (txA s) 25 (0, 0))] := E1.out
    have hone := @EnvC.one _ _ _ hw1
    (refine wpG_val (v := .pointer (some ⟨w.heap.size, 0, none⟩)) rfl rfl (fun u hu => fieldTx_op (k := 0) (off := 0) (ad := ⟨w.heap.size, 0, none⟩) rfl u rfl) ?_ hw1; intro K hK; go_big_quiet_op; go_big_quiet_on)
    (refine wpG_val (v := .slice s.A1 s.n1 s.c1) rfl rfl (fun u hu => load_any_op u (box_tx_ins hu (List.Mem.tail _ (List.Mem.head _))) rfl) ?_ hw1; intro K hK; go_big_quiet_op; go_big_quiet_on)
    (refine wpG_val (v := .pointer (some ⟨w.heap.size + 1, 0, none⟩)) rfl rfl (fun u hu => fieldTx_op (k := 0) (off := 0) (ad := ⟨w.heap.size + 1, 0, none⟩) rfl u rfl) ?_ hw1; intro K hK; go_big_quiet_op; go_big_quiet_on)
    (refine wpG_val (v := .slice t.A1 t.n1 t.c1) rfl rfl (fun u hu => load_any_op u (box_tx_ins hu (List.Mem.head _)) rfl) ?_ hw1; intro K hK; go_big_quiet_op; go_big_quiet_on)
    (refine wpG_call (f := 37) (args := #[.slice s.A1 s.n1 s.c1, .slice t.A1 t.n1 t.c1]) (v := .bool false) rfl rfl rfl Tryd.func37 rfl rfl (fun u hu => HE1.out u (EnvX.bel hu)) ?_ hw1; intro K hK; go_big_quiet_op; go_big_quiet_on)
    (refine wpG_op rfl rfl rfl ?_; intro K hK; go_big_quiet_op; go_big_quiet_on)
    (refine wpG_skip rfl rfl ?_ hw1; intro K hK; go_big_quiet_op; go_big_quiet_on)
    (refine wpG_skip rfl rfl ?_ hw1; intro K hK; go_big_quiet_op; go_big_quiet_on)
    (refine wpG_skip rfl rfl ?_ hw1; intro K hK; go_big_quiet_op; go_big_quiet_on)
    (refine wpG_skip rfl rfl ?_ hw1; intro K hK; go_big_quiet_op; go_big_quiet_on)
    (refine wpG_skip rfl rfl ?_ hw1; intro K hK; go_big_quiet_op; go_big_quiet_on)
    (refine wpG_op rfl rfl rfl ?_; intro K hK; go_big_quiet_op; go_big_quiet_on)
    (refine wpG_op rfl rfl rfl ?_; intro K hK; go_big_quiet_op; go_big_quiet_on)
    clear hone hw1
    refine wpG_nil ?_
    intro u3 E2'
    have EX2 := Lib.hid E2'
    clear E2'
    have HBE := Lib.hid (EnvX.bel EX2.out)
    go_wp2
    go_ret
    exact ⟨by rw [HF.out]; first | done | rfl, HBE.out⟩
  | true =>
    cases b2 with
    | false =>
      have HF : Hid (sameX s.r t.r = false) := HS.out
      clear HS
      unfold txV
      go_enter Tryd.func19, Tryd.ntmps19
      go_upto_region 1 with (fail)
      generalize (w.alloc (.cells (txA s) 25)).alloc (.cells (txA t) 25) = W at *
      refine wp_region_Hx (w0 := w) [0, 1, 2, 3, 4, 5, 6, 7, 8, 9, 10, 11, 12] [(w.heap.size + 1, Obj.cells (txA t) 25 (0, 0)), (w.heap.size, Obj.cells (txA s) 25 (0, 0))] rfl E1.out ?_
      refine lexH_phase [0, 1, 2, 3, 4, 5, 6, 7, 8, 9, 10, 11, 12] [] ?_
      have hw1 : EnvX w _ [(w.heap.size + 1, Obj.cells (txA t) 25 (0, 0)), (w.heap.size, Obj.cells (txA s) 25 (0, 0))] := E1.out
      have hone := @EnvC.one _ _ _ hw1
      (refine wpG_val (v := .pointer (some ⟨w.heap.size, 0, none⟩)) rfl rfl (fun u hu => fieldTx_op (k := 0) (off := 0) (ad := ⟨w.heap.size, 0, none⟩) rfl u rfl) ?_ hw1; intro K hK; go_big_quiet_op; go_big_quiet_on)
      (refine wpG_val (v := .slice s.A1 s.n1 s.c1) rfl rfl (fun u hu => load_any_op u (box_tx_ins hu (List.Mem.tail _ (List.Mem.head _))) rfl) ?_ hw1; intro K hK; go_big_quiet_op; go_big_quiet_on)
      (refine wpG_val (v := .pointer (some ⟨w.heap.size + 1, 0, none⟩)) rfl rfl (fun u hu => fieldTx_op (k := 0) (off := 0) (ad := ⟨w.heap.size + 1, 0, none⟩) rfl u rfl) ?_ hw1; intro K hK; go_big_quiet_op; go_big_quiet_on)
      (refine wpG_val (v := .slice t.A1 t.n1 t.c1) rfl rfl (fun u hu => load_any_op u (box_tx_ins hu (List.Mem.head _)) rfl) ?_ hw1; intro K hK; go_big_quiet_op; go_big_quiet_on)
      (refine wpG_call (f := 37) (args := #[.slice s.A1 s.n1 s.c1, .slice t.A1 t.n1 t.c1]) (v := .bool true) rfl rfl rfl Tryd.func37 rfl rfl (fun u hu => HE1.out u (EnvX.bel hu)) ?_ hw1; intro K hK; go_big_quiet_op; go_big_quiet_on)
      (refine wpG_op rfl rfl rfl ?_; intro K hK; go_big_quiet_op; go_big_quiet_on)
      (refine wpG_val (v := .pointer (some ⟨w.heap.size, 1, none⟩)) rfl rfl (fun u hu => fieldTx_op (k := 1) (off := 1) (ad := ⟨w.heap.size, 0, none⟩) rfl u rfl) ?_ hw1; intro K hK; go_big_quiet_op; go_big_quiet_on)
      (refine wpG_val (v := .slice s.A2 s.n2 s.c2) rfl rfl (fun u hu => load_any_op u (box_tx_outs hu (List.Mem.tail _ (List.Mem.head _))) rfl) ?_ hw1; intro K hK; go_big_quiet_op; go_big_quiet_on)
      (refine wpG_val (v := .pointer (some ⟨w.heap.size + 1, 1, none⟩)) rfl rfl (fun u hu => fieldTx_op (k := 1) (off := 1) (ad := ⟨w.heap.size + 1, 0, none⟩) rfl u rfl) ?_ hw1; intro K hK; go_big_quiet_op; go_big_quiet_on)
      (refine wpG_val (v := .slice t.A2 t.n2 t.c2) rfl rfl (fun u hu => load_any_op u (box_tx_outs hu (List.Mem.head _)) rfl) ?_ hw1; intro K hK; go_big_quiet_op; go_big_quiet_on)
      (refine wpG_call (f := 38) (args := #[.slice s.A2 s.n2 s.c2, .slice t.A2 t.n2 t.c2]) (v := .bool false) rfl rfl rfl Tryd.func38 rfl rfl (fun u hu => HE2.out u (EnvX.bel hu)) ?_ hw1; intro K hK; go_big_quiet_op; go_big_quiet_on)
      (refine wpG_op rfl rfl rfl ?_; intro K hK; go_big_quiet_op; go_big_quiet_on)
      (refine wpG_op rfl rfl rfl ?_; intro K hK; go_big_quiet_op; go_big_quiet_on)
      clear hone hw1
      refine wpG_nil ?_
      intro u3 E2'
      have EX2 := Lib.hid E2'
      clear E2'
      have HBE := Lib.hid (EnvX.bel EX2.out)
      go_wp2
      go_ret
      exact ⟨by rw [HF.out]; first | done | rfl, HBE.out⟩
    | true =>
      have HF : Hid (sameX s.r t.r = true) := HS.out
      clear HS
      unfold txV
      go_enter Tryd.func19, Tryd.ntmps19
      go_upto_region 1 with (fail)
      generalize (w.alloc (.cells (txA s) 25)).alloc (.cells (txA t) 25) = W at *
      refine wp_region_Hx (w0 := w) [0, 1, 2, 3, 4, 5, 6, 7, 8, 9, 10, 11, 12] [(w.heap.size + 1, Obj.cells (txA t) 25 (0, 0)), (w.heap.size, Obj.cells (txA s) 25 (0, 0))] rfl E1.out ?_
      refine lexH_phase [0, 1, 2, 3, 4, 5, 6, 7, 8, 9, 10, 11, 12] [] ?_
      have hw1 : EnvX w _ [(w.heap.size + 1, Obj.cells (txA t) 25 (0, 0)), (w.heap.size, Obj.cells (txA s) 25 (0, 0))] := E1.out
      have hone := @EnvC.one _ _ _ hw1
      (refine wpG_val (v := .pointer (some ⟨w.heap.size, 0, none⟩)) rfl rfl (fun u hu => fieldTx_op (k := 0) (off := 0) (ad := ⟨w.heap.size, 0, none⟩) rfl u rfl) ?_ hw1; intro K hK; go_big_quiet_op; go_big_quiet_on)
      (refine wpG_val (v := .slice s.A1 s.n1 s.c1) rfl rfl (fun u hu => load_any_op u (box_tx_ins hu (List.Mem.tail _ (List.Mem.head _))) rfl) ?_ hw1; intro K hK; go_big_quiet_op; go_big_quiet_on)
      (refine wpG_val (v := .pointer (some ⟨w.heap.size + 1, 0, none⟩)) rfl rfl (fun u hu => fieldTx_op (k := 0) (off := 0) (ad := ⟨w.heap.size + 1, 0, none⟩) rfl u rfl) ?_ hw1; intro K hK; go_big_quiet_op; go_big_quiet_on)
      (refine wpG_val (v := .slice t.A1 t.n1 t.c1) rfl rfl (fun u hu => load_any_op u (box_tx_ins hu (List.Mem.head _)) rfl) ?_ hw1; intro K hK; go_big_quiet_op; go_big_quiet_on)
      (refine wpG_call (f := 37) (args := #[.slice s.A1 s.n1 s.c1, .slice t.A1 t.n1 t.c1]) (v := .bool true) rfl rfl rfl Tryd.func37 rfl rfl (fun u hu => HE1.out u (EnvX.bel hu)) ?_ hw1; intro K hK; go_big_quiet_op; go_big_quiet_on)
      (refine wpG_op rfl rfl rfl ?_; intro K hK; go_big_quiet_op; go_big_quiet_on)
      (refine wpG_val (v := .pointer (some ⟨w.heap.size, 1, none⟩)) rfl rfl (fun u hu => fieldTx_op (k := 1) (off := 1) (ad := ⟨w.heap.size, 0, none⟩) rfl u rfl) ?_ hw1; intro K hK; go_big_quiet_op; go_big_quiet_on)
      (refine wpG_val (v := .slice s.A2 s.n2 s.c2) rfl rfl (fun u hu => load_any_op u (box_tx_outs hu (List.Mem.tail _ (List.Mem.head _))) rfl) ?_ hw1; intro K hK; go_big_quiet_op; go_big_quiet_on)
      (refine wpG_val (v := .pointer (some ⟨w.heap.size + 1, 1, none⟩)) rfl rfl (fun u hu => fieldTx_op (k := 1) (off := 1) (ad := ⟨w.heap.size + 1, 0, none⟩) rfl u rfl) ?_ hw1; intro K hK; go_big_quiet_op; go_big_quiet_on)
      (refine wpG_val (v := .slice t.A2 t.n2 t.c2) rfl rfl (fun u hu => load_any_op u (box_tx_outs hu (List.Mem.head _)) rfl) ?_ hw1; intro K hK; go_big_quiet_op; go_big_quiet_on)
      (refine wpG_call (f := 38) (args := #[.slice s.A2 s.n2 s.c2, .slice t.A2 t.n2 t.c2]) (v := .bool true) rfl rfl rfl Tryd.func38 rfl rfl (fun u hu => HE2.out u (EnvX.bel hu)) ?_ hw1; intro K hK; go_big_quiet_op; go_big_quiet_on)
      (refine wpG_op rfl rfl rfl ?_; intro K hK; go_big_quiet_op; go_big_quiet_on)
      (refine wpG_op rfl rfl rfl ?_; intro K hK; go_big_quiet_op; go_big_quiet_on)
      clear hone hw1
      refine wpG_nil ?_
      intro u3 E2'
      have EX2 := Lib.hid E2'
      clear E2'
      have HBE := Lib.hid (EnvX.bel EX2.out)
      go_wp2
      go_ret
      exact ⟨by rw [HF.out]; first | done | rfl, HBE.out⟩
end Go.Proofs.YtcodmedgkboohaaDoor

namespace Go.Proofs.YtcodmedgkboohaaDoor
set_option maxRecDepth 8000
open Go.RowKit

set_option maxHeartbeats 4000000 in
set_option maxRecDepth 100000 in
theorem blen64_any (x : Int) (w : World) (h0 : 0 ≤ x) (h1 : x < 16777216) :
    Calls Tryd.prog 83 #[.int .u64 x] w fun e w' => e = .returned (.int .i64 (Lib.bitLen x.toNat)) ∧ w' = w := by
  have n1 : ¬ 4294967296 ≤ x := by omega
  have hw : x ≤ 18446744073709551615 := by omega
  by_cases hA : x < 256
  · have n2 : ¬ 65536 ≤ x := by omega
    have n3 : ¬ 256 ≤ x := by omega
    have hA2 : x ≤ 255 := by omega
    have l := Lib.bitLen_le8' x (by omega) (by omega)
    have HE := Lib.hid (Lib.len8_of x (by omega) (by omega))
    go_enter Tryd.func83, Tryd.ntmps83
    go_wp2
    go_ret
    refine ⟨congrArg Ending.returned (congrArg (Value.int IntKind.i64) ?_), rfl⟩
    rw [HE.out]
    unfold wrap64
    omega
  · by_cases hB : x < 65536
    · have n2 : ¬ 65536 ≤ x := by omega
      have n3 : 256 ≤ x := by omega
      have q0 : 0 ≤ x / 256 := by omega
      have q1 : x / 256 ≤ 255 := by omega
      have HE := Lib.hid (Lib.len8_of (x / 256) q0 q1)
      go_enter Tryd.func83, Tryd.ntmps83
      go_wp2
      go_ret
      refine ⟨congrArg Ending.returned (congrArg (Value.int IntKind.i64) ?_), rfl⟩
      have e : (x / 256).toNat = x.toNat / 256 := by omega
      have l := Lib.bitLen_le8' (x / 256) (by omega) (by omega)
      have s := Lib.bitLen_shift8 x.toNat (by omega) (by omega)
      rw [HE.out]
      rw [e] at l ⊢
      unfold wrap64
      omega
    · have n2 : 65536 ≤ x := by omega
      have q0 : 0 ≤ x / 65536 := by omega
      have q1 : x / 65536 ≤ 255 := by omega
      have HE := Lib.hid (Lib.len8_of (x / 65536) q0 q1)
      have n3 : ¬ 256 ≤ x / 65536 := by omega
      go_enter Tryd.func83, Tryd.ntmps83
      go_wp2
      go_ret
      refine ⟨congrArg Ending.returned (congrArg (Value.int IntKind.i64) ?_), rfl⟩
      have e : (x / 65536).toNat = x.toNat / 65536 := by omega
      have l := Lib.bitLen_le8' (x / 65536) (by omega) (by omega)
      have s := Lib.bitLen_shift16 x.toNat (by omega) (by omega)
      rw [HE.out]
      rw [e] at l ⊢
      unfold wrap64
      omega
set_option maxHeartbeats 1000000 in
theorem blen_any (x : Int) (w : World) (h0 : 0 ≤ x) (h1 : x < 16777216) :
    Calls Tryd.prog 80 #[.int .u64 x] w fun e w' => e = .returned (.int .i64 (Lib.bitLen x.toNat)) ∧ w' = w := by
  have HC := Lib.hid (blen64_any x w h0 h1)
  go_enter Tryd.func80, Tryd.ntmps80
  go_wp2_with (go_at_call 83; refine HC.out.mono ?_; rintro e w' ⟨rfl, rfl⟩)
  go_ret
  exact ⟨rfl, rfl⟩
theorem bitLen_pow : ∀ (x : Nat), 1 ≤ x → x < 2 ^ 64 → ∃ e, Lib.bitLen x = e + 1 ∧ 2 ^ e ≤ x ∧ x < 2 * 2 ^ e := by
  intro x
  induction x using Nat.strongRecOn with
  | _ x ih =>
    intro h1 h2
    by_cases hx : x = 1
    · subst hx
      exact ⟨0, by decide +kernel, by decide, by decide⟩
    · obtain ⟨e, e1, e2, e3⟩ := ih (x / 2) (by omega) (by omega) (by omega)
      refine ⟨e + 1, by rw [Lib.bitLen_half x (by omega) h2, e1]; omega, ?_, ?_⟩
      · rw [Nat.pow_succ]; omega
      · rw [Nat.pow_succ]; omega
theorem half_bit {n : Nat} (h : 2 ≤ n) (hn : n ≤ 1099511627776) : ∃ e, Lib.bitLen (n - 1) = e + 1 ∧ halfT n = 2 ^ e ∧ e < 40 := by
  obtain ⟨e, e1, e2, e3⟩ := bitLen_pow (n - 1) (by omega) (by omega)
  refine ⟨e, e1, half_unique (by omega) (by omega), ?_⟩
  rcases Nat.lt_or_ge e 40 with h | h
  · exact h
  · have := Nat.pow_le_pow_right (n := 2) (by decide) h
    omega
end Go.Proofs.YtcodmedgkboohaaDoor

namespace Go.Proofs.YtcodmedgkboohaaDoor
set_option maxRecDepth 8000
open Go.RowKit

theorem aggSpan : AggT 98 2 := ⟨fun w => by simp [isAgg, run_underlying Tryd.underlying98], by kernel_rfl⟩
theorem aggIds2 : AggT 103 64 := ⟨fun w => by simp [isAgg, run_underlying Tryd.underlying103], by kernel_rfl⟩
theorem aggId : AggT 37 32 := ⟨fun w => by simp [isAgg, run_underlying Tryd.underlying37], by kernel_rfl⟩
def ii (n : Nat) : Value := .int .i64 (n : Int)
def spanC (f n : Nat) : List Value := [ii f, ii (f + n)]
def cutC (f n : Nat) : List Value := [ii f, ii (f + halfT n), ii (f + halfT n), ii (f + n)]
theorem info_span : (Tryd.prog.info? 98).map (·.size) = some 2 := by kernel_rfl
theorem info_spans : (Tryd.prog.info? 99).map (·.size) = some 4 := by kernel_rfl
section
variable {a : Act} {dst : Option Tmp} {x y : Operand} {ty : TypeId} {pos : String} {after : Array Edge} {gd : Option (Nat × Bool)}
theorem conv_uint_op {m : Nat} (u : World) (hm : m < 9223372036854775808) (hx : a.eval x = .int .i64 (m : Int)) :
    (execOp a.eval ⟨dst, .convert 3 92 x, ty, pos, after, gd⟩).run Tryd.prog u = .ok (.value (.int .u64 (m : Int))) u := by
  have hq : IntKind.u64.wrap (m : Int) = (m : Int) := by rw [IntKind.wrap_u64]; omega
  unfold execOp
  simp only [hx]
  go_simp
theorem shl_op {e p : Nat} (u : World) (hp : 2 ^ e = p) (he : e < 62) (hx : a.eval x = .int .i64 1) (hy : a.eval y = .int .i64 (e : Int)) :
    (execOp a.eval ⟨dst, .binOp .shl 3 x y 3, ty, pos, after, gd⟩).run Tryd.prog u = .ok (.value (.int .i64 (p : Int))) u := by
  have h0 : ¬ (e : Int) < 0 := by omega
  have h1 : ¬ (64 : Int) ≤ (e : Int) := by omega
  have hp2 : 2 ^ e < 2 ^ 62 := Nat.pow_lt_pow_right (by decide) he
  have hc : ((2 : Int) ^ e) = (p : Int) := by rw [← hp]; simp
  have hq : IntKind.i64.wrap (p : Int) = (p : Int) := wrap64_in (by rw [hp] at hp2; unfold InI; omega)
  unfold execOp
  simp only [hx, hy]
  go_simp
end
set_option maxRecDepth 20000 in
set_option maxHeartbeats 4000000 in
theorem cut_any (f n : Nat) (w : World) (h2 : 2 ≤ n) (hn : f + n ≤ 1000000) :
    Calls Tryd.prog 73 #[.agg (spanC f n).toArray] w fun e w' => e = .returned (.agg (cutC f n).toArray) ∧ Below w.heap.size w w' := by
  obtain ⟨e, e1, e2, e3⟩ := half_bit h2 (by omega)
  obtain ⟨b1, b2, b3, -⟩ := half_spec h2
  unfold spanC cutC
  rw [e2] at b1 b2 b3 ⊢
  have HLEN : Hid (∀ u, Calls Tryd.prog 80 #[.int .u64 ((n - 1 : Nat) : Int)] u fun en w' => en = .returned (.int .i64 ((e + 1 : Nat) : Int)) ∧ Below u.heap.size u w') := fun u => by
    refine (blen_any ((n - 1 : Nat) : Int) u (by omega) (by omega)).mono ?_
    rintro en w' ⟨rfl, rfl⟩
    exact ⟨by rw [Int.toNat_natCast, e1], Below.refl _ _⟩
  have q1 : Hid ((f + n : Nat) - (f : Int) = (n : Int) ∧ (n : Int) - 1 = ((n - 1 : Nat) : Int) ∧ ((e + 1 : Nat) : Int) - 1 = (e : Int)) := ⟨by omega, by omega, by omega⟩
  have q2 : Hid ((f : Int) + ((2 ^ e : Nat) : Int) = ((f + 2 ^ e : Nat) : Int)) := by show _ = _; omega
  have q3 : Hid (InI (n : Int) ∧ InI ((n - 1 : Nat) : Int) ∧ InI (e : Int) ∧ InI ((f + 2 ^ e : Nat) : Int) ∧ n - 1 < 9223372036854775808 ∧ e < 62) := by show _ ∧ _; unfold InI; omega
  clear e1 e2 e3 b1 b2 b3
  generalize hp : 2 ^ e = p at *
  have HP := Lib.hid hp
  clear hp
  have E1 : Hid (EnvX w ((w.alloc (.cells #[ii f, ii (f + n)] 98)).alloc (.cells #[ii 0, ii 0, ii 0, ii 0] 99)) [(w.heap.size + 1, Obj.cells #[ii 0, ii 0, ii 0, ii 0] 99 (0, 0)), (w.heap.size, Obj.cells #[ii f, ii (f + n)] 98 (0, 0))]) := (EnvX.start w).two _ _
  go_enter Tryd.func73, Tryd.ntmps73
  go_upto_region 1 with (fail)
  change Code.wp _ _ _ _ ((w.alloc (.cells #[ii f, ii (f + n)] 98)).alloc (.cells #[ii 0, ii 0, ii 0, ii 0] 99))
  generalize (w.alloc (.cells #[ii f, ii (f + n)] 98)).alloc (.cells #[ii 0, ii 0, ii 0, ii 0] 99) = W at *
  refine wp_region_H (w0 := w) [(w.heap.size + 1, Obj.cells #[ii 0, ii 0, ii 0, ii 0] 99 (0, 0)), (w.heap.size, Obj.cells #[ii f, ii (f + n)] 98 (0, 0))] (by kernel_rfl) E1.out ?_
  refine anyH_phase [0, 1, 2, 3, 4, 5, 6, 7, 8, 9, 10, 11, 12, 13] 0 rfl ⟨_, (EnvX.drew E1.out)⟩ (by kernel_rfl) ?_
  have hw1 : EnvX w _ [(w.heap.size + 1, Obj.cells #[ii 0, ii 0, ii 0, ii 0] 99 (0, 0)), (w.heap.size, Obj.cells #[ii f, ii (f + n)] 98 (0, 0))] := (EnvX.drew E1.out)
  have hone := @EnvC.one _ _ _ hw1
  (refine wpG_op rfl rfl rfl ?_; intro K hK; go_big_quiet_op; go_big_quiet_on)
  (refine wpG_val (v := ii f) rfl rfl (fun u hu => load_any_op u (run_load_one oneInt u (box_cell (k := 0) hu (List.Mem.tail _ (List.Mem.head _)) rfl)) rfl) ?_ hw1; intro K hK; go_big_quiet_op; go_big_quiet_on)
  (refine wpG_op rfl rfl rfl ?_; intro K hK; go_big_quiet_op; go_big_quiet_on)
  (refine wpG_val (v := ii (f + n)) rfl rfl (fun u hu => load_any_op u (run_load_one oneInt u (box_cell (k := 1) hu (List.Mem.tail _ (List.Mem.head _)) rfl)) rfl) ?_ hw1; intro K hK; go_big_quiet_op; go_big_quiet_on)
  (refine wpG_op rfl rfl rfl ?_; intro K hK; go_big_quiet_op; go_big_quiet_on)
  (refine wpG_val (v := ii f) rfl rfl (fun u hu => load_any_op u (run_load_one oneInt u (box_cell (k := 0) hu (List.Mem.tail _ (List.Mem.head _)) rfl)) rfl) ?_ hw1; intro K hK; go_big_quiet_op; go_big_quiet_on)
  (refine wpG_val (v := ii n) rfl rfl (fun u hu => sub_op u q1.out.1 q3.out.1 rfl rfl) ?_ hw1; intro K hK; go_big_quiet_op; go_big_quiet_on)
  (refine wpG_val (v := ii (n - 1)) rfl rfl (fun u hu => sub_op u q1.out.2.1 q3.out.2.1 rfl rfl) ?_ hw1; intro K hK; go_big_quiet_op; go_big_quiet_on)
  (refine wpG_val (v := .int .u64 ((n - 1 : Nat) : Int)) rfl rfl (fun u hu => conv_uint_op u q3.out.2.2.2.2.1 rfl) ?_ hw1; intro K hK; go_big_quiet_op; go_big_quiet_on)
  (refine wpG_call (f := 80) (args := #[.int .u64 ((n - 1 : Nat) : Int)]) (v := ii (e + 1)) rfl rfl rfl Tryd.func80 rfl rfl (fun u hu => HLEN.out u) ?_ hw1; intro K hK; go_big_quiet_op; go_big_quiet_on)
  (refine wpG_val (v := ii e) rfl rfl (fun u hu => sub_op u q1.out.2.2 q3.out.2.2.1 rfl rfl) ?_ hw1; intro K hK; go_big_quiet_op; go_big_quiet_on)
  (refine wpG_val (v := ii p) rfl rfl (fun u hu => shl_op u HP.out q3.out.2.2.2.2.2 rfl rfl) ?_ hw1; intro K hK; go_big_quiet_op; go_big_quiet_on)
  (refine wpG_val (v := ii (f + p)) rfl rfl (fun u hu => add_op u q2.out q3.out.2.2.2.1 rfl rfl) ?_ hw1; intro K hK; go_big_quiet_op; go_big_quiet_on)
  (refine wpG_op rfl rfl rfl ?_; intro K hK; go_big_quiet_op; go_big_quiet_on)
  clear hone hw1
  refine wpG_nil ?_
  refine anyH_done (by kernel_rfl) ?_
  intro u3 E2'
  have EX2 := Lib.hid E2'
  clear E2'
  go_upto_region 2 with (fail)
  refine wp_region_Hx (w0 := w) [0, 1, 2, 3, 4, 5, 6, 7, 8, 9] [(w.heap.size + 1, Obj.cells #[ii 0, ii 0, ii 0, ii 0] 99 (0, 0)), (w.heap.size, Obj.cells #[ii f, ii (f + n)] 98 (0, 0))] rfl EX2.out ?_
  refine lexH_phase [0, 1, 2, 3, 4, 5, 6, 7, 8] [9] ?_
  have hw4 : EnvX w _ [(w.heap.size + 1, Obj.cells #[ii 0, ii 0, ii 0, ii 0] 99 (0, 0)), (w.heap.size, Obj.cells #[ii f, ii (f + n)] 98 (0, 0))] := EX2.out
  have hone := @EnvC.one _ _ _ hw4
  (refine wpG_op rfl rfl rfl ?_; intro K hK; go_big_quiet_op; go_big_quiet_on)
  (refine wpG_val (v := ii f) rfl rfl (fun u hu => load_any_op u (run_load_one oneInt u (box_cell (k := 0) hu (List.Mem.tail _ (List.Mem.head _)) rfl)) rfl) ?_ hw4; intro K hK; go_big_quiet_op; go_big_quiet_on)
  (refine wpG_op rfl rfl rfl ?_; intro K hK; go_big_quiet_op; go_big_quiet_on)
  (refine wpG_val (v := .agg #[ii f, ii (f + p)]) rfl rfl (fun u hu => buildA_op u (by kernel_rfl)) ?_ hw4; intro K hK; go_big_quiet_op; go_big_quiet_on)
  (refine wpG_op rfl rfl rfl ?_; intro K hK; go_big_quiet_op; go_big_quiet_on)
  (refine wpG_op rfl rfl rfl ?_; intro K hK; go_big_quiet_op; go_big_quiet_on)
  (refine wpG_val (v := ii (f + n)) rfl rfl (fun u hu => load_any_op u (run_load_one oneInt u (box_cell (k := 1) hu (List.Mem.tail _ (List.Mem.head _)) rfl)) rfl) ?_ hw4; intro K hK; go_big_quiet_op; go_big_quiet_on)
  (refine wpG_val (v := .agg #[ii (f + p), ii (f + n)]) rfl rfl (fun u hu => buildA_op u (by kernel_rfl)) ?_ hw4; intro K hK; go_big_quiet_op; go_big_quiet_on)
  (refine wpG_val (v := .agg #[ii f, ii (f + p), ii (f + p), ii (f + n)]) rfl rfl (fun u hu => buildA_op u (by kernel_rfl)) ?_ hw4; intro K hK; go_big_quiet_op; go_big_quiet_on)
  clear hone hw4
  refine wpG_nil ?_
  refine (hOp_store rfl (w.heap.size + 1) (#[ii f, ii (f + p), ii (f + p), ii (f + n)]) rfl rfl (Nat.le_succ _) 99 (#[ii 0, ii 0, ii 0, ii 0]) (List.Mem.head _) info_spans rfl (by kernel_rfl) [(w.heap.size + 1, Obj.cells (#[ii f, ii (f + p), ii (f + p), ii (f + n)]) 99 (0, 0)), (w.heap.size, Obj.cells #[ii f, ii (f + n)] 98 (0, 0))] (List.forall_mem_cons.2 ⟨.inl rfl, List.forall_mem_cons.2 ⟨.inr ⟨List.Mem.tail _ (List.Mem.head _), by omega⟩, (fun _ h => by cases h)⟩⟩) ?_)
  intro he5
  intro u7 E2'
  have EX6 := Lib.hid E2'
  clear E2'
  have Q0 := Lib.hid (EnvX.box EX6.out _ _ (List.Mem.head _))
  go_wp2_with ((with_reducible refine bodyPost_ret (v := .agg #[ii f, ii (f + p), ii (f + p), ii (f + n)]) ?_ ?_ ?_); (exact results_cell_row (p := 2) (ty := 99) Tryd.results73 _ _ (w.heap.size + 1) 99 #[ii f, ii (f + p), ii (f + p), ii (f + n)] (0, 0) _ rfl Q0.out Tryd.underlying99 rfl info_spans); (rfl))
  first | exact EX6.out.bel | exact ⟨rfl, EX6.out.bel⟩
end Go.Proofs.YtcodmedgkboohaaDoor

namespace Go.Proofs.YtcodmedgkboohaaDoor
set_option maxRecDepth 8000
open Go.RowKit

/-- two ids side by side -/
theorem ids2_list {a b : List Int} (ha : a.length = 32) (hb : b.length = 32) : (arrB 32 a ++ arrB 32 b) = (a.map u8v ++ b.map u8v).toArray := by
  rw [arr_id ha, arr_id hb]
  simp
theorem run_loadIds2 {w0 u : World} {M : Boxes} {g : Nat} {t : TypeId} {a b : List Int} (hu : EnvC w0 M u) (hm : (g, Obj.cells (arrB 32 a ++ arrB 32 b) t (0, 0)) ∈ M) (ha : a.length = 32) (hb : b.length = 32) :
    (loadVar 103 ⟨g, 0, none⟩).run Tryd.prog u = .ok (.agg (arrB 32 a ++ arrB 32 b)) u := by
  have h := box_agg aggIds2 (k := 0) hu hm (a.map u8v ++ b.map u8v) (by simp [ha, hb]) (by
    rw [ids2_list ha hb, List.drop_zero, List.take_of_length_le (by simp [ha, hb])])
  rw [ids2_list ha hb]
  exact h
theorem zero_ids2 : (Tryd.prog.info? 103).map (fun i => i.zero.map (·.cells.size)) = some (some 64) := by kernel_rfl
theorem built_ids {A B : Array Value} (hA : A.size = 32) (hB : B.size = 32) : Tryd.prog.built 103 [(0, .agg A), (1, .agg B)] = some (A ++ B) := by
  have hz := zero_ids2
  cases hq : Tryd.prog.info? 103 with
  | none => rw [hq] at hz; cases hz
  | some it =>
    rw [hq] at hz
    simp only [Option.map_some, Option.some.injEq] at hz
    cases hzz : it.zero with
    | none => rw [hzz] at hz; cases hz
    | some z =>
      rw [hzz] at hz
      simp only [Option.map_some, Option.some.injEq] at hz
      have hi := infoI
      cases hq2 : Tryd.prog.info? 37 with
      | none => rw [hq2] at hi; cases hi
      | some ie =>
        rw [hq2] at hi
        simp only [Option.map_some, Option.some.injEq, Prod.mk.injEq] at hi
        unfold Program.built
        simp only [hq, Tryd.underlying103, hzz, hq2, hi.1]
        exact fill_two A B z.cells hA hB rfl rfl (by omega)
section
variable {a : Act} {dst : Option Tmp} {x : Operand} {ty : TypeId} {pos : String} {after : Array Edge} {gd : Option (Nat × Bool)}
end
def preN (a b : List Int) : Nat → List Int
  | 0 => [1]
  | 1 => 1 :: a
  | _ => 1 :: (a ++ b)
def selN (a b : List Int) : Nat → List Int
  | 0 => a
  | _ => b
theorem pre_step (a b : List Int) {k : Nat} (h : k < 2) : preN a b (k + 1) = preN a b k ++ selN a b k := by
  match k, h with
  | 0, _ => simp [preN, selN]
  | 1, _ => simp [preN, selN]
theorem pre_len {a b : List Int} (ha : a.length = 32) (hb : b.length = 32) {k : Nat} (h : k ≤ 2) : (preN a b k).length = 1 + k * 32 := by
  match k, h with
  | 0, _ => simp [preN]
  | 1, _ => simp [preN, ha]
  | 2, _ => simp [preN, ha, hb]
theorem sel_cut {a b : List Int} (ha : a.length = 32) (hb : b.length = 32) {k : Nat} (h : k < 2) : (arrB 32 a ++ arrB 32 b).extract (k * 32) (k * 32 + 32) = arrB 32 (selN a b k) := by
  rw [ids2_list ha hb]
  match k, h with
  | 0, _ =>
    show _ = arrB 32 a
    rw [arr_id ha]
    simp [ha]
  | 1, _ =>
    show _ = arrB 32 b
    rw [arr_id hb]
    simp [ha, hb]
    exact List.take_of_length_le (by simp [hb])
set_option maxRecDepth 20000 in
set_option maxHeartbeats 4000000 in
theorem text_any (a b : List Int) (w : World) (ha : a.length = 32) (hb : b.length = 32) :
    Calls Tryd.prog 63 #[.agg (arrB 32 a ++ arrB 32 b)] w fun e w' => (∃ v, e = .returned v ∧ w'.ownsRow w.heap.size 5 1 v 65 ((textT a b).map u8v)) ∧ Below w.heap.size w w' := by
  have HA := Lib.hid (And.intro ha (Nat.le_refl 0))
  have HB := Lib.hid (And.intro hb (Nat.le_refl 0))
  clear ha hb
  have E1 : Hid (EnvX w ((w.alloc (.cells (arrB 32 a ++ arrB 32 b) 103)).alloc (.cells #[.int .u8 1] 5)) [(w.heap.size + 1, Obj.cells #[.int .u8 1] 5 (0, 0)), (w.heap.size, Obj.cells (arrB 32 a ++ arrB 32 b) 103 (0, 0))]) := (EnvX.start w).two _ _
  go_enter Tryd.func63, Tryd.ntmps63
  go_upto_region 2 with (fail)
  generalize (w.alloc (.cells (arrB 32 a ++ arrB 32 b) 103)).alloc (.cells #[.int .u8 1] 5) = W at *
  refine wp_region_Hx (w0 := w) [0, 1] [(w.heap.size + 1, Obj.cells #[.int .u8 1] 5 (0, 0)), (w.heap.size, Obj.cells (arrB 32 a ++ arrB 32 b) 103 (0, 0))] rfl E1.out ?_
  refine lexH_phase [0, 1] [] ?_
  have hw1 : EnvX w _ [(w.heap.size + 1, Obj.cells #[.int .u8 1] 5 (0, 0)), (w.heap.size, Obj.cells (arrB 32 a ++ arrB 32 b) 103 (0, 0))] := E1.out
  have hone := @EnvC.one _ _ _ hw1
  (refine wpG_val (v := .agg (arrB 32 a ++ arrB 32 b)) rfl rfl (fun u hu => load_any_op u (run_loadIds2 hu (List.Mem.tail _ (List.Mem.head _)) HA.out.1 HB.out.1) rfl) ?_ hw1; intro K hK; go_big_quiet_op; go_big_quiet_on)
  (refine wpG_op rfl rfl rfl ?_; intro K hK; go_big_quiet_op; go_big_quiet_on)
  clear hone hw1
  refine wpG_nil ?_
  intro u3 E2'
  have EX2 := Lib.hid E2'
  clear E2'
  have HINV : Hid (∃ N, FreshR 5 1 (1 + 0 * 32) ((preN a b 0).map u8v) (.slice (some ⟨w.heap.size + 1, 0, none⟩) 1 1) N ∧ freshN w N [] ∧ EnvX w u3 N) := by
    refine ⟨_, .inl ⟨w.heap.size + 1, 1, #[.int .u8 1], rfl, rfl, by omega, by decide, rfl, rfl⟩, ?_, EnvX.sub EX2.out (fun y hy => ?_)⟩
    · intro y hy
      cases List.mem_singleton.1 hy
      exact ⟨Nat.le_succ _, fun z hz => by cases hz⟩
    · cases List.mem_singleton.1 hy
      exact List.Mem.head _
  clear EX2
  go_upto_region 3 with (fail)
  go_loopw [3, 8] (fun v i u => ∃ k : Nat, k ≤ 2 ∧ i = .int .i64 k ∧ Hid (∃ N, FreshR 5 1 (1 + k * 32) ((preN a b k).map u8v) v N ∧ freshN w N [] ∧ EnvX w u N)) (fun _ i _ => 2 - (intOf i).toNat)
  case atStart => exact ⟨0, by omega, rfl, HINV⟩
  case round =>
    obtain ⟨k, hk, rfl, hinv⟩ := hrel
    obtain ⟨N, hF, hN, hE⟩ := hinv.out
    clear hinv HINV
    by_cases hlt : k < 2
    · have hk2 : (k : Int) < 2 := by omega
      have EK : Hid (EnvX w wr (N ++ [])) := by show EnvX _ _ _; rw [List.append_nil]; exact hE
      have HF := Lib.hid hF
      have HN := Lib.hid hN
      have HK := Lib.hid hlt
      have HIX := Lib.hid (sel_cut HA.out.1 HB.out.1 hlt)
      have HX : Hid ((selN a b k).length = 32) := by
        match k, hlt with
        | 0, _ => exact HA.out.1
        | 1, _ => exact HB.out.1
      have HPS := Lib.hid (pre_step a b hlt)
      have HPL := Lib.hid (pre_len HA.out.1 HB.out.1 (Nat.le_of_lt hlt))
      have HKS : Hid (1 + k * 32 + 32 ≤ 2000000) := by show _ ≤ _; omega
      clear hE hF hN
      generalize selN a b k = x at *
      go_upto_region 4 with (fail)
      refine wp_region_Hx (w0 := w) [0, 1, 2] (N ++ []) rfl EK.out ?_
      refine lexH_phase [0] [1, 2] ?_
      have hw4 : EnvX w _ (N ++ []) := EK.out
      have hone := @EnvC.one _ _ _ hw4
      (refine wpG_val (v := idv x) rfl rfl (fun u hu => index_op Tryd.underlying103 aggId HK.out HIX.out u rfl rfl) ?_ hw4; intro K hK; go_big_quiet_op; go_big_quiet_on)
      clear hone hw4
      refine wpG_nil ?_
      refine (hOp_fresh (R := fun x N => ∃ g, x = .pointer (some ⟨g, 0, none⟩) ∧ N = [(g, Obj.cells (arrB 32 []) 37 (0, 0))]) (M0 := (N ++ [])) rfl rfl (fun _ h => h) (fun u hu => FAt_new (new_id _) u) ?_)
      rintro x N ⟨g9, rfl, rfl⟩ hf he5; intro K' hK'; go_big_quiet_op; go_big_quiet_on
      have HG9 := Lib.hid hf
      clear hf
      change lexH _ _ _ _ _ _ ((g9, Obj.cells (arrB 32 []) 37 (0, 0)) :: (N ++ []))
      refine (hOp_store rfl (g9) (arrB 32 x) rfl rfl (HG9.out _ (List.mem_singleton.2 rfl)).1 37 ((arrB 32 [])) (List.Mem.head _) (info26 _ (arrB_size _ _ (by rw [HX.out]; omega))) ((arrB_size _ _ (by simp)).trans (arrB_size _ _ (by rw [HX.out]; omega)).symm) (arrB_one _ _) ((g9, Obj.cells (arrB 32 x) 37 (0, 0)) :: (N ++ [])) (fun y hy => (List.mem_cons.1 hy).imp id (fun h => ⟨List.mem_cons_of_mem _ (by simpa using h), (HG9.out _ (List.mem_singleton.2 rfl)).2 _ (by simpa using h)⟩)) ?_)
      intro he6
      intro u8 E2'
      have EX7 := Lib.hid E2'
      clear E2'
      go_upto_region 5 with (fail)
      refine wp_region_Hx (w0 := w) [0, 1, 2, 3] ((g9, Obj.cells (arrB 32 x) 37 (0, 0)) :: (N ++ [])) rfl EX7.out ?_
      refine lexH_phase [0, 1] [2, 3] ?_
      have hw9 : EnvX w _ ((g9, Obj.cells (arrB 32 x) 37 (0, 0)) :: (N ++ [])) := EX7.out
      have hone := @EnvC.one _ _ _ hw9
      (refine wpG_op rfl rfl rfl ?_; intro K hK; go_big_quiet_op; go_big_quiet_on)
      (refine wpG_val (v := .slice (some ⟨g9, 0, none⟩) 32 32) rfl rfl (fun u hu => sliceArr_op u rfl) ?_ hw9; intro K hK; go_big_quiet_op; go_big_quiet_on)
      clear hone hw9
      refine wpG_nil ?_
      refine (hOp_own (gd := none) (R := GrownR w 5 1 (1 + k * 32 + 32) ((preN a b k).map u8v ++ x.map u8v) []) rfl rfl rfl rfl (fun u hu => appR_op elB (m := 32) (c := 32) [] hu (by rw [List.length_map, HPL.out]; omega) (by rw [List.length_map, HX.out]) (fun z hz => by obtain ⟨q, _, rfl⟩ := List.mem_map.1 hz; rfl) HF.out (fun y hy => ⟨List.mem_cons_of_mem _ (List.mem_append_left _ hy), (HN.out y hy).1⟩) (by rw [← arr_id HX.out]; exact List.Mem.head _) (fun z hz => by cases hz) HKS.out rfl rfl) ?_)
      rintro x M' ⟨N2, rfl, hF2, hf2⟩ he10; intro K' hK'; go_big_quiet_op; go_big_quiet_on
      have HF2 := Lib.hid (And.intro hF2 hf2)
      clear hF2 hf2
      change lexH _ _ _ _ _ _ (N2 ++ [])
      refine lexH_phase [3] [] ?_
      have hw11 : EnvX w _ (N2 ++ []) := he10.choose_spec
      have hone := @EnvC.one _ _ _ hw11
      (refine wpG_op rfl rfl rfl ?_; intro K hK; go_big_quiet_op; go_big_quiet_on)
      clear hone hw11
      refine wpG_nil ?_
      intro u13 E2'
      have EX12 := Lib.hid E2'
      clear E2'
      go_wp2
      go_roundw
      case rel =>
        refine ⟨k + 1, by omega, by go_num, N2, ?_, HF2.out.2, by simpa using EX12.out⟩
        have h := HF2.out.1
        rw [HPS.out, List.map_append, show 1 + (k + 1) * 32 = 1 + k * 32 + 32 by omega]
        exact h
      case measure => simp [intOf]; omega
    · obtain rfl : k = 2 := by omega
      have HO := Lib.hid (And.intro (hF.own (B := w.heap.size) (by rw [List.length_map, pre_len HA.out.1 HB.out.1 (Nat.le_refl _)]) (fun y hy => ⟨(hN y hy).1, EnvX.box hE _ _ hy⟩)) (EnvX.bel hE))
      clear hF hN hE
      go_wp2
      go_ret
      exact ⟨⟨_, rfl, HO.out.1⟩, HO.out.2⟩
theorem box_bytes65 {w0 u : World} {M : Boxes} {g cap : Nat} {cur : Array Value} {xs : List Int} (hu : EnvC w0 M u) (hm : (g, Obj.cells cur 5 (0, 0)) ∈ M) (hl : xs.length = 65) (h : 65 ≤ cap ∧ cap ≤ maxLen ∧ cur.size = cap * 1 ∧ cur.toList.take (65 * 1) = xs.map u8v) : Bytes u u.heap.size (some ⟨g, 0, none⟩) xs := by
  have : OwnB u 0 (.slice (some ⟨g, 0, none⟩) xs.length cap) xs := ⟨by simp, .inr ⟨g, cap, cur, rfl, Nat.zero_le _, EnvX.box hu g _ hm, by rw [hl]; exact h.1, h.2.1, h.2.2.1, by rw [hl]; exact h.2.2.2⟩⟩
  exact this.bytes.2
set_option maxRecDepth 20000 in
set_option maxHeartbeats 4000000 in
theorem node_any (a b : List Int) (w : World) (ha : a.length = 32 ∧ ∀ x ∈ a, 0 ≤ x ∧ x ≤ 255) (hb : b.length = 32 ∧ ∀ x ∈ b, 0 ≤ x ∧ x ≤ 255) (ht : Tables w) :
    Calls Tryd.prog 48 #[idv a, idv b] w fun e w' => e = .returned (idv (nodeT a b)) ∧ Below w.heap.size w w' := by
  have HA := Lib.hid ha
  have HB := Lib.hid hb
  have HAB : Hid ((arrB 32 a).size = 32 ∧ (arrB 32 b).size = 32) := ⟨arrB_size _ _ (by omega), arrB_size _ _ (by omega)⟩
  have HTX := Lib.hid (fun u => text_any a b u ha.1 hb.1)
  have HTL : Hid ((textT a b).length = 65) := by show _ = _; unfold textT; simp [ha.1, hb.1]
  have HSUM : Hid (∀ u g cap, Bytes u u.heap.size (some ⟨g, 0, none⟩) (textT a b) → EnvX w u [] → Calls Tryd.prog 24 #[.slice (some ⟨g, 0, none⟩) 65 cap] u fun e w' => e = .returned (idv (nodeT a b)) ∧ Below u.heap.size u w') := fun u g cap h1 h2 =>
    sum_any (some ⟨g, 0, none⟩) 65 cap (textT a b) u HTL.out (by omega) h1 (textT_byte ha.2 hb.2) (ht.below (EnvX.bel h2))
  have HLE : Hid (w.heap.size ≤ w.heap.size + 1 + 1) := by show _ ≤ _; omega
  have HNL : Hid ((nodeT a b).length ≤ 32) := by show _ ≤ _; rw [(node_id _ _).1]; omega
  have E1 : Hid (EnvX w (((w.alloc (.cells (arrB 32 a) 37)).alloc (.cells (arrB 32 b) 37)).alloc (.cells (arrB 32 []) 37)) [(w.heap.size + 1 + 1, Obj.cells (arrB 32 []) 37 (0, 0)), (w.heap.size + 1, Obj.cells (arrB 32 b) 37 (0, 0)), (w.heap.size, Obj.cells (arrB 32 a) 37 (0, 0))]) := by
    have h := ((EnvX.start w).two (Obj.cells (arrB 32 a) 37 (0, 0)) (Obj.cells (arrB 32 b) 37 (0, 0))).new (Obj.cells (arrB 32 []) 37 (0, 0))
    have hs : ((w.alloc (Obj.cells (arrB 32 a) 37 (0, 0))).alloc (Obj.cells (arrB 32 b) 37 (0, 0))).heap.size = w.heap.size + 1 + 1 := by simp
    rw [hs] at h
    exact h
  clear ha hb ht
  unfold idv
  go_enter Tryd.func48, Tryd.ntmps48
  go_upto_region 1 with (fail)
  rw [zero_cells]
  generalize ((w.alloc (.cells (arrB 32 a) 37)).alloc (.cells (arrB 32 b) 37)).alloc (.cells (arrB 32 []) 37) = W at *
  refine wp_region_Hx (w0 := w) [0, 1, 2, 3, 4, 5] [(w.heap.size + 1 + 1, Obj.cells (arrB 32 []) 37 (0, 0)), (w.heap.size + 1, Obj.cells (arrB 32 b) 37 (0, 0)), (w.heap.size, Obj.cells (arrB 32 a) 37 (0, 0))] rfl E1.out ?_
  refine lexH_phase [0, 1, 2] [3, 4, 5] ?_
  have hw1 : EnvX w _ [(w.heap.size + 1 + 1, Obj.cells (arrB 32 []) 37 (0, 0)), (w.heap.size + 1, Obj.cells (arrB 32 b) 37 (0, 0)), (w.heap.size, Obj.cells (arrB 32 a) 37 (0, 0))] := E1.out
  have hone := @EnvC.one _ _ _ hw1
  (refine wpG_val (v := idv a) rfl rfl (fun u hu => load_run_op u (box_load hu (List.Mem.tail _ (List.Mem.tail _ (List.Mem.head _))) HA.out.1) rfl) ?_ hw1; intro K hK; go_big_quiet_op; go_big_quiet_on)
  (refine wpG_val (v := idv b) rfl rfl (fun u hu => load_run_op u (box_load hu (List.Mem.tail _ (List.Mem.head _)) HB.out.1) rfl) ?_ hw1; intro K hK; go_big_quiet_op; go_big_quiet_on)
  (refine wpG_val (v := .agg (arrB 32 a ++ arrB 32 b)) rfl rfl (fun u hu => buildA_op u (built_ids HAB.out.1 HAB.out.2)) ?_ hw1; intro K hK; go_big_quiet_op; go_big_quiet_on)
  clear hone hw1
  refine wpG_nil ?_
  refine (hOp_fresh (R := FreshR 5 1 65 ((textT a b).map u8v)) (M0 := [(w.heap.size + 1 + 1, Obj.cells (arrB 32 []) 37 (0, 0)), (w.heap.size + 1, Obj.cells (arrB 32 b) 37 (0, 0)), (w.heap.size, Obj.cells (arrB 32 a) 37 (0, 0))]) rfl rfl (fun _ h => h) (fun u hu => FAt_call (fid := 63) (xs := #[.tmp 7]) (args := #[.agg (arrB 32 a ++ arrB 32 b)]) rfl Tryd.func63 rfl rfl u (callsR_fresh (HTX.out u))) ?_)
  rintro x N hF hf he2; intro K' hK'; go_big_quiet_op; go_big_quiet_on
  obtain ⟨g, cap, cur, rfl, rfl, hcur⟩ | ⟨_, _, h0, _⟩ := hF
  case inr => cases h0
  have HCUR := Lib.hid hcur
  clear hcur
  clear hf
  change lexH _ _ _ _ _ _ [(g, Obj.cells cur 5 (0, 0)), (w.heap.size + 1 + 1, Obj.cells (arrB 32 []) 37 (0, 0)), (w.heap.size + 1, Obj.cells (arrB 32 b) 37 (0, 0)), (w.heap.size, Obj.cells (arrB 32 a) 37 (0, 0))]
  refine lexH_phase [4] [5] ?_
  have hw3 : EnvX w _ [(g, Obj.cells cur 5 (0, 0)), (w.heap.size + 1 + 1, Obj.cells (arrB 32 []) 37 (0, 0)), (w.heap.size + 1, Obj.cells (arrB 32 b) 37 (0, 0)), (w.heap.size, Obj.cells (arrB 32 a) 37 (0, 0))] := he2.choose_spec
  have hone := @EnvC.one _ _ _ hw3
  (refine wpG_call (f := 24) (args := #[.slice (some ⟨g, 0, none⟩) 65 cap]) (v := idv (nodeT a b)) rfl rfl rfl Tryd.func24 rfl rfl (fun u hu => HSUM.out u _ _ (box_bytes65 hu (List.Mem.head _) HTL.out HCUR.out) (EnvX.sub hu (fun _ h => by cases h))) ?_ hw3; intro K hK; go_big_quiet_op; go_big_quiet_on)
  clear hone hw3
  refine wpG_nil ?_
  refine (hOp_store rfl (w.heap.size + 1 + 1) (arrB 32 (nodeT a b)) rfl rfl HLE.out 37 ((arrB 32 [])) (List.Mem.tail _ (List.Mem.head _)) (info26 _ (arrB_size _ _ HNL.out)) ((arrB_size _ _ (by simp)).trans (arrB_size _ _ HNL.out).symm) (arrB_one _ _) [(w.heap.size + 1 + 1, Obj.cells (arrB 32 (nodeT a b)) 37 (0, 0))] (List.forall_mem_cons.2 ⟨.inl rfl, (fun _ h => by cases h)⟩) ?_)
  intro he4
  intro u6 E2'
  have EX5 := Lib.hid E2'
  clear E2'
  have hsz : Hid ((arrB 32 (nodeT a b)).size = 32) := arrB_size _ _ HNL.out
  have Q0 := Lib.hid (EnvX.box EX5.out _ _ (List.Mem.head _))
  have HBEL := Lib.hid EX5.out.bel
  clear EX5
  generalize hcn : arrB 32 (nodeT a b) = cn at *
  have HCN := Lib.hid hcn
  clear hcn
  go_wp2_with ((with_reducible refine bodyPost_ret (v := .agg cn) ?_ ?_ ?_); (exact results_cell_row (p := 4) (ty := 37) Tryd.results48 _ _ (w.heap.size + 1 + 1) 37 cn (0, 0) _ rfl Q0.out Tryd.underlying37 rfl (info26 cn hsz.out)); (rfl))
  exact ⟨by rw [HCN.out], HBEL.out⟩
end Go.Proofs.YtcodmedgkboohaaDoor
