/- Part of a proof. -/
import Derived.Test.YtabhhbdbkeeblaaDoorZl
import Derived.RangeFuncBox
import Derived.RangeFuncNested
import Derived.RangeFuncBound
import Derived.RangeFuncCalls
import Derived.RangeFuncLeaves
import Derived.Shelf.Abstract
import Derived.Shelf.RegionOpen
import Derived.WalkKit
import Derived.OwnWalkIn
import Derived.TacticsInMore
import Derived.LoopNIn
import Derived.LoopIn
namespace Go.Proofs.YtabhhbdbkeeblaaDoor
set_option maxRecDepth 8000
open Go.RowKit
theorem putL_one {v : Int} (h : 0 ≤ v ∧ v ≤ 255) : putL v.toNat 1 = [v] := by
  show [] ++ [((v.toNat % 256 : Nat) : Int)] = [v]
  rw [List.nil_append]
  congr 1
  omega
theorem putL_oneN {n : Nat} (h : n ≤ 255) : putL n 1 = [(n : Int)] := by
  show [] ++ [((n % 256 : Nat) : Int)] = [(n : Int)]
  rw [List.nil_append]
  congr 1
  omega
set_option maxRecDepth 20000 in
set_option maxHeartbeats 8000000 in
theorem pputX_no (r : TxR) (A1 : Option Addr) (n1 c1 : Nat) (A2 : Option Addr) (n2 c2 : Nat) (w : World) (ht : TxOk w ⟨r, A1, n1, c1, A2, n2, c2⟩) (k1 : mayX r = false) :
    Calls Tryd.prog 41 #[txV ⟨r, A1, n1, c1, A2, n2, c2⟩] w fun e w' => (∃ v, e = .returned (.tuple #[v, .bool (putX r).2]) ∧ OwnB w' w.heap.size v (putX r).1) ∧ Below w.heap.size w w' := by
  have hp : putX r = ([], false) := by unfold putX; rw [k1]; rfl
  rw [hp]
  clear hp
  have HT := Lib.hid ht
  have HN63 := Lib.hid ht.n63
  obtain ⟨hn1, hn2⟩ := ht.n63
  have HL : Hid (r.ins.length = n1 ∧ r.outs.length = n2) := ⟨ht.l1, ht.l2⟩
  have HMY : Hid (∀ u, Below w.heap.size w u → Calls Tryd.prog 43 #[txV ⟨r, A1, n1, c1, A2, n2, c2⟩] u fun e w' => e = .returned (.bool false) ∧ Below u.heap.size u w') := fun u hu => by
    have h := mayXp_any r A1 n1 c1 A2 n2 c2 u (ht.up hu)
    rwa [k1] at h
  have E1 : Hid (EnvX w (w.alloc (.cells (txA ⟨r, A1, n1, c1, A2, n2, c2⟩) 26)) [(w.heap.size, Obj.cells (txA ⟨r, A1, n1, c1, A2, n2, c2⟩) 26 (0, 0))]) := (EnvX.start w).new _
  clear ht k1
  unfold txV at *
  go_enter Tryd.func41, Tryd.ntmps41
  go_upto_region 1 with (fail)
  generalize w.alloc (.cells (txA ⟨r, A1, n1, c1, A2, n2, c2⟩) 26) = W at *
  refine wp_region_Hx (w0 := w) [0, 1, 2] [(w.heap.size, Obj.cells (txA ⟨r, A1, n1, c1, A2, n2, c2⟩) 26 (0, 0))] rfl E1.out ?_
  refine lexH_phase [0, 1, 2] [] ?_
  have hw1 : EnvX w _ [(w.heap.size, Obj.cells (txA ⟨r, A1, n1, c1, A2, n2, c2⟩) 26 (0, 0))] := E1.out
  have hone := @EnvC.one _ _ _ hw1
  (refine wpG_val (v := .agg (txA ⟨r, A1, n1, c1, A2, n2, c2⟩)) rfl rfl (fun u hu => load_any_op u (box_tx hu (List.Mem.head _)) rfl) ?_ hw1; intro K hK; go_big_quiet_op; go_big_quiet_on)
  (refine wpG_call (f := 43) (args := #[.agg (txA ⟨r, A1, n1, c1, A2, n2, c2⟩)]) (v := .bool false) rfl rfl rfl Tryd.func43 rfl rfl (fun u hu => HMY.out u (EnvX.bel hu)) ?_ hw1; intro K hK; go_big_quiet_op; go_big_quiet_on)
  (refine wpG_op rfl rfl rfl ?_; intro K hK; go_big_quiet_op; go_big_quiet_on)
  clear hone hw1
  refine wpG_nil ?_
  intro u3 E2'
  have EX2 := Lib.hid E2'
  clear E2'
  have HBE := Lib.hid (EnvX.bel EX2.out)
  go_wp2
  go_returns
  exact ⟨⟨_, rfl, OwnB.nil _ _⟩, HBE.out⟩
set_option maxRecDepth 20000 in
set_option maxHeartbeats 8000000 in
theorem pputX_yes (r : TxR) (A1 : Option Addr) (n1 c1 : Nat) (A2 : Option Addr) (n2 c2 : Nat) (w : World) (ht : TxOk w ⟨r, A1, n1, c1, A2, n2, c2⟩) (k1 : mayX r = true) :
    Calls Tryd.prog 41 #[txV ⟨r, A1, n1, c1, A2, n2, c2⟩] w fun e w' => (∃ v, e = .returned (.tuple #[v, .bool (putX r).2]) ∧ OwnB w' w.heap.size v (putX r).1) ∧ Below w.heap.size w w' := by
  have hp : putX r = (bodyX r, true) := by unfold putX; rw [k1]; rfl
  rw [hp]
  clear hp
  have HT := Lib.hid ht
  have HN63 := Lib.hid ht.n63
  obtain ⟨hn1, hn2⟩ := ht.n63
  have HL : Hid (r.ins.length = n1 ∧ r.outs.length = n2) := ⟨ht.l1, ht.l2⟩
  have HMY : Hid (∀ u, Below w.heap.size w u → Calls Tryd.prog 43 #[txV ⟨r, A1, n1, c1, A2, n2, c2⟩] u fun e w' => e = .returned (.bool true) ∧ Below u.heap.size u w') := fun u hu => by
    have h := mayXp_any r A1 n1 c1 A2 n2 c2 u (ht.up hu)
    rwa [k1] at h
  have E1 : Hid (EnvX w (w.alloc (.cells (txA ⟨r, A1, n1, c1, A2, n2, c2⟩) 26)) [(w.heap.size, Obj.cells (txA ⟨r, A1, n1, c1, A2, n2, c2⟩) 26 (0, 0))]) := (EnvX.start w).new _
  have hmx := mayX_iff.1 k1
  have hl1 : r.ins.length = n1 := ht.l1
  have hl2 : r.outs.length = n2 := ht.l2
  rw [hl1, hl2] at hmx
  obtain ⟨hm1, hm2, hm3, hm4, -, hm5⟩ := hmx
  clear hl1 hl2
  have HM4 := Lib.hid hm4
  have HM5 := Lib.hid hm5
  have HOK : Hid (okX r) := ht.ok
  have HN3 : Hid (n1 ≤ 3 ∧ n2 ≤ 3) := ⟨hm1, hm3⟩
  have HPT : Hid (∀ (n k : Nat), n < 18446744073709551616 → k ≤ 8 → ∀ u, Calls Tryd.prog 52 #[.int .u64 (n : Int), .int .i64 k] u fun e w' => (∃ v, e = .returned v ∧ OwnB w' u.heap.size v (putL n k)) ∧ Below u.heap.size u w') := fun n k hn hk u => put_any n k u hn hk
  have CN1 : Hid (IntKind.u64.wrap (n1 : Int) = (n1 : Int)) := by show _ = _; rw [IntKind.wrap_u64]; omega
  have CN2 : Hid (IntKind.u64.wrap (n2 : Int) = (n2 : Int)) := by show _ = _; rw [IntKind.wrap_u64]; omega
  clear hm4 hm5
  clear ht k1
  unfold txV at *
  go_enter Tryd.func41, Tryd.ntmps41
  go_upto_region 1 with (fail)
  generalize w.alloc (.cells (txA ⟨r, A1, n1, c1, A2, n2, c2⟩) 26) = W at *
  refine wp_region_Hx (w0 := w) [0, 1, 2] [(w.heap.size, Obj.cells (txA ⟨r, A1, n1, c1, A2, n2, c2⟩) 26 (0, 0))] rfl E1.out ?_
  refine lexH_phase [0, 1, 2] [] ?_
  have hw1 : EnvX w _ [(w.heap.size, Obj.cells (txA ⟨r, A1, n1, c1, A2, n2, c2⟩) 26 (0, 0))] := E1.out
  have hone := @EnvC.one _ _ _ hw1
  (refine wpG_val (v := .agg (txA ⟨r, A1, n1, c1, A2, n2, c2⟩)) rfl rfl (fun u hu => load_any_op u (box_tx hu (List.Mem.head _)) rfl) ?_ hw1; intro K hK; go_big_quiet_op; go_big_quiet_on)
  (refine wpG_call (f := 43) (args := #[.agg (txA ⟨r, A1, n1, c1, A2, n2, c2⟩)]) (v := .bool true) rfl rfl rfl Tryd.func43 rfl rfl (fun u hu => HMY.out u (EnvX.bel hu)) ?_ hw1; intro K hK; go_big_quiet_op; go_big_quiet_on)
  (refine wpG_op rfl rfl rfl ?_; intro K hK; go_big_quiet_op; go_big_quiet_on)
  clear hone hw1
  refine wpG_nil ?_
  intro u3 E2'
  have EX2 := Lib.hid E2'
  clear E2'
  go_upto_region 3 with (fail)
  refine wp_region_Hx (w0 := w) [0, 1, 2, 3, 4, 5] [(w.heap.size, Obj.cells (txA ⟨r, A1, n1, c1, A2, n2, c2⟩) 26 (0, 0))] rfl EX2.out ?_
  refine lexH_phase [0, 1, 2, 3] [4, 5] ?_
  have hw4 : EnvX w _ [(w.heap.size, Obj.cells (txA ⟨r, A1, n1, c1, A2, n2, c2⟩) 26 (0, 0))] := EX2.out
  have hone := @EnvC.one _ _ _ hw4
  (refine wpG_val (v := .pointer (some ⟨w.heap.size, 0, none⟩)) rfl rfl (fun u hu => fieldTx_op (k := 0) (off := 0) (ad := ⟨w.heap.size, 0, none⟩) rfl u rfl) ?_ hw4; intro K hK; go_big_quiet_op; go_big_quiet_on)
  (refine wpG_val (v := .slice A1 n1 c1) rfl rfl (fun u hu => load_any_op u (box_tx_ins hu (List.Mem.head _)) rfl) ?_ hw4; intro K hK; go_big_quiet_op; go_big_quiet_on)
  (refine wpG_val (v := .int .i64 (n1 : Int)) rfl rfl (fun u hu => len_op Tryd.underlying23 HN63.out.1 u rfl) ?_ hw4; intro K hK; go_big_quiet_op; go_big_quiet_on)
  (refine wpG_val (v := .int .u64 ((n1 : Nat) : Int)) rfl rfl (fun u hu => conv_u64_op u CN1.out rfl) ?_ hw4; intro K hK; go_big_quiet_op; go_big_quiet_on)
  clear hone hw4
  refine wpG_nil ?_
  refine (hOp_fresh (R := FreshR 5 1 1 ((putL n1 1).map u8v)) (M0 := [(w.heap.size, Obj.cells (txA ⟨r, A1, n1, c1, A2, n2, c2⟩) 26 (0, 0))]) rfl rfl (fun _ h => h) (fun u hu => FAt_call (fid := 52) (xs := #[.tmp 15, .const (Value.int IntKind.i64 1)]) (args := #[.int .u64 ((n1 : Nat) : Int), .int .i64 ((1 : Nat) : Int)]) rfl Tryd.func52 rfl rfl u (by have h := callsR_fresh (HPT.out n1 1 (by have := HN3.out.1; omega) (by decide) u); rw [putL_len] at h; exact h)) ?_)
  rintro x0 N0 hF hf he5; intro K' hK'; go_big_quiet_op; go_big_quiet_on
  have HF0 := Lib.hid hF
  have HN0 := Lib.hid hf
  clear hF
  clear hf
  change lexH _ _ _ _ _ _ (N0 ++ ((w.heap.size, Obj.cells (txA ⟨r, A1, n1, c1, A2, n2, c2⟩) 26 (0, 0)) :: []))
  refine lexH_phase [5] [] ?_
  have hw6 : EnvX w _ (N0 ++ ((w.heap.size, Obj.cells (txA ⟨r, A1, n1, c1, A2, n2, c2⟩) 26 (0, 0)) :: [])) := he5.choose_spec
  have hone := @EnvC.one _ _ _ hw6
  (refine wpG_op rfl rfl rfl ?_; intro K hK; go_big_quiet_op; go_big_quiet_on)
  clear hone hw6
  refine wpG_nil ?_
  intro u8 E2'
  have EX7 := Lib.hid E2'
  clear E2'
  have HFX : Hid (FreshY (insB r.ins 0) x0 N0) := by
    have e : insB r.ins 0 = putL n1 1 := by rw [putL_oneN (by have := HN3.out.1; omega)]; unfold insB; rw [HL.out.1]; rfl
    show FreshY _ _ _
    rw [e]
    unfold FreshY
    rw [putL_len]
    exact HF0.out
  clear HF0
  go_upto_region 4 with (fail)
  refine wp_region_Hx (w0 := w) [0, 1, 2, 3] (N0 ++ ((w.heap.size, Obj.cells (txA ⟨r, A1, n1, c1, A2, n2, c2⟩) 26 (0, 0)) :: [])) rfl EX7.out ?_
  refine lexH_phase [0, 1, 2, 3] [] ?_
  have hw9 : EnvX w _ (N0 ++ ((w.heap.size, Obj.cells (txA ⟨r, A1, n1, c1, A2, n2, c2⟩) 26 (0, 0)) :: [])) := EX7.out
  have hone := @EnvC.one _ _ _ hw9
  (refine wpG_val (v := .pointer (some ⟨w.heap.size, 0, none⟩)) rfl rfl (fun u hu => fieldTx_op (k := 0) (off := 0) (ad := ⟨w.heap.size, 0, none⟩) rfl u rfl) ?_ hw9; intro K hK; go_big_quiet_op; go_big_quiet_on)
  (refine wpG_val (v := .slice A1 n1 c1) rfl rfl (fun u hu => load_any_op u (box_tx_ins hu (List.mem_append_right _ (List.Mem.head _))) rfl) ?_ hw9; intro K hK; go_big_quiet_op; go_big_quiet_on)
  (refine wpG_val (v := .int .i64 (n1 : Int)) rfl rfl (fun u hu => len_op Tryd.underlying23 HN63.out.1 u rfl) ?_ hw9; intro K hK; go_big_quiet_op; go_big_quiet_on)
  (refine wpG_op rfl rfl rfl ?_; intro K hK; go_big_quiet_op; go_big_quiet_on)
  clear hone hw9
  refine wpG_nil ?_
  intro u11 E2'
  have EX10 := Lib.hid E2'
  clear E2'
  have HIN : Hid (BInv w [(w.heap.size, Obj.cells (txA ⟨r, A1, n1, c1, A2, n2, c2⟩) 26 (0, 0))] (insB r.ins 0) x0 u11) := ⟨N0, HFX.out, HN0.out, EX10.out⟩
  clear EX10 E1 HFX HN0
  go_upto_region 5 with (fail)
  go_loopw [4, 20] (fun v iv u => ∃ i : Nat, i ≤ n1 ∧ iv = .int .i64 (i : Int) ∧ Hid (BInv w [(w.heap.size, Obj.cells (txA ⟨r, A1, n1, c1, A2, n2, c2⟩) 26 (0, 0))] (insB r.ins i) v u)) (fun _ iv _ => n1 - (intOf iv).toNat)
  case atStart => exact ⟨0, by omega, rfl, HIN⟩
  case round =>
    obtain ⟨i, hi, rfl, hinv⟩ := hrel
    obtain ⟨N, hF, hN, hE⟩ := hinv.out
    have HF := Lib.hid hF
    have HN := Lib.hid hN
    have EK := Lib.hid hE
    clear hinv HIN hF hN hE
    by_cases hlt : i < n1
    · have C4 : Hid (decide ((i : Int) < (n1 : Int)) = true) := decide_eq_true (by omega)
      have HI := Lib.hid hlt
      have hil : i < r.ins.length := by rw [HL.out.1]; exact hlt
      obtain ⟨ad, rfl, -, hld⟩ := HT.out.m1.loads HT.out.o1 hil
      have HLD := Lib.hid hld
      have hok := HT.out.o1.get hil
      have hmem : r.ins.getD i noIn ∈ r.ins := getD_mem r.ins noIn hil
      have hb := HM4.out _ hmem
      have HSL : Hid ((insB r.ins i).length ≤ 1000) := by have h1 : (insB r.ins i).length ≤ 1 + 33 * r.ins.length := insB_le HT.out.o1 i; rw [HL.out.1] at h1; have := HN3.out.1; show _ ≤ _; omega
      have HX : Hid (lenI (r.ins.getD i noIn)) := hok.len
      have CI : Hid (IntKind.u64.wrap (r.ins.getD i noIn).i = (((r.ins.getD i noIn).i.toNat : Nat) : Int)) := by show _ = _; rw [IntKind.wrap_u64]; omega
      have HIB : Hid ((r.ins.getD i noIn).i.toNat < 18446744073709551616) := by show _ < _; omega
      have HST : Hid (insB r.ins (i + 1) = insB r.ins i ++ (r.ins.getD i noIn).tx ++ putL (r.ins.getD i noIn).i.toNat 1) := by show _ = _; rw [putL_one (by omega)]; exact insB_step hil
      clear hld hil hok hmem hb
      generalize r.ins.getD i noIn = x at *
      generalize insB r.ins i = xs at *
      go_upto_region 5 with (fail)
      refine wp_region_Hx (w0 := w) [0] (N ++ ((w.heap.size, Obj.cells (txA ⟨r, some ad, n1, c1, A2, n2, c2⟩) 26 (0, 0)) :: [])) rfl EK.out ?_
      refine lexH_phase [0] [] ?_
      have hw41 : EnvX w _ (N ++ ((w.heap.size, Obj.cells (txA ⟨r, some ad, n1, c1, A2, n2, c2⟩) 26 (0, 0)) :: [])) := EK.out
      have hone := @EnvC.one _ _ _ hw41
      (refine wpG_val (v := .bool true) rfl rfl (fun u hu => ltZ_op u C4.out rfl rfl) ?_ hw41; intro K hK; go_big_quiet_op; go_big_quiet_on)
      clear hone hw41
      refine wpG_nil ?_
      intro u43 E2'
      have EX42 := Lib.hid E2'
      clear E2'
      go_upto_region 6 with (fail)
      refine wp_region_Hx (w0 := w) [0, 1, 2, 3] (N ++ ((w.heap.size, Obj.cells (txA ⟨r, some ad, n1, c1, A2, n2, c2⟩) 26 (0, 0)) :: [])) rfl EX42.out ?_
      refine lexH_phase [0, 1] [2, 3] ?_
      have hw44 : EnvX w _ (N ++ ((w.heap.size, Obj.cells (txA ⟨r, some ad, n1, c1, A2, n2, c2⟩) 26 (0, 0)) :: [])) := EX42.out
      have hone := @EnvC.one _ _ _ hw44
      (refine wpG_val (v := .pointer (some (ad.add (i * 33)))) rfl rfl (fun u hu => idxSl_op (i := i) Tryd.underlying23 aggIn.size HI.out u rfl rfl) ?_ hw44; intro K hK; go_big_quiet_op; go_big_quiet_on)
      (refine wpG_val (v := inV x) rfl rfl (fun u hu => load_any_op u (HLD.out u (EnvX.sub hu (fun _ h => by cases h))).1 rfl) ?_ hw44; intro K hK; go_big_quiet_op; go_big_quiet_on)
      clear hone hw44
      refine wpG_nil ?_
      refine (hOp_fresh (R := fun x N => ∃ g, x = .pointer (some ⟨g, 0, none⟩) ∧ N = [(g, Obj.cells (inA noIn) 42 (0, 0))]) (M0 := (N ++ ((w.heap.size, Obj.cells (txA ⟨r, some ad, n1, c1, A2, n2, c2⟩) 26 (0, 0)) :: []))) rfl rfl (fun _ h => h) (fun u hu => FAt_new (new_in _) u) ?_)
      rintro _ _ ⟨gi, rfl, rfl⟩ hf he45; intro K' hK'; go_big_quiet_op; go_big_quiet_on
      have HG6 := Lib.hid (hf _ (List.mem_singleton.2 rfl))
      clear hf
      change lexH _ _ _ _ _ _ ((gi, Obj.cells (inA noIn) 42 (0, 0)) :: (N ++ ((w.heap.size, Obj.cells (txA ⟨r, some ad, n1, c1, A2, n2, c2⟩) 26 (0, 0)) :: [])))
      refine (hOp_store rfl (gi) (inA x) rfl rfl HG6.out.1 42 ((inA noIn)) (List.Mem.head _) (infoIn _ (inA_size HX.out)) ((inA_size' (Nat.zero_le _)).trans (inA_size HX.out).symm) (inA_one _) ((gi, Obj.cells (inA x) 42 (0, 0)) :: (N ++ ((w.heap.size, Obj.cells (txA ⟨r, some ad, n1, c1, A2, n2, c2⟩) 26 (0, 0)) :: []))) (List.forall_mem_cons.2 ⟨.inl rfl, fun y hy => .inr ⟨List.mem_cons_of_mem _ hy, HG6.out.2 y hy⟩⟩) ?_)
      intro he46
      intro u48 E2'
      have EX47 := Lib.hid E2'
      clear E2'
      have HNG : Hid (∀ y ∈ N, gi ≠ y.1) := fun y hy e => HG6.out.2 y (List.mem_append_left _ hy) e.symm
      have HTG : Hid (w.heap.size ≠ gi) := HG6.out.2 (w.heap.size, Obj.cells (txA ⟨r, some ad, n1, c1, A2, n2, c2⟩) 26 (0, 0)) (List.mem_append_right _ (List.Mem.head _))
      go_upto_region 7 with (fail)
      refine wp_region_Hx (w0 := w) [0, 1, 2, 3, 4] ((gi, Obj.cells (inA x) 42 (0, 0)) :: (N ++ ((w.heap.size, Obj.cells (txA ⟨r, some ad, n1, c1, A2, n2, c2⟩) 26 (0, 0)) :: []))) rfl EX47.out ?_
      refine lexH_phase [0, 1, 2] [3, 4] ?_
      have hw49 : EnvX w _ ((gi, Obj.cells (inA x) 42 (0, 0)) :: (N ++ ((w.heap.size, Obj.cells (txA ⟨r, some ad, n1, c1, A2, n2, c2⟩) 26 (0, 0)) :: []))) := EX47.out
      have hone := @EnvC.one _ _ _ hw49
      (refine wpG_op rfl rfl rfl ?_; intro K hK; go_big_quiet_op; go_big_quiet_on)
      (refine wpG_val (v := .pointer (some ⟨gi, 0, none⟩)) rfl rfl (fun u hu => fieldIn_op (k := 0) (off := 0) (ad := ⟨gi, 0, none⟩) rfl u rfl) ?_ hw49; intro K hK; go_big_quiet_op; go_big_quiet_on)
      (refine wpG_val (v := .slice (some ⟨gi, 0, none⟩) 32 32) rfl rfl (fun u hu => sliceArr_op u rfl) ?_ hw49; intro K hK; go_big_quiet_op; go_big_quiet_on)
      clear hone hw49
      refine wpG_nil ?_
      refine (hOp_own (gd := none) (R := GrownB w (xs ++ x.tx) [(gi, Obj.cells (inA x) 42 (0, 0)), (w.heap.size, Obj.cells (txA ⟨r, some ad, n1, c1, A2, n2, c2⟩) 26 (0, 0))]) rfl rfl rfl rfl (fun u hu => appB_op (m := 32) [(gi, Obj.cells (inA x) 42 (0, 0)), (w.heap.size, Obj.cells (txA ⟨r, some ad, n1, c1, A2, n2, c2⟩) 26 (0, 0))] hu HX.out HF.out (fun y hy => ⟨List.mem_cons_of_mem _ (List.mem_append_left _ hy), (HN.out y hy).1⟩) (src_box hu (List.Mem.head _) (src_in_tx HX.out)) (List.forall_mem_cons.2 ⟨⟨List.Mem.head _, HNG.out⟩, fun z hz => ⟨List.mem_cons_of_mem _ (List.mem_append_right _ hz), fun y hy => (HN.out y hy).2 z hz⟩⟩) (by have := HSL.out; omega) rfl rfl) ?_)
      rintro x7 M' ⟨N7, rfl, hF9, hn9⟩ he50; intro K' hK'; go_big_quiet_op; go_big_quiet_on
      have HN7F := Lib.hid hF9
      have HN7N := Lib.hid hn9
      clear hF9 hn9
      change lexH _ _ _ _ _ _ (N7 ++ ((gi, Obj.cells (inA x) 42 (0, 0)) :: ((w.heap.size, Obj.cells (txA ⟨r, some ad, n1, c1, A2, n2, c2⟩) 26 (0, 0)) :: [])))
      refine lexH_phase [4] [] ?_
      have hw51 : EnvX w _ (N7 ++ ((gi, Obj.cells (inA x) 42 (0, 0)) :: ((w.heap.size, Obj.cells (txA ⟨r, some ad, n1, c1, A2, n2, c2⟩) 26 (0, 0)) :: []))) := he50.choose_spec
      have hone := @EnvC.one _ _ _ hw51
      (refine wpG_op rfl rfl rfl ?_; intro K hK; go_big_quiet_op; go_big_quiet_on)
      clear hone hw51
      refine wpG_nil ?_
      intro u53 E2'
      have EX52 := Lib.hid E2'
      clear E2'
      have HS2 : Hid ((xs ++ x.tx).length ≤ 1100) := by show _ ≤ _; rw [List.length_append]; have := HSL.out; have h2 : x.tx.length = 32 := HX.out; omega
      go_upto_region 8 with (fail)
      refine wp_region_Hx (w0 := w) [0, 1, 2, 3, 4, 5, 6] (N7 ++ ((gi, Obj.cells (inA x) 42 (0, 0)) :: ((w.heap.size, Obj.cells (txA ⟨r, some ad, n1, c1, A2, n2, c2⟩) 26 (0, 0)) :: []))) rfl EX52.out ?_
      refine lexH_phase [0, 1, 2, 3] [4, 5, 6] ?_
      have hw54 : EnvX w _ (N7 ++ ((gi, Obj.cells (inA x) 42 (0, 0)) :: ((w.heap.size, Obj.cells (txA ⟨r, some ad, n1, c1, A2, n2, c2⟩) 26 (0, 0)) :: []))) := EX52.out
      have hone := @EnvC.one _ _ _ hw54
      (refine wpG_op rfl rfl rfl ?_; intro K hK; go_big_quiet_op; go_big_quiet_on)
      (refine wpG_val (v := .pointer (some ⟨gi, 32, none⟩)) rfl rfl (fun u hu => fieldIn_op (k := 1) (off := 32) (ad := ⟨gi, 0, none⟩) rfl u rfl) ?_ hw54; intro K hK; go_big_quiet_op; go_big_quiet_on)
      (refine wpG_val (v := .int .i64 x.i) rfl rfl (fun u hu => load_any_op u (box_in_i hu (List.mem_append_right _ (List.Mem.head _)) HX.out) rfl) ?_ hw54; intro K hK; go_big_quiet_op; go_big_quiet_on)
      (refine wpG_val (v := .int .u64 ((x.i.toNat : Nat) : Int)) rfl rfl (fun u hu => conv_u64_op u CI.out rfl) ?_ hw54; intro K hK; go_big_quiet_op; go_big_quiet_on)
      clear hone hw54
      refine wpG_nil ?_
      refine (hOp_fresh (R := FreshR 5 1 1 ((putL x.i.toNat 1).map u8v)) (M0 := (N7 ++ ((gi, Obj.cells (inA x) 42 (0, 0)) :: ((w.heap.size, Obj.cells (txA ⟨r, some ad, n1, c1, A2, n2, c2⟩) 26 (0, 0)) :: [])))) rfl rfl (fun _ h => h) (fun u hu => FAt_call (fid := 52) (xs := #[.tmp 31, .const (Value.int IntKind.i64 1)]) (args := #[.int .u64 ((x.i.toNat : Nat) : Int), .int .i64 ((1 : Nat) : Int)]) rfl Tryd.func52 rfl rfl u (by have h := callsR_fresh (HPT.out x.i.toNat 1 HIB.out (by decide) u); rw [putL_len] at h; exact h)) ?_)
      rintro xp Np hF hf he55; intro K' hK'; go_big_quiet_op; go_big_quiet_on
      obtain ⟨g8, cap8, cur8, rfl, rfl, hcp⟩ | ⟨_, _, h0, _⟩ := hF
      case inr => cases h0
      have HC_g8 := Lib.hid hcp
      clear hcp
      clear hf
      change lexH _ _ _ _ _ _ ((g8, Obj.cells cur8 5 (0, 0)) :: (N7 ++ ((gi, Obj.cells (inA x) 42 (0, 0)) :: ((w.heap.size, Obj.cells (txA ⟨r, some ad, n1, c1, A2, n2, c2⟩) 26 (0, 0)) :: []))))
      refine (hOp_own (gd := none) (R := GrownB w ((xs ++ x.tx) ++ putL x.i.toNat 1) [(w.heap.size, Obj.cells (txA ⟨r, some ad, n1, c1, A2, n2, c2⟩) 26 (0, 0))]) rfl rfl rfl rfl (fun u hu => appB_op (m := 1) [(w.heap.size, Obj.cells (txA ⟨r, some ad, n1, c1, A2, n2, c2⟩) 26 (0, 0))] hu (putL_len _ _) HN7F.out (fun y hy => ⟨List.mem_cons_of_mem _ (List.mem_append_left _ hy), (HN7N.out y hy).1⟩) (src_fresh hu (List.Mem.head _) (putL_len _ _) HC_g8.out.2.2.2) (fun z hz => ⟨List.mem_cons_of_mem _ (List.mem_append_right _ (List.mem_cons_of_mem _ hz)), fun y hy => (HN7N.out y hy).2 z (List.mem_cons_of_mem _ hz)⟩) (by have := HS2.out; omega) rfl rfl) ?_)
      rintro x8 M' ⟨N8, rfl, hF9, hn9⟩ he56; intro K' hK'; go_big_quiet_op; go_big_quiet_on
      have HN8F := Lib.hid hF9
      have HN8N := Lib.hid hn9
      clear hF9 hn9
      change lexH _ _ _ _ _ _ (N8 ++ ((w.heap.size, Obj.cells (txA ⟨r, some ad, n1, c1, A2, n2, c2⟩) 26 (0, 0)) :: []))
      refine lexH_phase [6] [] ?_
      have hw57 : EnvX w _ (N8 ++ ((w.heap.size, Obj.cells (txA ⟨r, some ad, n1, c1, A2, n2, c2⟩) 26 (0, 0)) :: [])) := he56.choose_spec
      have hone := @EnvC.one _ _ _ hw57
      (refine wpG_op rfl rfl rfl ?_; intro K hK; go_big_quiet_op; go_big_quiet_on)
      clear hone hw57
      refine wpG_nil ?_
      intro u59 E2'
      have EX58 := Lib.hid E2'
      clear E2'
      have HNX : Hid (BInv w [(w.heap.size, Obj.cells (txA ⟨r, some ad, n1, c1, A2, n2, c2⟩) 26 (0, 0))] (insB r.ins (i + 1)) x8 u59) := ⟨N8, by rw [HST.out]; exact HN8F.out, HN8N.out, EX58.out⟩
      have hin := HI.out
      have hn3 := HN3.out.1
      go_wp2
      go_roundw
      case rel => exact ⟨i + 1, by omega, by go_num, HNX⟩
      case measure => simp [intOf]; omega
    · obtain rfl : i = n1 := by omega
      have C4 : Hid (decide ((i : Int) < (i : Int)) = false) := decide_eq_false (by omega)
      have HS0 : Hid ((insB r.ins i).length ≤ 1000) := by have h1 : (insB r.ins i).length ≤ 1 + 33 * r.ins.length := insB_le HT.out.o1 i; rw [HL.out.1] at h1; have := HN3.out.1; show _ ≤ _; omega
      have HO0 : Hid (insB r.ins i ++ putL n2 1 = outsB r 0) := by
        show _ = _
        have h1 := HL.out.1
        have h2 := HL.out.2
        rw [putL_oneN (by have := HN3.out.2; omega)]
        unfold outsB
        rw [h1, h2, List.take_zero, List.map_nil, List.flatten_nil, List.append_nil]
      generalize insB r.ins i = xs at *
      go_upto_region 5 with (fail)
      refine wp_region_Hx (w0 := w) [0] (N ++ ((w.heap.size, Obj.cells (txA ⟨r, A1, i, c1, A2, n2, c2⟩) 26 (0, 0)) :: [])) rfl EK.out ?_
      refine lexH_phase [0] [] ?_
      have hw141 : EnvX w _ (N ++ ((w.heap.size, Obj.cells (txA ⟨r, A1, i, c1, A2, n2, c2⟩) 26 (0, 0)) :: [])) := EK.out
      have hone := @EnvC.one _ _ _ hw141
      (refine wpG_val (v := .bool false) rfl rfl (fun u hu => ltZ_op u C4.out rfl rfl) ?_ hw141; intro K hK; go_big_quiet_op; go_big_quiet_on)
      clear hone hw141
      refine wpG_nil ?_
      intro u143 E2'
      have EX142 := Lib.hid E2'
      clear E2'
      go_upto_region 10 with (fail)
      refine wp_region_Hx (w0 := w) [0, 1, 2, 3, 4, 5, 6, 7] (N ++ ((w.heap.size, Obj.cells (txA ⟨r, A1, i, c1, A2, n2, c2⟩) 26 (0, 0)) :: [])) rfl EX142.out ?_
      refine lexH_phase [0, 1, 2, 3, 4] [5, 6, 7] ?_
      have hw144 : EnvX w _ (N ++ ((w.heap.size, Obj.cells (txA ⟨r, A1, i, c1, A2, n2, c2⟩) 26 (0, 0)) :: [])) := EX142.out
      have hone := @EnvC.one _ _ _ hw144
      (refine wpG_op rfl rfl rfl ?_; intro K hK; go_big_quiet_op; go_big_quiet_on)
      (refine wpG_val (v := .pointer (some ⟨w.heap.size, 1, none⟩)) rfl rfl (fun u hu => fieldTx_op (k := 1) (off := 1) (ad := ⟨w.heap.size, 0, none⟩) rfl u rfl) ?_ hw144; intro K hK; go_big_quiet_op; go_big_quiet_on)
      (refine wpG_val (v := .slice A2 n2 c2) rfl rfl (fun u hu => load_any_op u (box_tx_outs hu (List.mem_append_right _ (List.Mem.head _))) rfl) ?_ hw144; intro K hK; go_big_quiet_op; go_big_quiet_on)
      (refine wpG_val (v := .int .i64 (n2 : Int)) rfl rfl (fun u hu => len_op Tryd.underlying24 HN63.out.2 u rfl) ?_ hw144; intro K hK; go_big_quiet_op; go_big_quiet_on)
      (refine wpG_val (v := .int .u64 ((n2 : Nat) : Int)) rfl rfl (fun u hu => conv_u64_op u CN2.out rfl) ?_ hw144; intro K hK; go_big_quiet_op; go_big_quiet_on)
      clear hone hw144
      refine wpG_nil ?_
      refine (hOp_fresh (R := FreshR 5 1 1 ((putL n2 1).map u8v)) (M0 := (N ++ ((w.heap.size, Obj.cells (txA ⟨r, A1, i, c1, A2, n2, c2⟩) 26 (0, 0)) :: []))) rfl rfl (fun _ h => h) (fun u hu => FAt_call (fid := 52) (xs := #[.tmp 39, .const (Value.int IntKind.i64 1)]) (args := #[.int .u64 ((n2 : Nat) : Int), .int .i64 ((1 : Nat) : Int)]) rfl Tryd.func52 rfl rfl u (by have h := callsR_fresh (HPT.out n2 1 (by have := HN3.out.2; omega) (by decide) u); rw [putL_len] at h; exact h)) ?_)
      rintro xp Np hF hf he145; intro K' hK'; go_big_quiet_op; go_big_quiet_on
      obtain ⟨g10, cap10, cur10, rfl, rfl, hcp⟩ | ⟨_, _, h0, _⟩ := hF
      case inr => cases h0
      have HC_g10 := Lib.hid hcp
      clear hcp
      clear hf
      change lexH _ _ _ _ _ _ ((g10, Obj.cells cur10 5 (0, 0)) :: (N ++ ((w.heap.size, Obj.cells (txA ⟨r, A1, i, c1, A2, n2, c2⟩) 26 (0, 0)) :: [])))
      refine (hOp_own (gd := none) (R := GrownB w (xs ++ putL n2 1) [(w.heap.size, Obj.cells (txA ⟨r, A1, i, c1, A2, n2, c2⟩) 26 (0, 0))]) rfl rfl rfl rfl (fun u hu => appB_op (m := 1) [(w.heap.size, Obj.cells (txA ⟨r, A1, i, c1, A2, n2, c2⟩) 26 (0, 0))] hu (putL_len _ _) HF.out (fun y hy => ⟨List.mem_cons_of_mem _ (List.mem_append_left _ hy), (HN.out y hy).1⟩) (src_fresh hu (List.Mem.head _) (putL_len _ _) HC_g10.out.2.2.2) (fun z hz => ⟨List.mem_cons_of_mem _ (List.mem_append_right _ hz), fun y hy => (HN.out y hy).2 z hz⟩) (by have := HS0.out; omega) rfl rfl) ?_)
      rintro x10 M' ⟨N10, rfl, hF9, hn9⟩ he146; intro K' hK'; go_big_quiet_op; go_big_quiet_on
      have HN10F := Lib.hid hF9
      have HN10N := Lib.hid hn9
      clear hF9 hn9
      change lexH _ _ _ _ _ _ (N10 ++ ((w.heap.size, Obj.cells (txA ⟨r, A1, i, c1, A2, n2, c2⟩) 26 (0, 0)) :: []))
      refine lexH_phase [7] [] ?_
      have hw147 : EnvX w _ (N10 ++ ((w.heap.size, Obj.cells (txA ⟨r, A1, i, c1, A2, n2, c2⟩) 26 (0, 0)) :: [])) := he146.choose_spec
      have hone := @EnvC.one _ _ _ hw147
      (refine wpG_op rfl rfl rfl ?_; intro K hK; go_big_quiet_op; go_big_quiet_on)
      clear hone hw147
      refine wpG_nil ?_
      intro u149 E2'
      have EX148 := Lib.hid E2'
      clear E2'
      go_upto_region 11 with (fail)
      refine wp_region_Hx (w0 := w) [0, 1, 2, 3] (N10 ++ ((w.heap.size, Obj.cells (txA ⟨r, A1, i, c1, A2, n2, c2⟩) 26 (0, 0)) :: [])) rfl EX148.out ?_
      refine lexH_phase [0, 1, 2, 3] [] ?_
      have hw150 : EnvX w _ (N10 ++ ((w.heap.size, Obj.cells (txA ⟨r, A1, i, c1, A2, n2, c2⟩) 26 (0, 0)) :: [])) := EX148.out
      have hone := @EnvC.one _ _ _ hw150
      (refine wpG_val (v := .pointer (some ⟨w.heap.size, 1, none⟩)) rfl rfl (fun u hu => fieldTx_op (k := 1) (off := 1) (ad := ⟨w.heap.size, 0, none⟩) rfl u rfl) ?_ hw150; intro K hK; go_big_quiet_op; go_big_quiet_on)
      (refine wpG_val (v := .slice A2 n2 c2) rfl rfl (fun u hu => load_any_op u (box_tx_outs hu (List.mem_append_right _ (List.Mem.head _))) rfl) ?_ hw150; intro K hK; go_big_quiet_op; go_big_quiet_on)
      (refine wpG_val (v := .int .i64 (n2 : Int)) rfl rfl (fun u hu => len_op Tryd.underlying24 HN63.out.2 u rfl) ?_ hw150; intro K hK; go_big_quiet_op; go_big_quiet_on)
      (refine wpG_op rfl rfl rfl ?_; intro K hK; go_big_quiet_op; go_big_quiet_on)
      clear hone hw150
      refine wpG_nil ?_
      intro u152 E2'
      have EX151 := Lib.hid E2'
      clear E2'
      have HIN : Hid (BInv w [(w.heap.size, Obj.cells (txA ⟨r, A1, i, c1, A2, n2, c2⟩) 26 (0, 0))] (outsB r 0) x10 u152) := ⟨N10, by rw [← HO0.out]; exact HN10F.out, HN10N.out, EX151.out⟩
      clear EX151 EK HN10F HN10N HF HN
      go_upto_region 12 with (fail)
      go_loopw [4, 45] (fun v iv u => ∃ j : Nat, j ≤ n2 ∧ iv = .int .i64 (j : Int) ∧ Hid (BInv w [(w.heap.size, Obj.cells (txA ⟨r, A1, i, c1, A2, n2, c2⟩) 26 (0, 0))] (outsB r j) v u)) (fun _ iv _ => n2 - (intOf iv).toNat)
      case atStart => exact ⟨0, by omega, rfl, HIN⟩
      case round =>
        obtain ⟨j, hj, rfl, hinv⟩ := hrel
        obtain ⟨N, hF, hN, hE⟩ := hinv.out
        have HF := Lib.hid hF
        have HN := Lib.hid hN
        have EK := Lib.hid hE
        clear hinv HIN hF hN hE
        by_cases hlt : j < n2
        · have C12 : Hid (decide ((j : Int) < (n2 : Int)) = true) := decide_eq_true (by omega)
          have HJ := Lib.hid hlt
          have hjl : j < r.outs.length := by rw [HL.out.2]; exact hlt
          obtain ⟨ad, rfl, -, hld⟩ := HT.out.m2.loads hjl
          have HLD := Lib.hid hld
          have hmem : r.outs.getD j noOut ∈ r.outs := getD_mem r.outs noOut hjl
          have hb := HM5.out _ hmem
          have HSL : Hid ((outsB r j).length ≤ 1000) := by have h1 : (outsB r j).length ≤ 2 + 33 * r.ins.length + 7 * r.outs.length := outsB_le HOK.out j; rw [HL.out.1, HL.out.2] at h1; have := HN3.out; show _ ≤ _; omega
          have CT : Hid (IntKind.u64.wrap (r.outs.getD j noOut).to = (((r.outs.getD j noOut).to.toNat : Nat) : Int)) := by show _ = _; rw [IntKind.wrap_u64]; omega
          have CV : Hid (IntKind.u64.wrap (r.outs.getD j noOut).v = (((r.outs.getD j noOut).v.toNat : Nat) : Int)) := by show _ = _; rw [IntKind.wrap_u64]; omega
          have HB2 : Hid ((r.outs.getD j noOut).v.toNat < 18446744073709551616 ∧ (r.outs.getD j noOut).to.toNat < 18446744073709551616) := by show _ ∧ _; omega
          have HST : Hid (outsB r (j + 1) = outsB r j ++ putL (r.outs.getD j noOut).v.toNat 6 ++ putL (r.outs.getD j noOut).to.toNat 1) := by show _ = _; rw [putL_one (by omega)]; exact outsB_step hjl
          clear hld hjl hmem hb
          generalize r.outs.getD j noOut = x at *
          generalize outsB r j = xs at *
          go_upto_region 12 with (fail)
          refine wp_region_Hx (w0 := w) [0] (N ++ ((w.heap.size, Obj.cells (txA ⟨r, A1, i, c1, some ad, n2, c2⟩) 26 (0, 0)) :: [])) rfl EK.out ?_
          refine lexH_phase [0] [] ?_
          have hw241 : EnvX w _ (N ++ ((w.heap.size, Obj.cells (txA ⟨r, A1, i, c1, some ad, n2, c2⟩) 26 (0, 0)) :: [])) := EK.out
          have hone := @EnvC.one _ _ _ hw241
          (refine wpG_val (v := .bool true) rfl rfl (fun u hu => ltZ_op u C12.out rfl rfl) ?_ hw241; intro K hK; go_big_quiet_op; go_big_quiet_on)
          clear hone hw241
          refine wpG_nil ?_
          intro u243 E2'
          have EX242 := Lib.hid E2'
          clear E2'
          go_upto_region 13 with (fail)
          refine wp_region_Hx (w0 := w) [0, 1, 2, 3] (N ++ ((w.heap.size, Obj.cells (txA ⟨r, A1, i, c1, some ad, n2, c2⟩) 26 (0, 0)) :: [])) rfl EX242.out ?_
          refine lexH_phase [0, 1] [2, 3] ?_
          have hw244 : EnvX w _ (N ++ ((w.heap.size, Obj.cells (txA ⟨r, A1, i, c1, some ad, n2, c2⟩) 26 (0, 0)) :: [])) := EX242.out
          have hone := @EnvC.one _ _ _ hw244
          (refine wpG_val (v := .pointer (some (ad.add (j * 2)))) rfl rfl (fun u hu => idxSl_op (i := j) Tryd.underlying24 aggOut.size HJ.out u rfl rfl) ?_ hw244; intro K hK; go_big_quiet_op; go_big_quiet_on)
          (refine wpG_val (v := outV x) rfl rfl (fun u hu => load_any_op u (HLD.out u (EnvX.sub hu (fun _ h => by cases h))).1 rfl) ?_ hw244; intro K hK; go_big_quiet_op; go_big_quiet_on)
          clear hone hw244
          refine wpG_nil ?_
          refine (hOp_fresh (R := fun x N => ∃ g, x = .pointer (some ⟨g, 0, none⟩) ∧ N = [(g, Obj.cells (outA noOut) 48 (0, 0))]) (M0 := (N ++ ((w.heap.size, Obj.cells (txA ⟨r, A1, i, c1, some ad, n2, c2⟩) 26 (0, 0)) :: []))) rfl rfl (fun _ h => h) (fun u hu => FAt_new (new_out _) u) ?_)
          rintro _ _ ⟨gi, rfl, rfl⟩ hf he245; intro K' hK'; go_big_quiet_op; go_big_quiet_on
          have HG6 := Lib.hid (hf _ (List.mem_singleton.2 rfl))
          clear hf
          change lexH _ _ _ _ _ _ ((gi, Obj.cells (outA noOut) 48 (0, 0)) :: (N ++ ((w.heap.size, Obj.cells (txA ⟨r, A1, i, c1, some ad, n2, c2⟩) 26 (0, 0)) :: [])))
          refine (hOp_store rfl (gi) (outA x) rfl rfl HG6.out.1 48 ((outA noOut)) (List.Mem.head _) (infoOut _ (outA_size _)) rfl (outA_one _) ((gi, Obj.cells (outA x) 48 (0, 0)) :: (N ++ ((w.heap.size, Obj.cells (txA ⟨r, A1, i, c1, some ad, n2, c2⟩) 26 (0, 0)) :: []))) (List.forall_mem_cons.2 ⟨.inl rfl, fun y hy => .inr ⟨List.mem_cons_of_mem _ hy, HG6.out.2 y hy⟩⟩) ?_)
          intro he246
          intro u248 E2'
          have EX247 := Lib.hid E2'
          clear E2'
          have HNG : Hid (∀ y ∈ N, gi ≠ y.1) := fun y hy e => HG6.out.2 y (List.mem_append_left _ hy) e.symm
          go_upto_region 14 with (fail)
          refine wp_region_Hx (w0 := w) [0, 1, 2, 3, 4, 5, 6] ((gi, Obj.cells (outA x) 48 (0, 0)) :: (N ++ ((w.heap.size, Obj.cells (txA ⟨r, A1, i, c1, some ad, n2, c2⟩) 26 (0, 0)) :: []))) rfl EX247.out ?_
          refine lexH_phase [0, 1, 2, 3] [4, 5, 6] ?_
          have hw249 : EnvX w _ ((gi, Obj.cells (outA x) 48 (0, 0)) :: (N ++ ((w.heap.size, Obj.cells (txA ⟨r, A1, i, c1, some ad, n2, c2⟩) 26 (0, 0)) :: []))) := EX247.out
          have hone := @EnvC.one _ _ _ hw249
          (refine wpG_op rfl rfl rfl ?_; intro K hK; go_big_quiet_op; go_big_quiet_on)
          (refine wpG_val (v := .pointer (some ⟨gi, 0, none⟩)) rfl rfl (fun u hu => fieldOut_op (k := 0) (off := 0) (ad := ⟨gi, 0, none⟩) rfl u rfl) ?_ hw249; intro K hK; go_big_quiet_op; go_big_quiet_on)
          (refine wpG_val (v := .int .i64 x.v) rfl rfl (fun u hu => load_any_op u (box_out_v hu (List.Mem.head _)) rfl) ?_ hw249; intro K hK; go_big_quiet_op; go_big_quiet_on)
          (refine wpG_val (v := .int .u64 ((x.v.toNat : Nat) : Int)) rfl rfl (fun u hu => conv_u64_op u CV.out rfl) ?_ hw249; intro K hK; go_big_quiet_op; go_big_quiet_on)
          clear hone hw249
          refine wpG_nil ?_
          refine (hOp_fresh (R := FreshR 5 1 6 ((putL x.v.toNat 6).map u8v)) (M0 := ((gi, Obj.cells (outA x) 48 (0, 0)) :: (N ++ ((w.heap.size, Obj.cells (txA ⟨r, A1, i, c1, some ad, n2, c2⟩) 26 (0, 0)) :: [])))) rfl rfl (fun _ h => h) (fun u hu => FAt_call (fid := 52) (xs := #[.tmp 52, .const (Value.int IntKind.i64 6)]) (args := #[.int .u64 ((x.v.toNat : Nat) : Int), .int .i64 ((6 : Nat) : Int)]) rfl Tryd.func52 rfl rfl u (by have h := callsR_fresh (HPT.out x.v.toNat 6 HB2.out.1 (by decide) u); rw [putL_len] at h; exact h)) ?_)
          rintro xp Np hF hf he250; intro K' hK'; go_big_quiet_op; go_big_quiet_on
          obtain ⟨g14, cap14, cur14, rfl, rfl, hcp⟩ | ⟨_, _, h0, _⟩ := hF
          case inr => cases h0
          have HC_g14 := Lib.hid hcp
          clear hcp
          clear hf
          change lexH _ _ _ _ _ _ ((g14, Obj.cells cur14 5 (0, 0)) :: ((gi, Obj.cells (outA x) 48 (0, 0)) :: (N ++ ((w.heap.size, Obj.cells (txA ⟨r, A1, i, c1, some ad, n2, c2⟩) 26 (0, 0)) :: []))))
          refine (hOp_own (gd := none) (R := GrownB w (xs ++ putL x.v.toNat 6) [(gi, Obj.cells (outA x) 48 (0, 0)), (w.heap.size, Obj.cells (txA ⟨r, A1, i, c1, some ad, n2, c2⟩) 26 (0, 0))]) rfl rfl rfl rfl (fun u hu => appB_op (m := 6) [(gi, Obj.cells (outA x) 48 (0, 0)), (w.heap.size, Obj.cells (txA ⟨r, A1, i, c1, some ad, n2, c2⟩) 26 (0, 0))] hu (putL_len _ _) HF.out (fun y hy => ⟨List.mem_cons_of_mem _ (List.mem_cons_of_mem _ (List.mem_append_left _ hy)), (HN.out y hy).1⟩) (src_fresh hu (List.Mem.head _) (putL_len _ _) HC_g14.out.2.2.2) (List.forall_mem_cons.2 ⟨⟨List.mem_cons_of_mem _ (List.Mem.head _), HNG.out⟩, fun z hz => ⟨List.mem_cons_of_mem _ (List.mem_cons_of_mem _ (List.mem_append_right _ hz)), fun y hy => (HN.out y hy).2 z hz⟩⟩) (by have := HSL.out; omega) rfl rfl) ?_)
          rintro x14 M' ⟨N14, rfl, hF9, hn9⟩ he251; intro K' hK'; go_big_quiet_op; go_big_quiet_on
          have HN14F := Lib.hid hF9
          have HN14N := Lib.hid hn9
          clear hF9 hn9
          change lexH _ _ _ _ _ _ (N14 ++ ((gi, Obj.cells (outA x) 48 (0, 0)) :: ((w.heap.size, Obj.cells (txA ⟨r, A1, i, c1, some ad, n2, c2⟩) 26 (0, 0)) :: [])))
          refine lexH_phase [6] [] ?_
          have hw252 : EnvX w _ (N14 ++ ((gi, Obj.cells (outA x) 48 (0, 0)) :: ((w.heap.size, Obj.cells (txA ⟨r, A1, i, c1, some ad, n2, c2⟩) 26 (0, 0)) :: []))) := he251.choose_spec
          have hone := @EnvC.one _ _ _ hw252
          (refine wpG_op rfl rfl rfl ?_; intro K hK; go_big_quiet_op; go_big_quiet_on)
          clear hone hw252
          refine wpG_nil ?_
          intro u254 E2'
          have EX253 := Lib.hid E2'
          clear E2'
          have HS2 : Hid ((xs ++ putL x.v.toNat 6).length ≤ 1100) := by show _ ≤ _; rw [List.length_append, putL_len]; have := HSL.out; omega
          go_upto_region 15 with (fail)
          refine wp_region_Hx (w0 := w) [0, 1, 2, 3, 4, 5, 6] (N14 ++ ((gi, Obj.cells (outA x) 48 (0, 0)) :: ((w.heap.size, Obj.cells (txA ⟨r, A1, i, c1, some ad, n2, c2⟩) 26 (0, 0)) :: []))) rfl EX253.out ?_
          refine lexH_phase [0, 1, 2, 3] [4, 5, 6] ?_
          have hw255 : EnvX w _ (N14 ++ ((gi, Obj.cells (outA x) 48 (0, 0)) :: ((w.heap.size, Obj.cells (txA ⟨r, A1, i, c1, some ad, n2, c2⟩) 26 (0, 0)) :: []))) := EX253.out
          have hone := @EnvC.one _ _ _ hw255
          (refine wpG_op rfl rfl rfl ?_; intro K hK; go_big_quiet_op; go_big_quiet_on)
          (refine wpG_val (v := .pointer (some ⟨gi, 1, none⟩)) rfl rfl (fun u hu => fieldOut_op (k := 1) (off := 1) (ad := ⟨gi, 0, none⟩) rfl u rfl) ?_ hw255; intro K hK; go_big_quiet_op; go_big_quiet_on)
          (refine wpG_val (v := .int .i64 x.to) rfl rfl (fun u hu => load_any_op u (box_out_to hu (List.mem_append_right _ (List.Mem.head _))) rfl) ?_ hw255; intro K hK; go_big_quiet_op; go_big_quiet_on)
          (refine wpG_val (v := .int .u64 ((x.to.toNat : Nat) : Int)) rfl rfl (fun u hu => conv_u64_op u CT.out rfl) ?_ hw255; intro K hK; go_big_quiet_op; go_big_quiet_on)
          clear hone hw255
          refine wpG_nil ?_
          refine (hOp_fresh (R := FreshR 5 1 1 ((putL x.to.toNat 1).map u8v)) (M0 := (N14 ++ ((gi, Obj.cells (outA x) 48 (0, 0)) :: ((w.heap.size, Obj.cells (txA ⟨r, A1, i, c1, some ad, n2, c2⟩) 26 (0, 0)) :: [])))) rfl rfl (fun _ h => h) (fun u hu => FAt_call (fid := 52) (xs := #[.tmp 58, .const (Value.int IntKind.i64 1)]) (args := #[.int .u64 ((x.to.toNat : Nat) : Int), .int .i64 ((1 : Nat) : Int)]) rfl Tryd.func52 rfl rfl u (by have h := callsR_fresh (HPT.out x.to.toNat 1 HB2.out.2 (by decide) u); rw [putL_len] at h; exact h)) ?_)
          rintro xp Np hF hf he256; intro K' hK'; go_big_quiet_op; go_big_quiet_on
          obtain ⟨g15, cap15, cur15, rfl, rfl, hcp⟩ | ⟨_, _, h0, _⟩ := hF
          case inr => cases h0
          have HC_g15 := Lib.hid hcp
          clear hcp
          clear hf
          change lexH _ _ _ _ _ _ ((g15, Obj.cells cur15 5 (0, 0)) :: (N14 ++ ((gi, Obj.cells (outA x) 48 (0, 0)) :: ((w.heap.size, Obj.cells (txA ⟨r, A1, i, c1, some ad, n2, c2⟩) 26 (0, 0)) :: []))))
          refine (hOp_own (gd := none) (R := GrownB w ((xs ++ putL x.v.toNat 6) ++ putL x.to.toNat 1) [(w.heap.size, Obj.cells (txA ⟨r, A1, i, c1, some ad, n2, c2⟩) 26 (0, 0))]) rfl rfl rfl rfl (fun u hu => appB_op (m := 1) [(w.heap.size, Obj.cells (txA ⟨r, A1, i, c1, some ad, n2, c2⟩) 26 (0, 0))] hu (putL_len _ _) HN14F.out (fun y hy => ⟨List.mem_cons_of_mem _ (List.mem_append_left _ hy), (HN14N.out y hy).1⟩) (src_fresh hu (List.Mem.head _) (putL_len _ _) HC_g15.out.2.2.2) (fun z hz => ⟨List.mem_cons_of_mem _ (List.mem_append_right _ (List.mem_cons_of_mem _ hz)), fun y hy => (HN14N.out y hy).2 z (List.mem_cons_of_mem _ hz)⟩) (by have := HS2.out; omega) rfl rfl) ?_)
          rintro x15 M' ⟨N15, rfl, hF9, hn9⟩ he257; intro K' hK'; go_big_quiet_op; go_big_quiet_on
          have HN15F := Lib.hid hF9
          have HN15N := Lib.hid hn9
          clear hF9 hn9
          change lexH _ _ _ _ _ _ (N15 ++ ((w.heap.size, Obj.cells (txA ⟨r, A1, i, c1, some ad, n2, c2⟩) 26 (0, 0)) :: []))
          refine lexH_phase [6] [] ?_
          have hw258 : EnvX w _ (N15 ++ ((w.heap.size, Obj.cells (txA ⟨r, A1, i, c1, some ad, n2, c2⟩) 26 (0, 0)) :: [])) := he257.choose_spec
          have hone := @EnvC.one _ _ _ hw258
          (refine wpG_op rfl rfl rfl ?_; intro K hK; go_big_quiet_op; go_big_quiet_on)
          clear hone hw258
          refine wpG_nil ?_
          intro u260 E2'
          have EX259 := Lib.hid E2'
          clear E2'
          have HNX : Hid (BInv w [(w.heap.size, Obj.cells (txA ⟨r, A1, i, c1, some ad, n2, c2⟩) 26 (0, 0))] (outsB r (j + 1)) x15 u260) := ⟨N15, by rw [HST.out]; exact HN15F.out, HN15N.out, EX259.out⟩
          have hjn := HJ.out
          have hn3 := HN3.out.2
          go_wp2
          go_roundw
          case rel => exact ⟨j + 1, by omega, by go_num, HNX⟩
          case measure => simp [intOf]; omega
        · obtain rfl : j = n2 := by omega
          have C12 : Hid (decide ((j : Int) < (j : Int)) = false) := decide_eq_false (by omega)
          have hall : outsB r j = bodyX r := by rw [← HL.out.2]; exact outsB_all r
          rw [hall] at HF
          clear hall
          go_upto_region 12 with (fail)
          refine wp_region_Hx (w0 := w) [0] (N ++ ((w.heap.size, Obj.cells (txA ⟨r, A1, i, c1, A2, j, c2⟩) 26 (0, 0)) :: [])) rfl EK.out ?_
          refine lexH_phase [0] [] ?_
          have hw441 : EnvX w _ (N ++ ((w.heap.size, Obj.cells (txA ⟨r, A1, i, c1, A2, j, c2⟩) 26 (0, 0)) :: [])) := EK.out
          have hone := @EnvC.one _ _ _ hw441
          (refine wpG_val (v := .bool false) rfl rfl (fun u hu => ltZ_op u C12.out rfl rfl) ?_ hw441; intro K hK; go_big_quiet_op; go_big_quiet_on)
          clear hone hw441
          refine wpG_nil ?_
          intro u443 E2'
          have EX442 := Lib.hid E2'
          clear E2'
          go_upto_region 17 with (fail)
          refine wp_region_Hx (w0 := w) [0, 1, 2] (N ++ ((w.heap.size, Obj.cells (txA ⟨r, A1, i, c1, A2, j, c2⟩) 26 (0, 0)) :: [])) rfl EX442.out ?_
          refine lexH_phase [0, 1, 2] [] ?_
          have hw444 : EnvX w _ (N ++ ((w.heap.size, Obj.cells (txA ⟨r, A1, i, c1, A2, j, c2⟩) 26 (0, 0)) :: [])) := EX442.out
          have hone := @EnvC.one _ _ _ hw444
          iterate 3 (refine wpG_op rfl rfl rfl ?_; intro K hK; go_big_quiet_op; go_big_quiet_on)
          clear hone hw444
          refine wpG_nil ?_
          intro u446 E2'
          have EX445 := Lib.hid E2'
          clear E2'
          have HO := Lib.hid (FreshY.own (w := u446) (B := w.heap.size) HF.out (fun y hy => ⟨(HN.out y hy).1, EnvX.box EX445.out _ _ (List.mem_append_left _ hy)⟩))
          have HBE := Lib.hid (EnvX.bel EX445.out)
          go_wp2
          go_returns
          exact ⟨⟨_, rfl, HO.out⟩, HBE.out⟩
theorem putP_any (t : TxM) (w : World) (ht : TxOk w t) :
    Calls Tryd.prog 41 #[txV t] w fun e w' => (∃ v, e = .returned (.tuple #[v, .bool (putX t.r).2]) ∧ OwnB w' w.heap.size v (putX t.r).1) ∧ Below w.heap.size w w' := by
  obtain ⟨r, A1, n1, c1, A2, n2, c2⟩ := t
  cases k1 : mayX r with
  | false => exact pputX_no r A1 n1 c1 A2 n2 c2 w ht k1
  | true => exact pputX_yes r A1 n1 c1 A2 n2 c2 w ht k1
theorem Bytes.first {w : World} {B : Nat} {A : Option Addr} {xs : List Int} (h : Bytes w B A xs) (k : Nat) : Bytes w B A (xs.take k) := by
  intro hp
  obtain ⟨ad, e, hb, hc⟩ := h (by rw [List.length_take] at hp; omega)
  refine ⟨ad, e, hb, fun j v hj => hc j v ?_⟩
  rw [List.map_take, List.getElem?_take] at hj
  split at hj
  · exact hj
  · cases hj
open Go.RowKit Go.Shelf
/-- what a round keeps: whatever lay below n₀, and the box Bb -/
def KpB (n₀ Bb : Nat) (W W' : World) : Prop := Below n₀ W W' ∧ (∀ o, W.heap[Bb]? = some o → W'.heap[Bb]? = some o)
theorem KpB.trans {n₀ Bb : Nat} {A B C : World} (h : KpB n₀ Bb A B) (k : KpB n₀ Bb B C) : KpB n₀ Bb A C := ⟨h.1.trans k.1, fun o ho => k.2 o (h.2 o ho)⟩
set_option maxRecDepth 20000 in
set_option maxHeartbeats 8000000 in
theorem pidX_no (t : TxM) (w : World) (ht : TxOk w t) (htt : Tables w) (k : mayX t.r = false) :
    Calls Tryd.prog 24 #[txV t] w fun e w' => e = .returned (idv (idX t.r)) ∧ Below w.heap.size w w' := by
  have hp : putX t.r = ([], false) := by unfold putX; rw [k]; rfl
  have hi : idX t.r = z32 := by unfold idX; rw [k]; rfl
  rw [hi]
  have HZ : Hid ((arrB 32 z32).size = 32) := arrB_size _ _ (by decide)
  clear k hi
  have HLE : Hid (w.heap.size ≤ w.heap.size + 1) := by show _ ≤ _; omega
  have E1 : Hid (EnvX w ((w.alloc (.cells (txA t) 26)).alloc (.cells (arrB 32 []) 40)) [(w.heap.size + 1, Obj.cells (arrB 32 []) 40 (0, 0)), (w.heap.size, Obj.cells (txA t) 26 (0, 0))]) := (EnvX.start w).two _ _
  have HPT : Hid (∀ u, Below w.heap.size w u → Calls Tryd.prog 41 #[txV t] u fun e w' => (∃ v, e = .returned (.tuple #[v, .bool (putX t.r).2]) ∧ OwnB w' u.heap.size v (putX t.r).1) ∧ Below u.heap.size u w') := fun u hu => putP_any t u (ht.up hu)
  rw [hp] at HPT
  clear hp ht
  unfold txV at *
  go_enter Tryd.func24, Tryd.ntmps24
  go_upto_region 1 with (fail)
  rw [zero_cells]
  generalize (w.alloc (.cells (txA t) 26)).alloc (.cells (arrB 32 []) 40) = W at *
  have HLD : Hid ((loadVar 26 ⟨w.heap.size, 0, none⟩).run Tryd.prog W = .ok (.agg (txA t)) W) := box_tx E1.out (List.Mem.tail _ (List.Mem.head _))
  go_wp2_with ((with_reducible refine wpList_load_run (o := ⟨some 6, _, _, _, _, _⟩) ?_ 26 (.tmp 1) ?_ ⟨w.heap.size, 0, none⟩ ?_ HLD.out ?_); (rfl); (rfl); (rfl))
  refine (HPT.out W (EnvX.bel E1.out)).mono ?_
  rintro e w1 ⟨⟨v, rfl, hv⟩, hb⟩
  have E2 : Hid (EnvX w w1 [(w.heap.size + 1, Obj.cells (arrB 32 []) 40 (0, 0)), (w.heap.size, Obj.cells (txA t) 26 (0, 0))]) := EnvX.below E1.out hb
  clear hv hb E1 HLD htt
  go_upto_region 3 with (fail)
  refine wp_region_Hx (w0 := w) [0, 1] [(w.heap.size + 1, Obj.cells (arrB 32 []) 40 (0, 0)), (w.heap.size, Obj.cells (txA t) 26 (0, 0))] rfl E2.out ?_
  refine lexH_phase [0] [1] ?_
  have hw1 : EnvX w _ [(w.heap.size + 1, Obj.cells (arrB 32 []) 40 (0, 0)), (w.heap.size, Obj.cells (txA t) 26 (0, 0))] := E2.out
  have hone := @EnvC.one _ _ _ hw1
  (refine wpG_val (v := .agg (arrB 32 z32)) rfl rfl (fun u hu => buildA_op u hbuilt0) ?_ hw1; intro K hK; go_big_quiet_op; go_big_quiet_on)
  clear hone hw1
  refine wpG_nil ?_
  refine (hOp_store rfl (w.heap.size + 1) (arrB 32 z32) rfl rfl HLE.out 40 ((arrB 32 [])) (List.Mem.head _) (info26 _ HZ.out) ((arrB_size _ _ (by simp)).trans HZ.out.symm) (arrB_one _ _) [(w.heap.size + 1, Obj.cells (arrB 32 z32) 40 (0, 0))] (List.forall_mem_cons.2 ⟨.inl rfl, (fun _ h => by cases h)⟩) ?_)
  intro he2
  intro u4 E2'
  have EX3 := Lib.hid E2'
  clear E2'
  have Q0 := Lib.hid (EnvX.box EX3.out _ _ (List.Mem.head _))
  have HBEL := Lib.hid EX3.out.bel
  clear EX3
  go_wp2_with ((with_reducible refine bodyPost_ret (v := .agg (arrB 32 z32)) ?_ ?_ ?_); (exact results_cell_row (p := 2) (ty := 40) Tryd.results24 _ _ (w.heap.size + 1) 40 (arrB 32 z32) (0, 0) _ rfl Q0.out Tryd.underlying40 rfl (info26 _ HZ.out)); (rfl))
  exact ⟨rfl, HBEL.out⟩
set_option maxRecDepth 20000 in
set_option maxHeartbeats 8000000 in
theorem pidX_yes (t : TxM) (w : World) (ht : TxOk w t) (htt : Tables w) (k : mayX t.r = true) :
    Calls Tryd.prog 24 #[txV t] w fun e w' => e = .returned (idv (idX t.r)) ∧ Below w.heap.size w w' := by
  have hp : putX t.r = (bodyX t.r, true) := by unfold putX; rw [k]; rfl
  have hi : idX t.r = sumL (6 :: bodyX t.r) := by unfold idX; rw [k]; rfl
  rw [hi]
  obtain ⟨su, hsu⟩ : ∃ su, sumL (6 :: bodyX t.r) = su := ⟨_, rfl⟩
  have HZ : Hid ((arrB 32 su).size = 32) := arrB_size _ _ (by rw [← hsu, sumL_len]; omega)
  have HSU := Lib.hid hsu
  rw [hsu]
  clear hsu
  obtain ⟨m, hm⟩ : ∃ m, (bodyX t.r).length = m := ⟨_, rfl⟩
  have hml : 2 ≤ m ∧ m ≤ 200 := by
    have h1 := bodyX_len ht.ok
    have h2 := mayX_iff.1 k
    omega
  have HBO : Hid ((bodyX t.r).length = m ∧ isB (bodyX t.r)) := ⟨hm, bodyX_byte ht.ok k⟩
  have HML := Lib.hid hml
  clear k hi hm hml
  have HLE : Hid (w.heap.size ≤ w.heap.size + 1) := by show _ ≤ _; omega
  have E1 : Hid (EnvX w ((w.alloc (.cells (txA t) 26)).alloc (.cells (arrB 32 []) 40)) [(w.heap.size + 1, Obj.cells (arrB 32 []) 40 (0, 0)), (w.heap.size, Obj.cells (txA t) 26 (0, 0))]) := (EnvX.start w).two _ _
  have HPT : Hid (∀ u, Below w.heap.size w u → Calls Tryd.prog 41 #[txV t] u fun e w' => (∃ v, e = .returned (.tuple #[v, .bool (putX t.r).2]) ∧ OwnB w' u.heap.size v (putX t.r).1) ∧ Below u.heap.size u w') := fun u hu => putP_any t u (ht.up hu)
  rw [hp] at HPT
  clear hp ht
  unfold txV at *
  go_enter Tryd.func24, Tryd.ntmps24
  go_upto_region 1 with (fail)
  rw [zero_cells]
  generalize (w.alloc (.cells (txA t) 26)).alloc (.cells (arrB 32 []) 40) = W at *
  have HLD : Hid ((loadVar 26 ⟨w.heap.size, 0, none⟩).run Tryd.prog W = .ok (.agg (txA t)) W) := box_tx E1.out (List.Mem.tail _ (List.Mem.head _))
  go_wp2_with ((with_reducible refine wpList_load_run (o := ⟨some 6, _, _, _, _, _⟩) ?_ 26 (.tmp 1) ?_ ⟨w.heap.size, 0, none⟩ ?_ HLD.out ?_); (rfl); (rfl); (rfl))
  refine (HPT.out W (EnvX.bel E1.out)).mono ?_
  rintro e w1 ⟨⟨v, rfl, hv⟩, hb⟩
  obtain ⟨hv1, ⟨_, h0⟩ | ⟨gv, capv, curv, rfl, hg1, hg2, hg3⟩⟩ := hv
  · have := HBO.out.1
    have := HML.out
    have h1 : (bodyX t.r).length = 0 := h0
    omega
  have E2 : Hid (EnvX w w1 [(gv, Obj.cells curv 5 (0, 0)), (w.heap.size + 1, Obj.cells (arrB 32 []) 40 (0, 0)), (w.heap.size, Obj.cells (txA t) 26 (0, 0))]) := ⟨(EnvX.below E1.out hb).bel, fun g o hm => by
    rcases List.mem_cons.1 hm with e | e
    · cases e
      exact hg2
    · exact (EnvX.below E1.out hb).box g o e⟩
  rw [HBO.out.1] at hg3 ⊢
  have HGV := Lib.hid hg3
  have HOF : Hid (∀ (u : World) (gr : Nat), EnvX w u [] → Parts u u.heap.size (some ⟨gr, 0, none⟩) [[6], bodyX t.r] → Calls Tryd.prog 42 #[.slice (some ⟨gr, 0, none⟩) 2 2] u fun e w' => e = .returned (.agg (arrB 32 su)) ∧ Below u.heap.size u w') := fun u gr hE hp => by
    have e : [[6], bodyX t.r].flatten = 6 :: bodyX t.r := by simp
    have h1 := shaof_any (some ⟨gr, 0, none⟩) 2 2 [[6], bodyX t.r] u rfl hp (by omega) (by rw [e, List.length_cons, HBO.out.1]; have := HML.out; omega) (htt.below hE.bel)
    rwa [e, HSU.out] at h1
  clear hv1 hb E1 HLD hg1 hg2 hg3 htt
  go_upto_region 4 with (fail)
  refine wp_region_Hx (w0 := w) [0, 1, 2, 3, 4] [(gv, Obj.cells curv 5 (0, 0)), (w.heap.size + 1, Obj.cells (arrB 32 []) 40 (0, 0)), (w.heap.size, Obj.cells (txA t) 26 (0, 0))] rfl E2.out ?_
  refine (hOp_fresh (R := fun v N => ∃ g, v = .slice (some ⟨g, 0, none⟩) 1 1 ∧ N = [(g, Obj.cells #[.int .u8 6] 5 (0, 0))]) (M0 := [(gv, Obj.cells curv 5 (0, 0)), (w.heap.size + 1, Obj.cells (arrB 32 []) 40 (0, 0)), (w.heap.size, Obj.cells (txA t) 26 (0, 0))]) rfl rfl (fun _ h => h) (fun u hu => FAt_byte1 6 u) ?_)
  rintro _ _ ⟨g5, rfl, rfl⟩ hf he1; intro K' hK'; go_big_quiet_op; go_big_quiet_on
  clear hf
  change lexH _ _ _ _ _ _ [(g5, Obj.cells #[.int .u8 6] 5 (0, 0)), (gv, Obj.cells curv 5 (0, 0)), (w.heap.size + 1, Obj.cells (arrB 32 []) 40 (0, 0)), (w.heap.size, Obj.cells (txA t) 26 (0, 0))]
  refine lexH_phase [1] [2, 3, 4] ?_
  have hw2 : EnvX w _ [(g5, Obj.cells #[.int .u8 6] 5 (0, 0)), (gv, Obj.cells curv 5 (0, 0)), (w.heap.size + 1, Obj.cells (arrB 32 []) 40 (0, 0)), (w.heap.size, Obj.cells (txA t) 26 (0, 0))] := he1.choose_spec
  have hone := @EnvC.one _ _ _ hw2
  (refine wpG_op rfl rfl rfl ?_; intro K hK; go_big_quiet_op; go_big_quiet_on)
  clear hone hw2
  refine wpG_nil ?_
  refine (hOp_fresh (R := fun v N => ∃ g, v = .slice (some ⟨g, 0, none⟩) 2 2 ∧ N = [(g, Obj.cells #[.slice (some ⟨g5, 0, none⟩) 1 1, .slice (some ⟨gv, 0, none⟩) m capv] 63 (0, 0))]) (M0 := [(g5, Obj.cells #[.int .u8 6] 5 (0, 0)), (gv, Obj.cells curv 5 (0, 0)), (w.heap.size + 1, Obj.cells (arrB 32 []) 40 (0, 0)), (w.heap.size, Obj.cells (txA t) 26 (0, 0))]) rfl rfl (fun _ h => h) (fun u hu => FAt_rows2 rfl rfl u) ?_)
  rintro _ _ ⟨gr, rfl, rfl⟩ hf he3; intro K' hK'; go_big_quiet_op; go_big_quiet_on
  clear hf
  change lexH _ _ _ _ _ _ [(gr, Obj.cells #[.slice (some ⟨g5, 0, none⟩) 1 1, .slice (some ⟨gv, 0, none⟩) m capv] 63 (0, 0)), (g5, Obj.cells #[.int .u8 6] 5 (0, 0)), (gv, Obj.cells curv 5 (0, 0)), (w.heap.size + 1, Obj.cells (arrB 32 []) 40 (0, 0)), (w.heap.size, Obj.cells (txA t) 26 (0, 0))]
  refine lexH_phase [3] [4] ?_
  have hw4 : EnvX w _ [(gr, Obj.cells #[.slice (some ⟨g5, 0, none⟩) 1 1, .slice (some ⟨gv, 0, none⟩) m capv] 63 (0, 0)), (g5, Obj.cells #[.int .u8 6] 5 (0, 0)), (gv, Obj.cells curv 5 (0, 0)), (w.heap.size + 1, Obj.cells (arrB 32 []) 40 (0, 0)), (w.heap.size, Obj.cells (txA t) 26 (0, 0))] := he3.choose_spec
  have hone := @EnvC.one _ _ _ hw4
  (refine wpG_call (f := 42) (args := #[.slice (some ⟨gr, 0, none⟩) 2 2]) (v := .agg (arrB 32 su)) rfl rfl rfl Tryd.func42 rfl rfl (fun u hu => HOF.out u gr (EnvX.sub hu (fun _ h => by cases h)) (parts_two (EnvX.lt hu (List.Mem.head _)) (by have h := box_cell (k := 0) hu (List.Mem.head _) rfl; exact h) (boxR_bytes (cap := 1) hu (List.Mem.tail _ (List.Mem.head _)) rfl ⟨by decide, by decide, rfl, rfl⟩) (by intro x hx; cases List.mem_singleton.1 hx; omega) (by have h := box_cell (k := 1) hu (List.Mem.head _) rfl; rw [HBO.out.1]; exact h) (boxR_bytes hu (List.Mem.tail _ (List.Mem.tail _ (List.Mem.head _))) HBO.out.1 HGV.out) HBO.out.2)) ?_ hw4; intro K hK; go_big_quiet_op; go_big_quiet_on)
  clear hone hw4
  refine wpG_nil ?_
  refine (hOp_store rfl (w.heap.size + 1) (arrB 32 su) rfl rfl HLE.out 40 ((arrB 32 [])) (List.Mem.tail _ (List.Mem.tail _ (List.Mem.tail _ (List.Mem.head _)))) (info26 _ HZ.out) ((arrB_size _ _ (by simp)).trans HZ.out.symm) (arrB_one _ _) [(w.heap.size + 1, Obj.cells (arrB 32 su) 40 (0, 0))] (List.forall_mem_cons.2 ⟨.inl rfl, (fun _ h => by cases h)⟩) ?_)
  intro he5
  intro u7 E2'
  have EX6 := Lib.hid E2'
  clear E2'
  have Q0 := Lib.hid (EnvX.box EX6.out _ _ (List.Mem.head _))
  have HBEL := Lib.hid EX6.out.bel
  clear EX6
  go_wp2_with ((with_reducible refine bodyPost_ret (v := .agg (arrB 32 su)) ?_ ?_ ?_); (exact results_cell_row (p := 2) (ty := 40) Tryd.results24 _ _ (w.heap.size + 1) 40 (arrB 32 su) (0, 0) _ rfl Q0.out Tryd.underlying40 rfl (info26 _ HZ.out)); (rfl))
  exact ⟨rfl, HBEL.out⟩
theorem pidX_any (t : TxM) (w : World) (ht : TxOk w t) (htt : Tables w) :
    Calls Tryd.prog 24 #[txV t] w fun e w' => e = .returned (idv (idX t.r)) ∧ Below w.heap.size w w' := by
  cases k : mayX t.r with
  | true => exact pidX_yes t w ht htt k
  | false => exact pidX_no t w ht htt k
end Go.Proofs.YtabhhbdbkeeblaaDoor
