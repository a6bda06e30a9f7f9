/- Part of a proof. -/
import Derived.Test.YtbmiecogjmbciaaDoorCj
import Derived.Lib.AppendZeros
import Derived.WalkKit
import Derived.Scope
import Derived.ScopeJumps
import Derived.WalkMore
namespace Go.Proofs.YtbmiecogjmbciaaDoor
set_option maxRecDepth 8000
open Go.RowKit

theorem wpList_appzero_run {P : Program} {ops : Array Oper} {rest : List Oper} {o : Oper} {a : Act} {w w' : World} {Q : Exit → Act → World → Prop} {v y v' : Value} {t tn : TypeId} (hgd : o.guard = none) (s x : Operand)
    (ho : o.op = .call { callee := .builtin .append, args := #[s, x], argTypes := #[t, tn] }) (hs : a.eval s = v) (hx : a.eval x = y)
    (hrun : ∀ ty, (Builtin.append_ #[t, tn] ty #[v, y]).run P w = .ok v' w') (h : wpList P ops Q rest (a.put o.dst v') w') : wpList P ops Q (o :: rest) a w :=
  wpList_plain hgd fun _ hK => by
    unfold Oper.wp execOp
    simp only [ho, resolve, invoke, builtin, Sem.run_bind, Sem.run_pure, Result.andThen_ok, List.map_toArray, List.map_cons, List.map_nil, hs, hx, hrun]
    exact hK _ _ h
/-- room for n bytes, of nothing -/
theorem grow_any (n : Nat) (w : World) (h0 : 0 < n) (hn : n ≤ 1000000) :
    Calls Tryd.prog 75 #[.slice none 0 0, .int .i64 (n : Int)] w fun e w' => (∃ v, e = .returned v ∧ OwnB w' w.heap.size v []) ∧ Below w.heap.size w w' := by
  have hT := elB.info
  cases hq : Tryd.prog.info? 5 with
  | none => rw [hq] at hT; cases hT
  | some i =>
    rw [hq] at hT
    simp only [Option.map_some, Option.some.injEq, Prod.mk.injEq] at hT
    obtain ⟨k1, k2, k3⟩ := hT
    have hrz : Hid (∀ ty, (Builtin.append_ #[72, 3] ty #[.slice none 0 0, .int .i64 (n : Int)]).run Tryd.prog w = _) := fun ty => Lib.run_append_nil_zeros w 72 3 ty 5 i _ .i64 .i64 Tryd.underlying72 Tryd.underlying3 hq k1 n h0 (by omega) (by omega) (by rw [k3]; omega)
    have hG := grownCap_ge w n 0 5
    have hG2 := grownCap_le_maxLen w n 0 5 (by unfold maxLen; omega)
    obtain ⟨G, hGe⟩ : ∃ G, G = grownCap w n 0 5 := ⟨_, rfl⟩
    rw [← hGe] at hrz hG hG2
    have hcs : (Builtin.zeroCells (Value.int .u8 0).cells n ++ Builtin.zeroCells (Value.int .u8 0).cells (G - n)).size = G := by
      simp [Builtin.zeroCells, Value.cells]
      omega
    generalize Builtin.zeroCells (Value.int .u8 0).cells n ++ Builtin.zeroCells (Value.int .u8 0).cells (G - n) = cur at *
    have h1 : ¬ ((n : Int) < 0) := by omega
    have h2 : wrap64 ((n : Int)) = (n : Int) := by unfold wrap64; omega
    have h4 : (n : Int) > 0 := by omega
    have h5 : 0 < (n : Int) := by omega
    have hG63 : G ≤ 9223372036854775807 := by unfold maxLen at hG2; omega
    have HC := Lib.hid hcs
    have HG := Lib.hid (And.intro hG hG2)
    clear hcs hG hG2 hGe k1 k2 k3 hq
    go_enter Tryd.func75, Tryd.ntmps75
    go_wp2_with (at_builtin; (with_reducible refine wpList_appzero_run (o := ⟨some 22, _, _, _, _, _⟩) ?_ (.tmp 20) (.tmp 21) ?_ ?_ ?_ hrz.out ?_); (rfl); (rfl); (rfl); (rfl))
    all_goals (go_ret; skip)
    refine ⟨⟨_, rfl, ?_⟩, ?_⟩
    · refine ⟨rfl, .inr ⟨w.heap.size, G, cur, rfl, Nat.le_refl _, ?_, Nat.zero_le _, HG.out.2, by rw [HC.out]; omega, by simp⟩⟩
      exact heap_alloc_new w.drew _
    · exact ((Below.refl _ w).drew).alloc (Nat.le_refl _) _
theorem flat_take_le (xss : List (List Int)) (k : Nat) : (xss.take k).flatten.length ≤ xss.flatten.length := by
  conv => rhs; rw [← List.take_append_drop k xss, List.flatten_append, List.length_append]
  omega
set_option maxRecDepth 20000 in
set_option maxHeartbeats 1000000 in
/-- bytes that are put one behind the other -/
theorem concat_any (A : Option Addr) (n c : Nat) (xss : List (List Int)) (w : World) (hl : xss.length = n) (hx : Parts w w.heap.size A xss) (hn : n ≤ 1000000) (hp : 0 < xss.flatten.length) (hs : xss.flatten.length ≤ 1000000) :
    Calls Tryd.prog 61 #[.slice A n c] w fun e w' => (∃ v, e = .returned v ∧ OwnB w' w.heap.size v xss.flatten) ∧ Below w.heap.size w w' := by
  have HL := Lib.hid hl
  have HX := Lib.hid hx
  have HP := Lib.hid hp
  have HS := Lib.hid hs
  clear hl hx hp hs
  go_enter Tryd.func61, Tryd.ntmps61
  go_wp2_with fail
  go_loopw [3, 11] (fun v i u => ∃ k : Nat, k ≤ n ∧ i = .int .i64 (k : Int) ∧ v = .int .i64 ((xss.take k).flatten.length : Int) ∧ u = w) (fun _ i _ => n - (intOf i).toNat)
  case atStart => exact ⟨0, by omega, rfl, rfl, rfl⟩
  case round =>
    obtain ⟨k, hk, rfl, rfl, hU⟩ := hrel
    obtain rfl := hU.symm
    by_cases hlt : k < n
    · have hg := List.getElem?_eq_getElem (by rw [HL.out]; exact hlt : k < xss.length)
      have hst := congrArg List.length (flat_step xss k _ hg)
      rw [List.length_append] at hst
      obtain ⟨b, o, a, c1, rfl, hb, hc, hy, hr⟩ := HX.out k _ hg
      have hle := flat_take_le xss (k + 1)
      have h6 := HS.out
      generalize xss[k]'(by rw [HL.out]; exact hlt) = ys at *
      have HST := Lib.hid hst
      generalize (xss.take k).flatten.length = p1 at *
      generalize ys.length = m at *
      have hadd : wrap64 ((p1 : Int) + (m : Int)) = (p1 : Int) + (m : Int) := by unfold wrap64; omega
      have hneg : ¬ ((p1 : Int) + (m : Int) < 0) := by omega
      have hk2 : (k : Int) < (n : Int) := by omega
      clear hg hy hr hle h6 hst
      go_wp2
      go_roundw
      case rel => exact ⟨k + 1, by omega, by go_num, by rw [HST.out, hadd, Int.natCast_add], trivial⟩
      case measure => simp [intOf]; omega
    · obtain rfl : k = n := by omega
      have hT : xss.take k = xss := List.take_of_length_le (by rw [HL.out]; exact Nat.le_refl _)
      rw [hT]
      obtain ⟨q, hq⟩ : ∃ q, xss.flatten.length = q := ⟨_, rfl⟩
      have hq1 := HP.out
      have hq2 := HS.out
      rw [hq] at hq1 hq2 ⊢
      have HQ := Lib.hid hq
      clear hq hT
      go_wp2_with fail
      refine (grow_any q w hq1 hq2).mono ?_
      rintro e w2 ⟨⟨v2, rfl, hv2⟩, hb2⟩
      have HO := Lib.hid hv2
      have HB := Lib.hid hb2
      clear hv2 hb2
      go_wp2_with fail
      go_loopw [6, 27] (fun v i u => ∃ j : Nat, j ≤ k ∧ i = .int .i64 (j : Int) ∧ Hid (OwnB u w.heap.size v (xss.take j).flatten ∧ Below w.heap.size w u)) (fun _ i _ => k - (intOf i).toNat)
      case atStart => exact ⟨0, by omega, rfl, HO.out, HB.out⟩
      case round =>
        obtain ⟨j, hj, rfl, hinv⟩ := hrel
        obtain ⟨hO, hB⟩ := hinv.out
        clear hinv
        by_cases hjt : j < k
        · have hg := List.getElem?_eq_getElem (by rw [HL.out]; exact hjt : j < xss.length)
          have hst := Lib.hid (flat_step xss j _ hg)
          obtain ⟨b, o, a, c1, rfl, hb, hc, hy, hr⟩ := HX.out j _ hg
          have hle := flat_take_le xss (j + 1)
          rw [hst.out, List.length_append] at hle
          have h6 := HS.out
          generalize xss[j]'(by rw [HL.out]; exact hjt) = ys at *
          obtain ⟨v', w', hrun, hown', hb2⟩ := hO.append (c := c1) rfl (hy.below hB) (by omega) hB.size
          have hcell := (hB.cell (p := ⟨b, o + j, none⟩) hb).trans hc
          have HN : Hid (OwnB w' w.heap.size v' (xss.take (j + 1)).flatten ∧ Below w.heap.size w w') := ⟨by rw [hst.out]; exact hown', hB.trans hb2⟩
          have HRUN := Lib.hid hrun
          have hj2 : (j : Int) < (k : Int) := by omega
          clear hg hc hy hr hrun hown' hb2 hle h6 hO hB hst
          generalize ys.length = m at *
          go_wp2_with (at_builtin; (with_reducible refine wpList_append_run (o := ⟨some 33, _, _, _, _, _⟩) ?_ (.tmp 31) (.tmp 32) ?_ ?_ ?_ ?_ HRUN.out ?_); (rfl); (rfl); (rfl); (rfl); (rfl))
          go_roundw
          case rel => exact ⟨j + 1, by omega, by go_num, HN⟩
          case measure => simp [intOf]; omega
        · obtain rfl : j = k := by omega
          have hge : ¬ (j : Int) < (j : Int) := by omega
          have hT : xss.take j = xss := List.take_of_length_le (by rw [HL.out]; exact Nat.le_refl _)
          rw [hT] at hO
          have HO2 := Lib.hid hO
          have HB2 := Lib.hid hB
          clear hO hB hT
          go_wp2
          go_ret
          exact ⟨⟨_, rfl, HO2.out⟩, HB2.out⟩
theorem bytes_src {u : World} {B g k : Nat} {xs : List Int} (hg : g < B) (h : SrcAt u ⟨g, k, none⟩ (xs.map u8v)) : Bytes u B (some ⟨g, k, none⟩) xs := fun _ => ⟨_, rfl, hg, h⟩
set_option maxRecDepth 20000 in
set_option maxHeartbeats 4000000 in
theorem mtext_any (t : Tot) (w : World) (h : okT t) :
    Calls Tryd.prog 46 #[totV t] w fun e w' => (∃ v, e = .returned v ∧ OwnB w' w.heap.size v (partT t)) ∧ Below w.heap.size w w' := by
  have HL : Hid (len32 t) := h.len
  have HU : Hid (u64N t.n < 18446744073709551616 ∧ IntKind.u64.wrap t.n = ((u64N t.n : Nat) : Int)) := by
    unfold u64N
    rw [IntKind.wrap_u64]
    exact ⟨by omega, by omega⟩
  have HR : Hid (∀ x ∈ t.h, 0 ≤ x ∧ x ≤ 255) := h.1.2
  have HR2 : Hid (∀ x ∈ listF (bytesOf t.w), 0 ≤ x ∧ x ≤ 255) := fun x hx => partT_byte h x (List.mem_append_right _ (List.mem_append_left _ hx))
  have E1 : Hid (EnvX w (w.alloc (.cells (totA t) 29)) [(w.heap.size, Obj.cells (totA t) 29 (0, 0))]) := (EnvX.start w).new _
  have HBY : Hid (∀ u, EnvX w u [] → Calls Tryd.prog 60 #[.agg (wcs t.w)] u fun e w' => e = .returned (.agg (arrB 32 (listF (bytesOf t.w)))) ∧ Below u.heap.size u w') := fun u _ => bytes_any t.w u
  have HPT : Hid (∀ u, EnvX w u [] → Calls Tryd.prog 62 #[.int .u64 ((u64N t.n : Nat) : Int), .int .i64 4] u fun e w' => (∃ v, e = .returned v ∧ OwnB w' u.heap.size v (putL (u64N t.n) 4)) ∧ Below u.heap.size u w') := fun u _ => put_any (u64N t.n) 4 u HU.out.1 (by omega)
  have HCC : Hid (∀ u g, EnvX w u [] → Parts u u.heap.size (some ⟨g, 0, none⟩) [t.h, listF (bytesOf t.w), putL (u64N t.n) 4] → Calls Tryd.prog 61 #[.slice (some ⟨g, 0, none⟩) 3 3] u fun e w' => (∃ v, e = .returned v ∧ w'.ownsRow u.heap.size 5 1 v 68 ((partT t).map u8v)) ∧ Below u.heap.size u w') := fun u g _ hP => by
    have hf : ([t.h, listF (bytesOf t.w), putL (u64N t.n) 4] : List (List Int)).flatten = partT t := by simp [partT]
    have hl := partT_len h.len
    have k := concat_any (some ⟨g, 0, none⟩) 3 3 _ u rfl hP (by omega) (by rw [hf, hl]; omega) (by rw [hf, hl]; omega)
    rw [hf] at k
    unfold OwnB at k
    rwa [hl] at k
  have HZ : Hid ((arrB 32 (listF (bytesOf t.w))).size = 32) := arrB_size _ _ (by rw [listF_len]; omega)
  clear h
  unfold totV
  go_enter Tryd.func46, Tryd.ntmps46
  go_upto_region 1 with (fail)
  generalize w.alloc (.cells (totA t) 29) = W at *
  refine wp_region_Hx (w0 := w) [0, 1, 2, 3, 4] [(w.heap.size, Obj.cells (totA t) 29 (0, 0))] rfl E1.out ?_
  refine lexH_phase [0, 1, 2] [3, 4] ?_
  have hw1 : EnvX w _ [(w.heap.size, Obj.cells (totA t) 29 (0, 0))] := E1.out
  have hone := @EnvC.one _ _ _ hw1
  (refine wpG_op rfl rfl rfl ?_; intro K hK; go_big_quiet_op; go_big_quiet_on)
  (refine wpG_val (v := .agg (wcs t.w)) rfl rfl (fun u hu => load_any_op u (box_totW hu (List.Mem.head _) HL.out) rfl) ?_ hw1; intro K hK; go_big_quiet_op; go_big_quiet_on)
  (refine wpG_call (f := 60) (args := #[.agg (wcs t.w)]) (v := .agg (arrB 32 (listF (bytesOf t.w)))) rfl rfl rfl Tryd.func60 rfl rfl (fun u hu => HBY.out u (EnvX.sub hu (fun _ h => by cases h))) ?_ hw1; intro K hK; go_big_quiet_op; go_big_quiet_on)
  clear hone hw1
  refine wpG_nil ?_
  refine (hOp_fresh (R := fun x N => ∃ g, x = .pointer (some ⟨g, 0, none⟩) ∧ N = [(g, Obj.cells (arrB 32 []) 24 (0, 0))]) (M0 := [(w.heap.size, Obj.cells (totA t) 29 (0, 0))]) rfl rfl (fun _ h => h) (fun u hu => FAt_new (new_id _) u) ?_)
  rintro _ _ ⟨g3, rfl, rfl⟩ hf he2; intro K' hK'; go_big_quiet_op; go_big_quiet_on
  have HG3 := Lib.hid (hf _ (List.mem_singleton.2 rfl))
  clear hf
  change lexH _ _ _ _ _ _ [(g3, Obj.cells (arrB 32 []) 24 (0, 0)), (w.heap.size, Obj.cells (totA t) 29 (0, 0))]
  refine (hOp_store rfl (g3) (arrB 32 (listF (bytesOf t.w))) rfl rfl HG3.out.1 24 ((arrB 32 [])) (List.Mem.head _) (info26 _ HZ.out) ((arrB_size _ _ (by simp)).trans HZ.out.symm) (arrB_one _ _) [(g3, Obj.cells (arrB 32 (listF (bytesOf t.w))) 24 (0, 0)), (w.heap.size, Obj.cells (totA t) 29 (0, 0))] (List.forall_mem_cons.2 ⟨.inl rfl, fun y hy => .inr ⟨List.mem_cons_of_mem _ hy, HG3.out.2 y hy⟩⟩) ?_)
  intro he3
  intro u5 E2'
  have EX4 := Lib.hid E2'
  clear E2'
  go_upto_region 2 with (fail)
  refine wp_region_H (w0 := w) [(g3, Obj.cells (arrB 32 (listF (bytesOf t.w))) 24 (0, 0)), (w.heap.size, Obj.cells (totA t) 29 (0, 0))] (by kernel_rfl) EX4.out ?_
  refine anyH_phase [0, 1, 2, 3, 4, 5] 4 rfl ⟨_, (EnvX.drew EX4.out)⟩ (by kernel_rfl) ?_
  have hw6 : EnvX w _ [(g3, Obj.cells (arrB 32 (listF (bytesOf t.w))) 24 (0, 0)), (w.heap.size, Obj.cells (totA t) 29 (0, 0))] := (EnvX.drew EX4.out)
  have hone := @EnvC.one _ _ _ hw6
  (refine wpG_op rfl rfl rfl ?_; intro K hK; go_big_quiet_op; go_big_quiet_on)
  (refine wpG_val (v := .slice (some ⟨w.heap.size, 0, none⟩) 32 32) rfl rfl (fun u hu => sliceArr_op u rfl) ?_ hw6; intro K hK; go_big_quiet_op; go_big_quiet_on)
  (refine wpG_val (v := .slice (some ⟨g3, 0, none⟩) 32 32) rfl rfl (fun u hu => sliceArr_op u rfl) ?_ hw6; intro K hK; go_big_quiet_op; go_big_quiet_on)
  (refine wpG_op rfl rfl rfl ?_; intro K hK; go_big_quiet_op; go_big_quiet_on)
  (refine wpG_val (v := .int .i64 t.n) rfl rfl (fun u hu => load_any_op u (box_totN hu (List.Mem.tail _ (List.Mem.head _)) HL.out) rfl) ?_ hw6; intro K hK; go_big_quiet_op; go_big_quiet_on)
  (refine wpG_val (v := .int .u64 ((u64N t.n : Nat) : Int)) rfl rfl (fun u hu => conv_u64_op u HU.out.2 rfl) ?_ hw6; intro K hK; go_big_quiet_op; go_big_quiet_on)
  clear hone hw6
  refine wpG_nil ?_
  refine anyH_one (i := 6) (by kernel_rfl) (hOp_fresh (R := FreshR 5 1 4 ((putL (u64N t.n) 4).map u8v)) (M0 := [(g3, Obj.cells (arrB 32 (listF (bytesOf t.w))) 24 (0, 0)), (w.heap.size, Obj.cells (totA t) 29 (0, 0))]) rfl rfl (fun _ h => h) (fun u hu => FAt_call (fid := 62) (xs := #[.tmp 12, .const (Value.int IntKind.i64 4)]) (args := #[.int .u64 ((u64N t.n : Nat) : Int), .int .i64 4]) rfl Tryd.func62 rfl rfl u (by have h := callsR_fresh (HPT.out u (EnvX.sub hu (fun _ h => by cases h))); rw [putL_len] at h; exact h)) ?_)
  rintro x N hF hf he7; intro K' hK'; go_big_quiet_op; go_big_quiet_on
  obtain ⟨gp, capp, curp, rfl, rfl, hcp⟩ | ⟨_, _, h0, _⟩ := hF
  case inr => cases h0
  have HCP := Lib.hid hcp
  clear hcp
  clear hf
  change anyH _ _ _ _ _ _ _ _ [(gp, Obj.cells curp 5 (0, 0)), (g3, Obj.cells (arrB 32 (listF (bytesOf t.w))) 24 (0, 0)), (w.heap.size, Obj.cells (totA t) 29 (0, 0))]
  refine anyH_one (i := 7) (by kernel_rfl) (hOp_fresh (R := fun v N => ∃ g, v = .slice (some ⟨g, 0, none⟩) 3 3 ∧ N = [(g, Obj.cells #[.slice (some ⟨w.heap.size, 0, none⟩) 32 32, .slice (some ⟨g3, 0, none⟩) 32 32, .slice (some ⟨gp, 0, none⟩) 4 capp] 72 (0, 0))]) (M0 := [(gp, Obj.cells curp 5 (0, 0)), (g3, Obj.cells (arrB 32 (listF (bytesOf t.w))) 24 (0, 0)), (w.heap.size, Obj.cells (totA t) 29 (0, 0))]) rfl rfl (fun _ h => h) (fun u hu => FAt_rows3 rfl rfl rfl u) ?_)
  rintro _ _ ⟨gr, rfl, rfl⟩ hf he8; intro K' hK'; go_big_quiet_op; go_big_quiet_on
  clear hf
  change anyH _ _ _ _ _ _ _ _ [(gr, Obj.cells #[.slice (some ⟨w.heap.size, 0, none⟩) 32 32, .slice (some ⟨g3, 0, none⟩) 32 32, .slice (some ⟨gp, 0, none⟩) 4 capp] 72 (0, 0)), (gp, Obj.cells curp 5 (0, 0)), (g3, Obj.cells (arrB 32 (listF (bytesOf t.w))) 24 (0, 0)), (w.heap.size, Obj.cells (totA t) 29 (0, 0))]
  refine anyH_one (i := 8) (by kernel_rfl) (hOp_fresh (R := FreshR 5 1 68 ((partT t).map u8v)) (M0 := [(gr, Obj.cells #[.slice (some ⟨w.heap.size, 0, none⟩) 32 32, .slice (some ⟨g3, 0, none⟩) 32 32, .slice (some ⟨gp, 0, none⟩) 4 capp] 72 (0, 0)), (gp, Obj.cells curp 5 (0, 0)), (g3, Obj.cells (arrB 32 (listF (bytesOf t.w))) 24 (0, 0)), (w.heap.size, Obj.cells (totA t) 29 (0, 0))]) rfl rfl (fun _ h => h) (fun u hu => FAt_call (fid := 61) (xs := #[.tmp 14]) (args := #[.slice (some ⟨gr, 0, none⟩) 3 3]) rfl Tryd.func61 rfl rfl u (callsR_fresh (HCC.out u gr (EnvX.sub hu (fun _ h => by cases h)) (parts_three (EnvX.lt hu (List.Mem.head _)) (by rw [show t.h.length = 32 from HL.out]; have h := box_cell (k := 0) hu (List.Mem.head _) rfl; exact h) (bytes_src (EnvX.lt hu (List.Mem.tail _ (List.Mem.tail _ (List.Mem.tail _ (List.Mem.head _))))) (src_box hu (List.Mem.tail _ (List.Mem.tail _ (List.Mem.tail _ (List.Mem.head _)))) (t_src HL.out))) HR.out (by rw [listF_len]; have h := box_cell (k := 1) hu (List.Mem.head _) rfl; exact h) (bytes_src (EnvX.lt hu (List.Mem.tail _ (List.Mem.tail _ (List.Mem.head _)))) (src_box hu (List.Mem.tail _ (List.Mem.tail _ (List.Mem.head _))) (b_src t.w))) HR2.out (by rw [putL_len]; have h := box_cell (k := 2) hu (List.Mem.head _) rfl; exact h) (boxR_bytes hu (List.Mem.tail _ (List.Mem.head _)) (putL_len _ _) HCP.out) (putL_byte _ 4))))) ?_)
  rintro x N hF hf he9; intro K' hK'; go_big_quiet_op; go_big_quiet_on
  obtain ⟨gc, capc, curc, rfl, rfl, hcc⟩ | ⟨_, _, h0, _⟩ := hF
  case inr => cases h0
  have HCC2 := Lib.hid hcc
  have HGC := Lib.hid (hf _ (List.mem_singleton.2 rfl))
  clear hcc
  clear hf
  change anyH _ _ _ _ _ _ _ _ [(gc, Obj.cells curc 5 (0, 0)), (gr, Obj.cells #[.slice (some ⟨w.heap.size, 0, none⟩) 32 32, .slice (some ⟨g3, 0, none⟩) 32 32, .slice (some ⟨gp, 0, none⟩) 4 capp] 72 (0, 0)), (gp, Obj.cells curp 5 (0, 0)), (g3, Obj.cells (arrB 32 (listF (bytesOf t.w))) 24 (0, 0)), (w.heap.size, Obj.cells (totA t) 29 (0, 0))]
  refine anyH_phase [9] 0 rfl ⟨_, he9.choose_spec⟩ (by kernel_rfl) ?_
  have hw10 : EnvX w _ [(gc, Obj.cells curc 5 (0, 0)), (gr, Obj.cells #[.slice (some ⟨w.heap.size, 0, none⟩) 32 32, .slice (some ⟨g3, 0, none⟩) 32 32, .slice (some ⟨gp, 0, none⟩) 4 capp] 72 (0, 0)), (gp, Obj.cells curp 5 (0, 0)), (g3, Obj.cells (arrB 32 (listF (bytesOf t.w))) 24 (0, 0)), (w.heap.size, Obj.cells (totA t) 29 (0, 0))] := he9.choose_spec
  have hone := @EnvC.one _ _ _ hw10
  (refine wpG_op rfl rfl rfl ?_; intro K hK; go_big_quiet_op; go_big_quiet_on)
  clear hone hw10
  refine wpG_nil ?_
  refine anyH_done (by kernel_rfl) ?_
  intro u12 E2'
  have EX11 := Lib.hid E2'
  clear E2'
  go_wp2
  go_ret
  refine ⟨⟨_, rfl, ?_⟩, EnvX.bel EX11.out⟩
  have hl : (partT t).length = 68 := partT_len HL.out
  unfold OwnB
  rw [hl]
  exact ⟨by rw [List.length_map, hl], .inr ⟨gc, capc, curc, rfl, HGC.out.1, EnvX.box EX11.out _ _ (List.Mem.head _), HCC2.out⟩⟩
set_option maxRecDepth 20000 in
set_option maxHeartbeats 4000000 in
theorem mjoin_any (a b : Tot) (w : World) (ha : okT a) (hb : okT b) (ht : Tables w) :
    Calls Tryd.prog 20 #[totV a, totV b] w fun e w' => e = .returned (totV (joinT a b)) ∧ Below w.heap.size w w' := by
  have HA : Hid (len32 a) := ha.len
  have HB : Hid (len32 b) := hb.len
  have HBA := Lib.hid (partT_byte ha)
  have HBB := Lib.hid (partT_byte hb)
  have HJ : Hid (okT (joinT a b)) := join_ok
  have HADD : Hid (∀ u, EnvX w u [] → Calls Tryd.prog 27 #[.agg (wcs a.w), .agg (wcs b.w)] u fun e w' => e = .returned (.tuple #[.agg (wcs ((a.w + b.w) % Big)), .bool (decide (a.w + b.w < Big))]) ∧ Below u.heap.size u w') := fun u _ => add_any a.w b.w u (by have := ha.2.1; exact this) (by have := hb.2.1; exact this)
  have HHA : Hid (∀ u, EnvX w u [] → Calls Tryd.prog 46 #[totV a] u fun e w' => (∃ v, e = .returned v ∧ w'.ownsRow u.heap.size 5 1 v 68 ((partT a).map u8v)) ∧ Below u.heap.size u w') := fun u _ => by have h := mtext_any a u ha; unfold OwnB at h; rwa [partT_len ha.len] at h
  have HHB : Hid (∀ u, EnvX w u [] → Calls Tryd.prog 46 #[totV b] u fun e w' => (∃ v, e = .returned v ∧ w'.ownsRow u.heap.size 5 1 v 68 ((partT b).map u8v)) ∧ Below u.heap.size u w') := fun u _ => by have h := mtext_any b u hb; unfold OwnB at h; rwa [partT_len hb.len] at h
  have HOF : Hid (∀ u g, EnvX w u [] → Parts u u.heap.size (some ⟨g, 0, none⟩) [[3], partT a, partT b] → Calls Tryd.prog 44 #[.slice (some ⟨g, 0, none⟩) 3 3] u fun e w' => e = .returned (idv (joinT a b).h) ∧ Below u.heap.size u w') := fun u g hE hP => by
    have h := shaof_any (some ⟨g, 0, none⟩) 3 3 [[3], partT a, partT b] u rfl hP (by omega) (by simp [partT_len ha.len, partT_len hb.len]) (ht.below hE.bel)
    have e : ([[3], partT a, partT b] : List (List Int)).flatten = 3 :: (partT a ++ partT b) := by simp
    rw [e] at h
    exact h
  have HLE : Hid (w.heap.size ≤ w.heap.size + 1 + 1) := by show _ ≤ _; omega
  have E1 : Hid (EnvX w (((w.alloc (.cells (totA a) 29)).alloc (.cells (totA b) 29)).alloc (.cells (totA zTot) 29)) [(w.heap.size + 1 + 1, Obj.cells (totA zTot) 29 (0, 0)), (w.heap.size + 1, Obj.cells (totA b) 29 (0, 0)), (w.heap.size, Obj.cells (totA a) 29 (0, 0))]) := EnvX.three _ _ _
  clear ha hb ht
  unfold totV
  go_enter Tryd.func20, Tryd.ntmps20
  go_upto_region 1 with (fail)
  rw [zero_totA]
  generalize ((w.alloc (.cells (totA a) 29)).alloc (.cells (totA b) 29)).alloc (.cells (totA zTot) 29) = W at *
  refine wp_region_Hx (w0 := w) [0, 1, 2, 3, 4, 5, 6, 7, 8, 9, 10] [(w.heap.size + 1 + 1, Obj.cells (totA zTot) 29 (0, 0)), (w.heap.size + 1, Obj.cells (totA b) 29 (0, 0)), (w.heap.size, Obj.cells (totA a) 29 (0, 0))] rfl E1.out ?_
  refine lexH_phase [0, 1, 2, 3, 4, 5, 6, 7] [8, 9, 10] ?_
  have hw1 : EnvX w _ [(w.heap.size + 1 + 1, Obj.cells (totA zTot) 29 (0, 0)), (w.heap.size + 1, Obj.cells (totA b) 29 (0, 0)), (w.heap.size, Obj.cells (totA a) 29 (0, 0))] := E1.out
  have hone := @EnvC.one _ _ _ hw1
  (refine wpG_op rfl rfl rfl ?_; intro K hK; go_big_quiet_op; go_big_quiet_on)
  (refine wpG_val (v := .agg (wcs a.w)) rfl rfl (fun u hu => load_any_op u (box_totW hu (List.Mem.tail _ (List.Mem.tail _ (List.Mem.head _))) HA.out) rfl) ?_ hw1; intro K hK; go_big_quiet_op; go_big_quiet_on)
  (refine wpG_op rfl rfl rfl ?_; intro K hK; go_big_quiet_op; go_big_quiet_on)
  (refine wpG_val (v := .agg (wcs b.w)) rfl rfl (fun u hu => load_any_op u (box_totW hu (List.Mem.tail _ (List.Mem.head _)) HB.out) rfl) ?_ hw1; intro K hK; go_big_quiet_op; go_big_quiet_on)
  (refine wpG_call (f := 27) (args := #[.agg (wcs a.w), .agg (wcs b.w)]) (v := .tuple #[.agg (wcs ((a.w + b.w) % Big)), .bool (decide (a.w + b.w < Big))]) rfl rfl rfl Tryd.func27 rfl rfl (fun u hu => HADD.out u (EnvX.sub hu (fun _ h => by cases h))) ?_ hw1; intro K hK; go_big_quiet_op; go_big_quiet_on)
  (refine wpG_op rfl rfl rfl ?_; intro K hK; go_big_quiet_op; go_big_quiet_on)
  (refine wpG_op rfl rfl rfl ?_; intro K hK; go_big_quiet_op; go_big_quiet_on)
  (refine wpG_op rfl rfl rfl ?_; intro K hK; go_big_quiet_op; go_big_quiet_on)
  clear hone hw1
  refine wpG_nil ?_
  refine (hOp_fresh (R := fun x N => ∃ g, x = .pointer (some ⟨g, 0, none⟩) ∧ N = [(g, Obj.cells (wcs 0) 27 (0, 0))]) (M0 := [(w.heap.size + 1 + 1, Obj.cells (totA zTot) 29 (0, 0)), (w.heap.size + 1, Obj.cells (totA b) 29 (0, 0)), (w.heap.size, Obj.cells (totA a) 29 (0, 0))]) rfl rfl (fun _ h => h) (fun u hu => FAt_new (new_wd _) u) ?_)
  rintro _ _ ⟨g5, rfl, rfl⟩ hf he2; intro K' hK'; go_big_quiet_op; go_big_quiet_on
  have HG5 := Lib.hid (hf _ (List.mem_singleton.2 rfl))
  clear hf
  change lexH _ _ _ _ _ _ [(g5, Obj.cells (wcs 0) 27 (0, 0)), (w.heap.size + 1 + 1, Obj.cells (totA zTot) 29 (0, 0)), (w.heap.size + 1, Obj.cells (totA b) 29 (0, 0)), (w.heap.size, Obj.cells (totA a) 29 (0, 0))]
  refine (hOp_store rfl (g5) (wcs ((a.w + b.w) % Big)) rfl rfl HG5.out.1 27 ((wcs 0)) (List.Mem.head _) (wc_info _) ((wc_size _).trans (wc_size _).symm) (wc_one _) [(g5, Obj.cells (wcs ((a.w + b.w) % Big)) 27 (0, 0)), (w.heap.size + 1 + 1, Obj.cells (totA zTot) 29 (0, 0)), (w.heap.size + 1, Obj.cells (totA b) 29 (0, 0)), (w.heap.size, Obj.cells (totA a) 29 (0, 0))] (List.forall_mem_cons.2 ⟨.inl rfl, fun y hy => .inr ⟨List.mem_cons_of_mem _ hy, HG5.out.2 y hy⟩⟩) ?_)
  intro he3
  refine lexH_phase [10] [] ?_
  have hw4 : EnvX w _ [(g5, Obj.cells (wcs ((a.w + b.w) % Big)) 27 (0, 0)), (w.heap.size + 1 + 1, Obj.cells (totA zTot) 29 (0, 0)), (w.heap.size + 1, Obj.cells (totA b) 29 (0, 0)), (w.heap.size, Obj.cells (totA a) 29 (0, 0))] := he3.choose_spec
  have hone := @EnvC.one _ _ _ hw4
  (refine wpG_op rfl rfl rfl ?_; intro K hK; go_big_quiet_op; go_big_quiet_on)
  clear hone hw4
  refine wpG_nil ?_
  intro u6 E2'
  have EX5 := Lib.hid E2'
  clear E2'
  go_upto_region 2 with (fail)
  refine wp_region_H (w0 := w) [(g5, Obj.cells (wcs ((a.w + b.w) % Big)) 27 (0, 0)), (w.heap.size + 1 + 1, Obj.cells (totA zTot) 29 (0, 0)), (w.heap.size + 1, Obj.cells (totA b) 29 (0, 0)), (w.heap.size, Obj.cells (totA a) 29 (0, 0))] (by kernel_rfl) EX5.out ?_
  refine anyH_phase [1, 3, 7, 8, 9, 10, 11, 12] 7 rfl ⟨_, (EnvX.drew EX5.out)⟩ (by kernel_rfl) ?_
  have hw7 : EnvX w _ [(g5, Obj.cells (wcs ((a.w + b.w) % Big)) 27 (0, 0)), (w.heap.size + 1 + 1, Obj.cells (totA zTot) 29 (0, 0)), (w.heap.size + 1, Obj.cells (totA b) 29 (0, 0)), (w.heap.size, Obj.cells (totA a) 29 (0, 0))] := (EnvX.drew EX5.out)
  have hone := @EnvC.one _ _ _ hw7
  (refine wpG_val (v := .agg (totA a)) rfl rfl (fun u hu => load_any_op u (box_tot hu (List.Mem.tail _ (List.Mem.tail _ (List.Mem.tail _ (List.Mem.head _)))) HA.out) rfl) ?_ hw7; intro K hK; go_big_quiet_op; go_big_quiet_on)
  (refine wpG_val (v := .agg (totA b)) rfl rfl (fun u hu => load_any_op u (box_tot hu (List.Mem.tail _ (List.Mem.tail _ (List.Mem.head _))) HB.out) rfl) ?_ hw7; intro K hK; go_big_quiet_op; go_big_quiet_on)
  (refine wpG_val (v := .agg (wcs ((a.w + b.w) % Big))) rfl rfl (fun u hu => load_any_op u (box_wide hu (List.Mem.head _)) rfl) ?_ hw7; intro K hK; go_big_quiet_op; go_big_quiet_on)
  (refine wpG_op rfl rfl rfl ?_; intro K hK; go_big_quiet_op; go_big_quiet_on)
  (refine wpG_val (v := .int .i64 a.n) rfl rfl (fun u hu => load_any_op u (box_totN hu (List.Mem.tail _ (List.Mem.tail _ (List.Mem.tail _ (List.Mem.head _)))) HA.out) rfl) ?_ hw7; intro K hK; go_big_quiet_op; go_big_quiet_on)
  (refine wpG_op rfl rfl rfl ?_; intro K hK; go_big_quiet_op; go_big_quiet_on)
  (refine wpG_val (v := .int .i64 b.n) rfl rfl (fun u hu => load_any_op u (box_totN hu (List.Mem.tail _ (List.Mem.tail _ (List.Mem.head _))) HB.out) rfl) ?_ hw7; intro K hK; go_big_quiet_op; go_big_quiet_on)
  (refine wpG_val (v := .int .i64 (IntKind.i64.wrap (a.n + b.n))) rfl rfl (fun u hu => addW_op u rfl rfl) ?_ hw7; intro K hK; go_big_quiet_op; go_big_quiet_on)
  clear hone hw7
  refine wpG_nil ?_
  refine anyH_two (i := 0) (j := 2) (by kernel_rfl) ?_ ?_
  · skip
    refine (hOp_fresh (R := fun v N => ∃ g, v = .slice (some ⟨g, 0, none⟩) 1 1 ∧ N = [(g, Obj.cells #[.int .u8 3] 5 (0, 0))]) (M0 := [(g5, Obj.cells (wcs ((a.w + b.w) % Big)) 27 (0, 0)), (w.heap.size + 1 + 1, Obj.cells (totA zTot) 29 (0, 0)), (w.heap.size + 1, Obj.cells (totA b) 29 (0, 0)), (w.heap.size, Obj.cells (totA a) 29 (0, 0))]) rfl rfl (fun _ h => h) (fun u hu => FAt_byte1 3 u) ?_)
    rintro _ _ ⟨gt, rfl, rfl⟩ hf he8; intro K' hK'; go_big_quiet_op; go_big_quiet_on
    clear hf
    change anyH _ _ _ _ _ _ _ _ [(gt, Obj.cells #[.int .u8 3] 5 (0, 0)), (g5, Obj.cells (wcs ((a.w + b.w) % Big)) 27 (0, 0)), (w.heap.size + 1 + 1, Obj.cells (totA zTot) 29 (0, 0)), (w.heap.size + 1, Obj.cells (totA b) 29 (0, 0)), (w.heap.size, Obj.cells (totA a) 29 (0, 0))]
    refine anyH_one (i := 2) (by kernel_rfl) (hOp_fresh (R := FreshR 5 1 68 ((partT a).map u8v)) (M0 := [(gt, Obj.cells #[.int .u8 3] 5 (0, 0)), (g5, Obj.cells (wcs ((a.w + b.w) % Big)) 27 (0, 0)), (w.heap.size + 1 + 1, Obj.cells (totA zTot) 29 (0, 0)), (w.heap.size + 1, Obj.cells (totA b) 29 (0, 0)), (w.heap.size, Obj.cells (totA a) 29 (0, 0))]) rfl rfl (fun _ h => h) (fun u hu => FAt_call (fid := 46) (xs := #[.tmp 16]) (args := #[.agg (totA a)]) rfl Tryd.func46 rfl rfl u (callsR_fresh (HHA.out u (EnvX.sub hu (fun _ h => by cases h))))) ?_)
    rintro x N hF hf he9; intro K' hK'; go_big_quiet_op; go_big_quiet_on
    obtain ⟨ga, capga, curga, rfl, rfl, hcga⟩ | ⟨_, _, h0, _⟩ := hF
    case inr => cases h0
    have HCga := Lib.hid hcga
    clear hcga
    clear hf
    change anyH _ _ _ _ _ _ _ _ [(ga, Obj.cells curga 5 (0, 0)), (gt, Obj.cells #[.int .u8 3] 5 (0, 0)), (g5, Obj.cells (wcs ((a.w + b.w) % Big)) 27 (0, 0)), (w.heap.size + 1 + 1, Obj.cells (totA zTot) 29 (0, 0)), (w.heap.size + 1, Obj.cells (totA b) 29 (0, 0)), (w.heap.size, Obj.cells (totA a) 29 (0, 0))]
    refine anyH_one (i := 4) (by kernel_rfl) (hOp_fresh (R := FreshR 5 1 68 ((partT b).map u8v)) (M0 := [(ga, Obj.cells curga 5 (0, 0)), (gt, Obj.cells #[.int .u8 3] 5 (0, 0)), (g5, Obj.cells (wcs ((a.w + b.w) % Big)) 27 (0, 0)), (w.heap.size + 1 + 1, Obj.cells (totA zTot) 29 (0, 0)), (w.heap.size + 1, Obj.cells (totA b) 29 (0, 0)), (w.heap.size, Obj.cells (totA a) 29 (0, 0))]) rfl rfl (fun _ h => h) (fun u hu => FAt_call (fid := 46) (xs := #[.tmp 18]) (args := #[.agg (totA b)]) rfl Tryd.func46 rfl rfl u (callsR_fresh (HHB.out u (EnvX.sub hu (fun _ h => by cases h))))) ?_)
    rintro x N hF hf he10; intro K' hK'; go_big_quiet_op; go_big_quiet_on
    obtain ⟨gb, capgb, curgb, rfl, rfl, hcgb⟩ | ⟨_, _, h0, _⟩ := hF
    case inr => cases h0
    have HCgb := Lib.hid hcgb
    clear hcgb
    clear hf
    change anyH _ _ _ _ _ _ _ _ [(gb, Obj.cells curgb 5 (0, 0)), (ga, Obj.cells curga 5 (0, 0)), (gt, Obj.cells #[.int .u8 3] 5 (0, 0)), (g5, Obj.cells (wcs ((a.w + b.w) % Big)) 27 (0, 0)), (w.heap.size + 1 + 1, Obj.cells (totA zTot) 29 (0, 0)), (w.heap.size + 1, Obj.cells (totA b) 29 (0, 0)), (w.heap.size, Obj.cells (totA a) 29 (0, 0))]
    refine anyH_one (i := 5) (by kernel_rfl) (hOp_fresh (R := fun v N => ∃ g, v = .slice (some ⟨g, 0, none⟩) 3 3 ∧ N = [(g, Obj.cells #[.slice (some ⟨gt, 0, none⟩) 1 1, .slice (some ⟨ga, 0, none⟩) 68 capga, .slice (some ⟨gb, 0, none⟩) 68 capgb] 72 (0, 0))]) (M0 := [(gb, Obj.cells curgb 5 (0, 0)), (ga, Obj.cells curga 5 (0, 0)), (gt, Obj.cells #[.int .u8 3] 5 (0, 0)), (g5, Obj.cells (wcs ((a.w + b.w) % Big)) 27 (0, 0)), (w.heap.size + 1 + 1, Obj.cells (totA zTot) 29 (0, 0)), (w.heap.size + 1, Obj.cells (totA b) 29 (0, 0)), (w.heap.size, Obj.cells (totA a) 29 (0, 0))]) rfl rfl (fun _ h => h) (fun u hu => FAt_rows3 rfl rfl rfl u) ?_)
    rintro _ _ ⟨gr, rfl, rfl⟩ hf he11; intro K' hK'; go_big_quiet_op; go_big_quiet_on
    clear hf
    change anyH _ _ _ _ _ _ _ _ [(gr, Obj.cells #[.slice (some ⟨gt, 0, none⟩) 1 1, .slice (some ⟨ga, 0, none⟩) 68 capga, .slice (some ⟨gb, 0, none⟩) 68 capgb] 72 (0, 0)), (gb, Obj.cells curgb 5 (0, 0)), (ga, Obj.cells curga 5 (0, 0)), (gt, Obj.cells #[.int .u8 3] 5 (0, 0)), (g5, Obj.cells (wcs ((a.w + b.w) % Big)) 27 (0, 0)), (w.heap.size + 1 + 1, Obj.cells (totA zTot) 29 (0, 0)), (w.heap.size + 1, Obj.cells (totA b) 29 (0, 0)), (w.heap.size, Obj.cells (totA a) 29 (0, 0))]
    refine anyH_phase [6, 13] 1 rfl ⟨_, he11.choose_spec⟩ (by kernel_rfl) ?_
    have hw12 : EnvX w _ [(gr, Obj.cells #[.slice (some ⟨gt, 0, none⟩) 1 1, .slice (some ⟨ga, 0, none⟩) 68 capga, .slice (some ⟨gb, 0, none⟩) 68 capgb] 72 (0, 0)), (gb, Obj.cells curgb 5 (0, 0)), (ga, Obj.cells curga 5 (0, 0)), (gt, Obj.cells #[.int .u8 3] 5 (0, 0)), (g5, Obj.cells (wcs ((a.w + b.w) % Big)) 27 (0, 0)), (w.heap.size + 1 + 1, Obj.cells (totA zTot) 29 (0, 0)), (w.heap.size + 1, Obj.cells (totA b) 29 (0, 0)), (w.heap.size, Obj.cells (totA a) 29 (0, 0))] := he11.choose_spec
    have hone := @EnvC.one _ _ _ hw12
    (refine wpG_call (f := 44) (args := #[.slice (some ⟨gr, 0, none⟩) 3 3]) (v := idv (joinT a b).h) rfl rfl rfl Tryd.func44 rfl rfl (fun u hu => HOF.out u gr (EnvX.sub hu (fun _ h => by cases h)) (parts_three (EnvX.lt hu (List.Mem.head _)) (by have h := box_cell (k := 0) hu (List.Mem.head _) rfl; exact h) (boxR_bytes (cap := 1) hu (List.Mem.tail _ (List.Mem.tail _ (List.Mem.tail _ (List.Mem.head _)))) rfl ⟨by decide, by decide, rfl, rfl⟩) (by intro x hx; cases List.mem_singleton.1 hx; omega) (by rw [partT_len HA.out]; have h := box_cell (k := 1) hu (List.Mem.head _) rfl; exact h) (boxR_bytes hu (List.Mem.tail _ (List.Mem.tail _ (List.Mem.head _))) (partT_len HA.out) HCga.out) HBA.out (by rw [partT_len HB.out]; have h := box_cell (k := 2) hu (List.Mem.head _) rfl; exact h) (boxR_bytes hu (List.Mem.tail _ (List.Mem.head _)) (partT_len HB.out) HCgb.out) HBB.out)) ?_ hw12; intro K hK; go_big_quiet_op; go_big_quiet_on)
    (refine wpG_val (v := .agg (totA (joinT a b))) rfl rfl (fun u hu => buildA_op u (built_tot (h := (joinT a b).h) HJ.out.len)) ?_ hw12; intro K hK; go_big_quiet_op; go_big_quiet_on)
    clear hone hw12
    refine wpG_nil ?_
    refine anyH_one (i := 14) (by kernel_rfl) (hOp_store rfl (w.heap.size + 1 + 1) (totA (joinT a b)) rfl rfl HLE.out 29 ((totA zTot)) (List.Mem.tail _ (List.Mem.tail _ (List.Mem.tail _ (List.Mem.tail _ (List.Mem.tail _ (List.Mem.head _)))))) (infoTot _ (totA_size HJ.out.len)) ((by decide +kernel : (totA zTot).size = 37).trans (totA_size HJ.out.len).symm) (totA_one _) [(w.heap.size + 1 + 1, Obj.cells (totA (joinT a b)) 29 (0, 0))] (List.forall_mem_cons.2 ⟨.inl rfl, (fun _ h => by cases h)⟩) ?_)
    intro he13
    refine anyH_done (by kernel_rfl) ?_
    intro u15 E2'
    have EX14 := Lib.hid E2'
    clear E2'
    have Q0 := Lib.hid (EnvX.box EX14.out _ _ (List.Mem.head _))
    have HBEL := Lib.hid EX14.out.bel
    clear EX14
    go_wp2_with ((with_reducible refine bodyPost_ret (v := .agg (totA (joinT a b))) ?_ ?_ ?_); (exact results_cell_row (p := 4) (ty := 29) Tryd.results20 _ _ (w.heap.size + 1 + 1) 29 (totA (joinT a b)) (0, 0) _ rfl Q0.out Tryd.underlying29 rfl (infoTot _ (totA_size HJ.out.len))); (rfl))
    exact HBEL.out
  · skip
    refine (hOp_fresh (R := FreshR 5 1 68 ((partT a).map u8v)) (M0 := [(g5, Obj.cells (wcs ((a.w + b.w) % Big)) 27 (0, 0)), (w.heap.size + 1 + 1, Obj.cells (totA zTot) 29 (0, 0)), (w.heap.size + 1, Obj.cells (totA b) 29 (0, 0)), (w.heap.size, Obj.cells (totA a) 29 (0, 0))]) rfl rfl (fun _ h => h) (fun u hu => FAt_call (fid := 46) (xs := #[.tmp 16]) (args := #[.agg (totA a)]) rfl Tryd.func46 rfl rfl u (callsR_fresh (HHA.out u (EnvX.sub hu (fun _ h => by cases h))))) ?_)
    rintro x N hF hf he16; intro K' hK'; go_big_quiet_op; go_big_quiet_on
    obtain ⟨ga, capga, curga, rfl, rfl, hcga⟩ | ⟨_, _, h0, _⟩ := hF
    case inr => cases h0
    have HCga := Lib.hid hcga
    clear hcga
    clear hf
    change anyH _ _ _ _ _ _ _ _ [(ga, Obj.cells curga 5 (0, 0)), (g5, Obj.cells (wcs ((a.w + b.w) % Big)) 27 (0, 0)), (w.heap.size + 1 + 1, Obj.cells (totA zTot) 29 (0, 0)), (w.heap.size + 1, Obj.cells (totA b) 29 (0, 0)), (w.heap.size, Obj.cells (totA a) 29 (0, 0))]
    refine anyH_two (i := 0) (j := 4) (by kernel_rfl) ?_ ?_
    · skip
      refine (hOp_fresh (R := fun v N => ∃ g, v = .slice (some ⟨g, 0, none⟩) 1 1 ∧ N = [(g, Obj.cells #[.int .u8 3] 5 (0, 0))]) (M0 := [(ga, Obj.cells curga 5 (0, 0)), (g5, Obj.cells (wcs ((a.w + b.w) % Big)) 27 (0, 0)), (w.heap.size + 1 + 1, Obj.cells (totA zTot) 29 (0, 0)), (w.heap.size + 1, Obj.cells (totA b) 29 (0, 0)), (w.heap.size, Obj.cells (totA a) 29 (0, 0))]) rfl rfl (fun _ h => h) (fun u hu => FAt_byte1 3 u) ?_)
      rintro _ _ ⟨gt, rfl, rfl⟩ hf he17; intro K' hK'; go_big_quiet_op; go_big_quiet_on
      clear hf
      change anyH _ _ _ _ _ _ _ _ [(gt, Obj.cells #[.int .u8 3] 5 (0, 0)), (ga, Obj.cells curga 5 (0, 0)), (g5, Obj.cells (wcs ((a.w + b.w) % Big)) 27 (0, 0)), (w.heap.size + 1 + 1, Obj.cells (totA zTot) 29 (0, 0)), (w.heap.size + 1, Obj.cells (totA b) 29 (0, 0)), (w.heap.size, Obj.cells (totA a) 29 (0, 0))]
      refine anyH_one (i := 4) (by kernel_rfl) (hOp_fresh (R := FreshR 5 1 68 ((partT b).map u8v)) (M0 := [(gt, Obj.cells #[.int .u8 3] 5 (0, 0)), (ga, Obj.cells curga 5 (0, 0)), (g5, Obj.cells (wcs ((a.w + b.w) % Big)) 27 (0, 0)), (w.heap.size + 1 + 1, Obj.cells (totA zTot) 29 (0, 0)), (w.heap.size + 1, Obj.cells (totA b) 29 (0, 0)), (w.heap.size, Obj.cells (totA a) 29 (0, 0))]) rfl rfl (fun _ h => h) (fun u hu => FAt_call (fid := 46) (xs := #[.tmp 18]) (args := #[.agg (totA b)]) rfl Tryd.func46 rfl rfl u (callsR_fresh (HHB.out u (EnvX.sub hu (fun _ h => by cases h))))) ?_)
      rintro x N hF hf he18; intro K' hK'; go_big_quiet_op; go_big_quiet_on
      obtain ⟨gb, capgb, curgb, rfl, rfl, hcgb⟩ | ⟨_, _, h0, _⟩ := hF
      case inr => cases h0
      have HCgb := Lib.hid hcgb
      clear hcgb
      clear hf
      change anyH _ _ _ _ _ _ _ _ [(gb, Obj.cells curgb 5 (0, 0)), (gt, Obj.cells #[.int .u8 3] 5 (0, 0)), (ga, Obj.cells curga 5 (0, 0)), (g5, Obj.cells (wcs ((a.w + b.w) % Big)) 27 (0, 0)), (w.heap.size + 1 + 1, Obj.cells (totA zTot) 29 (0, 0)), (w.heap.size + 1, Obj.cells (totA b) 29 (0, 0)), (w.heap.size, Obj.cells (totA a) 29 (0, 0))]
      refine anyH_one (i := 5) (by kernel_rfl) (hOp_fresh (R := fun v N => ∃ g, v = .slice (some ⟨g, 0, none⟩) 3 3 ∧ N = [(g, Obj.cells #[.slice (some ⟨gt, 0, none⟩) 1 1, .slice (some ⟨ga, 0, none⟩) 68 capga, .slice (some ⟨gb, 0, none⟩) 68 capgb] 72 (0, 0))]) (M0 := [(gb, Obj.cells curgb 5 (0, 0)), (gt, Obj.cells #[.int .u8 3] 5 (0, 0)), (ga, Obj.cells curga 5 (0, 0)), (g5, Obj.cells (wcs ((a.w + b.w) % Big)) 27 (0, 0)), (w.heap.size + 1 + 1, Obj.cells (totA zTot) 29 (0, 0)), (w.heap.size + 1, Obj.cells (totA b) 29 (0, 0)), (w.heap.size, Obj.cells (totA a) 29 (0, 0))]) rfl rfl (fun _ h => h) (fun u hu => FAt_rows3 rfl rfl rfl u) ?_)
      rintro _ _ ⟨gr, rfl, rfl⟩ hf he19; intro K' hK'; go_big_quiet_op; go_big_quiet_on
      clear hf
      change anyH _ _ _ _ _ _ _ _ [(gr, Obj.cells #[.slice (some ⟨gt, 0, none⟩) 1 1, .slice (some ⟨ga, 0, none⟩) 68 capga, .slice (some ⟨gb, 0, none⟩) 68 capgb] 72 (0, 0)), (gb, Obj.cells curgb 5 (0, 0)), (gt, Obj.cells #[.int .u8 3] 5 (0, 0)), (ga, Obj.cells curga 5 (0, 0)), (g5, Obj.cells (wcs ((a.w + b.w) % Big)) 27 (0, 0)), (w.heap.size + 1 + 1, Obj.cells (totA zTot) 29 (0, 0)), (w.heap.size + 1, Obj.cells (totA b) 29 (0, 0)), (w.heap.size, Obj.cells (totA a) 29 (0, 0))]
      refine anyH_phase [6, 13] 1 rfl ⟨_, he19.choose_spec⟩ (by kernel_rfl) ?_
      have hw20 : EnvX w _ [(gr, Obj.cells #[.slice (some ⟨gt, 0, none⟩) 1 1, .slice (some ⟨ga, 0, none⟩) 68 capga, .slice (some ⟨gb, 0, none⟩) 68 capgb] 72 (0, 0)), (gb, Obj.cells curgb 5 (0, 0)), (gt, Obj.cells #[.int .u8 3] 5 (0, 0)), (ga, Obj.cells curga 5 (0, 0)), (g5, Obj.cells (wcs ((a.w + b.w) % Big)) 27 (0, 0)), (w.heap.size + 1 + 1, Obj.cells (totA zTot) 29 (0, 0)), (w.heap.size + 1, Obj.cells (totA b) 29 (0, 0)), (w.heap.size, Obj.cells (totA a) 29 (0, 0))] := he19.choose_spec
      have hone := @EnvC.one _ _ _ hw20
      (refine wpG_call (f := 44) (args := #[.slice (some ⟨gr, 0, none⟩) 3 3]) (v := idv (joinT a b).h) rfl rfl rfl Tryd.func44 rfl rfl (fun u hu => HOF.out u gr (EnvX.sub hu (fun _ h => by cases h)) (parts_three (EnvX.lt hu (List.Mem.head _)) (by have h := box_cell (k := 0) hu (List.Mem.head _) rfl; exact h) (boxR_bytes (cap := 1) hu (List.Mem.tail _ (List.Mem.tail _ (List.Mem.head _))) rfl ⟨by decide, by decide, rfl, rfl⟩) (by intro x hx; cases List.mem_singleton.1 hx; omega) (by rw [partT_len HA.out]; have h := box_cell (k := 1) hu (List.Mem.head _) rfl; exact h) (boxR_bytes hu (List.Mem.tail _ (List.Mem.tail _ (List.Mem.tail _ (List.Mem.head _)))) (partT_len HA.out) HCga.out) HBA.out (by rw [partT_len HB.out]; have h := box_cell (k := 2) hu (List.Mem.head _) rfl; exact h) (boxR_bytes hu (List.Mem.tail _ (List.Mem.head _)) (partT_len HB.out) HCgb.out) HBB.out)) ?_ hw20; intro K hK; go_big_quiet_op; go_big_quiet_on)
      (refine wpG_val (v := .agg (totA (joinT a b))) rfl rfl (fun u hu => buildA_op u (built_tot (h := (joinT a b).h) HJ.out.len)) ?_ hw20; intro K hK; go_big_quiet_op; go_big_quiet_on)
      clear hone hw20
      refine wpG_nil ?_
      refine anyH_one (i := 14) (by kernel_rfl) (hOp_store rfl (w.heap.size + 1 + 1) (totA (joinT a b)) rfl rfl HLE.out 29 ((totA zTot)) (List.Mem.tail _ (List.Mem.tail _ (List.Mem.tail _ (List.Mem.tail _ (List.Mem.tail _ (List.Mem.head _)))))) (infoTot _ (totA_size HJ.out.len)) ((by decide +kernel : (totA zTot).size = 37).trans (totA_size HJ.out.len).symm) (totA_one _) [(w.heap.size + 1 + 1, Obj.cells (totA (joinT a b)) 29 (0, 0))] (List.forall_mem_cons.2 ⟨.inl rfl, (fun _ h => by cases h)⟩) ?_)
      intro he21
      refine anyH_done (by kernel_rfl) ?_
      intro u23 E2'
      have EX22 := Lib.hid E2'
      clear E2'
      have Q0 := Lib.hid (EnvX.box EX22.out _ _ (List.Mem.head _))
      have HBEL := Lib.hid EX22.out.bel
      clear EX22
      go_wp2_with ((with_reducible refine bodyPost_ret (v := .agg (totA (joinT a b))) ?_ ?_ ?_); (exact results_cell_row (p := 4) (ty := 29) Tryd.results20 _ _ (w.heap.size + 1 + 1) 29 (totA (joinT a b)) (0, 0) _ rfl Q0.out Tryd.underlying29 rfl (infoTot _ (totA_size HJ.out.len))); (rfl))
      exact HBEL.out
    · skip
      refine (hOp_fresh (R := FreshR 5 1 68 ((partT b).map u8v)) (M0 := [(ga, Obj.cells curga 5 (0, 0)), (g5, Obj.cells (wcs ((a.w + b.w) % Big)) 27 (0, 0)), (w.heap.size + 1 + 1, Obj.cells (totA zTot) 29 (0, 0)), (w.heap.size + 1, Obj.cells (totA b) 29 (0, 0)), (w.heap.size, Obj.cells (totA a) 29 (0, 0))]) rfl rfl (fun _ h => h) (fun u hu => FAt_call (fid := 46) (xs := #[.tmp 18]) (args := #[.agg (totA b)]) rfl Tryd.func46 rfl rfl u (callsR_fresh (HHB.out u (EnvX.sub hu (fun _ h => by cases h))))) ?_)
      rintro x N hF hf he24; intro K' hK'; go_big_quiet_op; go_big_quiet_on
      obtain ⟨gb, capgb, curgb, rfl, rfl, hcgb⟩ | ⟨_, _, h0, _⟩ := hF
      case inr => cases h0
      have HCgb := Lib.hid hcgb
      clear hcgb
      clear hf
      change anyH _ _ _ _ _ _ _ _ [(gb, Obj.cells curgb 5 (0, 0)), (ga, Obj.cells curga 5 (0, 0)), (g5, Obj.cells (wcs ((a.w + b.w) % Big)) 27 (0, 0)), (w.heap.size + 1 + 1, Obj.cells (totA zTot) 29 (0, 0)), (w.heap.size + 1, Obj.cells (totA b) 29 (0, 0)), (w.heap.size, Obj.cells (totA a) 29 (0, 0))]
      refine anyH_one (i := 0) (by kernel_rfl) (hOp_fresh (R := fun v N => ∃ g, v = .slice (some ⟨g, 0, none⟩) 1 1 ∧ N = [(g, Obj.cells #[.int .u8 3] 5 (0, 0))]) (M0 := [(gb, Obj.cells curgb 5 (0, 0)), (ga, Obj.cells curga 5 (0, 0)), (g5, Obj.cells (wcs ((a.w + b.w) % Big)) 27 (0, 0)), (w.heap.size + 1 + 1, Obj.cells (totA zTot) 29 (0, 0)), (w.heap.size + 1, Obj.cells (totA b) 29 (0, 0)), (w.heap.size, Obj.cells (totA a) 29 (0, 0))]) rfl rfl (fun _ h => h) (fun u hu => FAt_byte1 3 u) ?_)
      rintro _ _ ⟨gt, rfl, rfl⟩ hf he25; intro K' hK'; go_big_quiet_op; go_big_quiet_on
      clear hf
      change anyH _ _ _ _ _ _ _ _ [(gt, Obj.cells #[.int .u8 3] 5 (0, 0)), (gb, Obj.cells curgb 5 (0, 0)), (ga, Obj.cells curga 5 (0, 0)), (g5, Obj.cells (wcs ((a.w + b.w) % Big)) 27 (0, 0)), (w.heap.size + 1 + 1, Obj.cells (totA zTot) 29 (0, 0)), (w.heap.size + 1, Obj.cells (totA b) 29 (0, 0)), (w.heap.size, Obj.cells (totA a) 29 (0, 0))]
      refine anyH_one (i := 5) (by kernel_rfl) (hOp_fresh (R := fun v N => ∃ g, v = .slice (some ⟨g, 0, none⟩) 3 3 ∧ N = [(g, Obj.cells #[.slice (some ⟨gt, 0, none⟩) 1 1, .slice (some ⟨ga, 0, none⟩) 68 capga, .slice (some ⟨gb, 0, none⟩) 68 capgb] 72 (0, 0))]) (M0 := [(gt, Obj.cells #[.int .u8 3] 5 (0, 0)), (gb, Obj.cells curgb 5 (0, 0)), (ga, Obj.cells curga 5 (0, 0)), (g5, Obj.cells (wcs ((a.w + b.w) % Big)) 27 (0, 0)), (w.heap.size + 1 + 1, Obj.cells (totA zTot) 29 (0, 0)), (w.heap.size + 1, Obj.cells (totA b) 29 (0, 0)), (w.heap.size, Obj.cells (totA a) 29 (0, 0))]) rfl rfl (fun _ h => h) (fun u hu => FAt_rows3 rfl rfl rfl u) ?_)
      rintro _ _ ⟨gr, rfl, rfl⟩ hf he26; intro K' hK'; go_big_quiet_op; go_big_quiet_on
      clear hf
      change anyH _ _ _ _ _ _ _ _ [(gr, Obj.cells #[.slice (some ⟨gt, 0, none⟩) 1 1, .slice (some ⟨ga, 0, none⟩) 68 capga, .slice (some ⟨gb, 0, none⟩) 68 capgb] 72 (0, 0)), (gt, Obj.cells #[.int .u8 3] 5 (0, 0)), (gb, Obj.cells curgb 5 (0, 0)), (ga, Obj.cells curga 5 (0, 0)), (g5, Obj.cells (wcs ((a.w + b.w) % Big)) 27 (0, 0)), (w.heap.size + 1 + 1, Obj.cells (totA zTot) 29 (0, 0)), (w.heap.size + 1, Obj.cells (totA b) 29 (0, 0)), (w.heap.size, Obj.cells (totA a) 29 (0, 0))]
      refine anyH_phase [6, 13] 1 rfl ⟨_, he26.choose_spec⟩ (by kernel_rfl) ?_
      have hw27 : EnvX w _ [(gr, Obj.cells #[.slice (some ⟨gt, 0, none⟩) 1 1, .slice (some ⟨ga, 0, none⟩) 68 capga, .slice (some ⟨gb, 0, none⟩) 68 capgb] 72 (0, 0)), (gt, Obj.cells #[.int .u8 3] 5 (0, 0)), (gb, Obj.cells curgb 5 (0, 0)), (ga, Obj.cells curga 5 (0, 0)), (g5, Obj.cells (wcs ((a.w + b.w) % Big)) 27 (0, 0)), (w.heap.size + 1 + 1, Obj.cells (totA zTot) 29 (0, 0)), (w.heap.size + 1, Obj.cells (totA b) 29 (0, 0)), (w.heap.size, Obj.cells (totA a) 29 (0, 0))] := he26.choose_spec
      have hone := @EnvC.one _ _ _ hw27
      (refine wpG_call (f := 44) (args := #[.slice (some ⟨gr, 0, none⟩) 3 3]) (v := idv (joinT a b).h) rfl rfl rfl Tryd.func44 rfl rfl (fun u hu => HOF.out u gr (EnvX.sub hu (fun _ h => by cases h)) (parts_three (EnvX.lt hu (List.Mem.head _)) (by have h := box_cell (k := 0) hu (List.Mem.head _) rfl; exact h) (boxR_bytes (cap := 1) hu (List.Mem.tail _ (List.Mem.head _)) rfl ⟨by decide, by decide, rfl, rfl⟩) (by intro x hx; cases List.mem_singleton.1 hx; omega) (by rw [partT_len HA.out]; have h := box_cell (k := 1) hu (List.Mem.head _) rfl; exact h) (boxR_bytes hu (List.Mem.tail _ (List.Mem.tail _ (List.Mem.tail _ (List.Mem.head _)))) (partT_len HA.out) HCga.out) HBA.out (by rw [partT_len HB.out]; have h := box_cell (k := 2) hu (List.Mem.head _) rfl; exact h) (boxR_bytes hu (List.Mem.tail _ (List.Mem.tail _ (List.Mem.head _))) (partT_len HB.out) HCgb.out) HBB.out)) ?_ hw27; intro K hK; go_big_quiet_op; go_big_quiet_on)
      (refine wpG_val (v := .agg (totA (joinT a b))) rfl rfl (fun u hu => buildA_op u (built_tot (h := (joinT a b).h) HJ.out.len)) ?_ hw27; intro K hK; go_big_quiet_op; go_big_quiet_on)
      clear hone hw27
      refine wpG_nil ?_
      refine anyH_one (i := 14) (by kernel_rfl) (hOp_store rfl (w.heap.size + 1 + 1) (totA (joinT a b)) rfl rfl HLE.out 29 ((totA zTot)) (List.Mem.tail _ (List.Mem.tail _ (List.Mem.tail _ (List.Mem.tail _ (List.Mem.tail _ (List.Mem.head _)))))) (infoTot _ (totA_size HJ.out.len)) ((by decide +kernel : (totA zTot).size = 37).trans (totA_size HJ.out.len).symm) (totA_one _) [(w.heap.size + 1 + 1, Obj.cells (totA (joinT a b)) 29 (0, 0))] (List.forall_mem_cons.2 ⟨.inl rfl, (fun _ h => by cases h)⟩) ?_)
      intro he28
      refine anyH_done (by kernel_rfl) ?_
      intro u30 E2'
      have EX29 := Lib.hid E2'
      clear E2'
      have Q0 := Lib.hid (EnvX.box EX29.out _ _ (List.Mem.head _))
      have HBEL := Lib.hid EX29.out.bel
      clear EX29
      go_wp2_with ((with_reducible refine bodyPost_ret (v := .agg (totA (joinT a b))) ?_ ?_ ?_); (exact results_cell_row (p := 4) (ty := 29) Tryd.results20 _ _ (w.heap.size + 1 + 1) 29 (totA (joinT a b)) (0, 0) _ rfl Q0.out Tryd.underlying29 rfl (infoTot _ (totA_size HJ.out.len))); (rfl))
      exact HBEL.out
set_option maxRecDepth 20000 in
set_option maxHeartbeats 1000000 in
theorem mleaf_any (h : List Int) (n : Nat) (w : World) (hh : h.length = 32 ∧ ∀ b ∈ h, 0 ≤ b ∧ b ≤ 255) (hn : n < Big) :
    Calls Tryd.prog 22 #[idv h, .agg (wcs n)] w fun e w' => e = .returned (totV ⟨h, n, 1⟩) ∧ Below w.heap.size w w' := by
  have HH := Lib.hid hh
  have HO : Hid (len32 ⟨h, n, 1⟩) := hh.1
  have HLE : Hid (w.heap.size ≤ w.heap.size + 1 + 1) := by show _ ≤ _; omega
  have E1 : Hid (EnvX w (((w.alloc (.cells (arrB 32 h) 24)).alloc (.cells (wcs n) 27)).alloc (.cells (totA zTot) 29)) [(w.heap.size + 1 + 1, Obj.cells (totA zTot) 29 (0, 0)), (w.heap.size + 1, Obj.cells (wcs n) 27 (0, 0)), (w.heap.size, Obj.cells (arrB 32 h) 24 (0, 0))]) := EnvX.three _ _ _
  clear hh hn
  unfold totV idv
  go_enter Tryd.func22, Tryd.ntmps22
  go_upto_region 1 with (fail)
  rw [zero_totA]
  generalize ((w.alloc (.cells (arrB 32 h) 24)).alloc (.cells (wcs n) 27)).alloc (.cells (totA zTot) 29) = W at *
  refine wp_region_Hx (w0 := w) [0, 1, 2, 3] [(w.heap.size + 1 + 1, Obj.cells (totA zTot) 29 (0, 0)), (w.heap.size + 1, Obj.cells (wcs n) 27 (0, 0)), (w.heap.size, Obj.cells (arrB 32 h) 24 (0, 0))] rfl E1.out ?_
  refine lexH_phase [0, 1, 2] [3] ?_
  have hw1 : EnvX w _ [(w.heap.size + 1 + 1, Obj.cells (totA zTot) 29 (0, 0)), (w.heap.size + 1, Obj.cells (wcs n) 27 (0, 0)), (w.heap.size, Obj.cells (arrB 32 h) 24 (0, 0))] := E1.out
  have hone := @EnvC.one _ _ _ hw1
  (refine wpG_val (v := idv h) rfl rfl (fun u hu => load_run_op u (box_load hu (List.Mem.tail _ (List.Mem.tail _ (List.Mem.head _))) HH.out.1) rfl) ?_ hw1; intro K hK; go_big_quiet_op; go_big_quiet_on)
  (refine wpG_val (v := .agg (wcs n)) rfl rfl (fun u hu => load_any_op u (box_wide hu (List.Mem.tail _ (List.Mem.head _))) rfl) ?_ hw1; intro K hK; go_big_quiet_op; go_big_quiet_on)
  (refine wpG_val (v := .agg (totA ⟨h, n, 1⟩)) rfl rfl (fun u hu => buildA_op u (built_tot HH.out.1)) ?_ hw1; intro K hK; go_big_quiet_op; go_big_quiet_on)
  clear hone hw1
  refine wpG_nil ?_
  refine (hOp_store rfl (w.heap.size + 1 + 1) (totA ⟨h, n, 1⟩) rfl rfl HLE.out 29 ((totA zTot)) (List.Mem.head _) (infoTot _ (totA_size HO.out)) (zTot_size.trans (totA_size HO.out).symm) (totA_one _) [(w.heap.size + 1 + 1, Obj.cells (totA ⟨h, n, 1⟩) 29 (0, 0))] (List.forall_mem_cons.2 ⟨.inl rfl, (fun _ h => by cases h)⟩) ?_)
  intro he2
  intro u4 E2'
  have EX3 := Lib.hid E2'
  clear E2'
  have Q0 := Lib.hid (EnvX.box EX3.out _ _ (List.Mem.head _))
  have HBEL := Lib.hid EX3.out.bel
  clear EX3
  go_wp2_with ((with_reducible refine bodyPost_ret (v := .agg (totA ⟨h, n, 1⟩)) ?_ ?_ ?_); (exact results_cell_row (p := 4) (ty := 29) Tryd.results22 _ _ (w.heap.size + 1 + 1) 29 (totA ⟨h, n, 1⟩) (0, 0) _ rfl Q0.out Tryd.underlying29 rfl (infoTot _ (totA_size HO.out))); (rfl))
  exact HBEL.out
end Go.Proofs.YtbmiecogjmbciaaDoor

namespace Go.Proofs.YtbmiecogjmbciaaDoor
set_option maxRecDepth 8000
open Go.RowKit

theorem wp_scope_jumps2 {P : Program} {a : Act} {w : World} {Q : Exit → Act → World → Prop} {c rest : Code} (l : Nat) (J : Act → World → Prop) (μ : Act → World → Nat) (hf : findLabel c l = some (Code.skip.seq rest))
    (pass : ∀ a w, J a w → rest.wp P (Exit.jump l (fun a' w' => J a' w' ∧ μ a' w' < μ a w) Q) a w)
    (first : (∀ a w, J a w → rest.wp P (Exit.jump l J Q) a w) → c.wp P (Exit.jump l J Q) a w) : (Code.scope c).wp P Q a w :=
  wp_scope_jumps l J μ hf (first fun a w h => wp_mono (pass a w h) (fun e a w he => by cases e <;> first | exact he | exact ⟨he.1, he.2.1⟩)) (fun a w h => wp_seq (wp_skip (pass a w h)))
end Go.Proofs.YtbmiecogjmbciaaDoor
