/- Part of a proof. -/
import Derived.Test.YtmpjgfecnnefeaaDoorCi
import Derived.Orders
import Derived.OrdersIn
import Derived.OwnWalkIn
import Derived.RangeFuncCalls
import Derived.WalkKit
import Derived.RangeFuncBox
import Derived.RangeFuncNested
import Derived.RangeFuncBound
import Derived.RangeFuncLeaves
import Derived.Shelf.Abstract
import Derived.Shelf.RegionOpen
import Derived.TacticsInMore
import Derived.LoopNIn
import Derived.LoopIn
namespace Go.Proofs.YtmpjgfecnnefeaaDoor
set_option maxRecDepth 8000
open Go Go.RowKit

section
variable {P : Program} {ops : Array Oper} {Q : Exit → Act → World → Prop} {md : Region.Mode} {n l : Nat}
theorem oper_in {o : Oper} (hnd : ∀ c, o.op ≠ .defer c) {a : Act} {w : World} {K : Act → World → Prop} (h : o.wp P a w K Q) : o.wpIn (Fence.wide.inRound l) n P a w K Q := by
  refine ⟨fun _ _ => trivial, ?_⟩
  rw [Oper.semAt_plain _ _ _ hnd]
  unfold Oper.wp at h
  have hd : (Fence.wide.inRound l).depth.isSome = true → 1 ≤ n := fun h => by cases h
  generalize (execOp a.eval o).run P w = r at *
  cases r with
  | ok x w' =>
    cases x <;> simp only [Oper.upon, Oper.uponIn] at h ⊢
    case value => exact h
    case skip => exact h
    case defer => exact h
    case enter => exact ⟨hd, (CallsIn.inRound l (callsIn_wide.2 h)).mono (fun e w'' he => by cases e <;> exact he)⟩
    case row => exact ⟨hd, fun c cs _ => let ⟨v, w', r, s⟩ := h c cs; ⟨v, w', r, stepsIn_wide.2 s⟩⟩
  | halt x w' => cases x <;> simp only [Oper.upon, Oper.uponIn] at h ⊢ <;> exact h
def noDefer (ops : Array Oper) : Bool := ops.all fun o => match o.op with | .defer _ => false | _ => true
theorem noDefer_spec {ops : Array Oper} (h : noDefer ops = true) {i : Nat} {o : Oper} (ho : ops[i]? = some o) : ∀ c, o.op ≠ .defer c := by
  intro c hc
  have := Array.all_eq_true_iff_forall_mem.1 h o (Array.mem_of_getElem? ho)
  rw [hc] at this
  cases this
end
end Go.Proofs.YtmpjgfecnnefeaaDoor

namespace Go.Proofs.YtmpjgfecnnefeaaDoor
set_option maxRecDepth 8000
open Go.RowKit Go.Shelf

/-- what a round keeps: whatever lay below n₀, and the box Bb -/
def KpB (n₀ Bb : Nat) (W W' : World) : Prop := Below n₀ W W' ∧ (∀ o, W.heap[Bb]? = some o → W'.heap[Bb]? = some o)
theorem KpB.trans {n₀ Bb : Nat} {A B C : World} (h : KpB n₀ Bb A B) (k : KpB n₀ Bb B C) : KpB n₀ Bb A C := ⟨h.1.trans k.1, fun o ho => k.2 o (h.2 o ho)⟩
theorem KpB.put {n₀ Bb : Nat} {w : World} (hn : n₀ ≤ w.heap.size) (hB : Bb < w.heap.size) (W : World) (l : Nat) (o o' : Obj) (hl : w.heap.size ≤ l) (h : W.heap[l]? = some o) (h1 : o.isCells = false) (h2 : o.isWalk = false) : KpB n₀ Bb W (W.putObj l o') :=
  ⟨belowK_b hn W l o o' hl h h1 h2, fun u hu => (World.putObj_heap_other (by omega)).trans hu⟩
theorem keepsOthers_below {W W' : World} (h : Below W.heap.size W W') : KeepsOthers W W' := ⟨h.size, fun k o hk _ => (h.block k (Array.getElem?_eq_some_iff.1 hk).1).trans hk⟩
theorem KeepsOthers.setRow' {w : World} {g : Nat} {cs cs' : Array Value} {t : TypeId} (h : Row w g t cs) : KeepsOthers w (w.setRow g cs') := by
  refine ⟨by simp [World.setRow], fun k o hk ho => ?_⟩
  by_cases e : k = g
  · subst e
    rw [show w.heap[k]? = some _ from h] at hk
    cases hk
    cases ho
  · exact (setRow_other w g k cs' e).trans hk
theorem listIn_round {P : Program} {ops : Array Oper} {Q : Exit → Act → World → Prop} {n l : Nat} (hno : ¬ LetsOut Q) : ∀ (L : List Oper) (a : Act) (w : World), (∀ o ∈ L, ∀ c, o.op ≠ .defer c) → wpList P ops Q L a w → wpListIn (Fence.wide.inRound l) n P ops Q L a w
  | [], _, _, _, h => h
  | o :: L, a, w, hnd, h => by
    unfold wpList at h
    unfold wpListIn
    by_cases hw : Region.wanted o (yielded ops a.tmps) = true
    · simp only [hw, if_true] at h ⊢
      rcases h with h | ⟨_, h⟩
      · exact Oper.wpIn_mono (fun a' w' h3 => listIn_round hno L a' w' (fun o ho => hnd o (List.mem_cons_of_mem _ ho)) h3) (oper_in (hnd o (List.mem_cons_self ..)) h)
      · exact absurd h hno
    · simp only [hw] at h ⊢
      exact ⟨fun _ _ => trivial, listIn_round hno L _ w (fun o ho => hnd o (List.mem_cons_of_mem _ ho)) h⟩
/-- A PLAIN REGION, IN A ROUND -/
theorem region_round_list {P : Program} {Q : Exit → Act → World → Prop} {n l id : Nat} {a : Act} {w : World} {L : List Oper} (hnd : noDefer L.toArray = true) (hno : ¬ LetsOut Q) (h : wpList P L.toArray Q L a w) : (Code.region id L.toArray false).wpIn (Fence.wide.inRound l) n P Q a w :=
  wpIn_region_lit (listIn_round hno L a w (fun o ho => by
    obtain ⟨i, hi, e⟩ := List.getElem_of_mem ho
    exact noDefer_spec hnd (i := i) (o := o) (by rw [List.getElem?_toArray, List.getElem?_eq_getElem hi, e])) h)
/-- boxes abide the turn of what is no cells, and lies beyond where they began -/
theorem envx_turn {w W W' : World} {M : List (Nat × Obj)} {B : Nat} {row : Option Nat} (h : EnvX w W M) (hM : ∀ x ∈ M, x.2.isCells = true) (hB : w.heap.size ≤ B) (hg : W.grownBy W' row) (hr : ∀ r, row = some r → B ≤ r ∧ ∃ o : Obj, W.heap[r]? = some o ∧ o.isCells = false) : EnvX w W' M := by
  refine ⟨h.bel.trans (below_of_grown hg (fun g e => Nat.le_trans hB (hr g e).1) h.bel.size), fun g o hm => ?_⟩
  have hh := h.box g o hm
  refine (hg.block g (h.lt hm) (fun e => ?_)).trans hh
  obtain ⟨_, o', ho', hc⟩ := hr g e.symm
  rw [hh] at ho'
  cases ho'
  have := hM _ hm
  rw [this] at hc
  cases hc
/-- Two results, a whole array and a cell. -/
theorem results_row_cell {P : Program} {fn : Func} {p q : Tmp} {ty ty' : TypeId} (h : fn.results = #[.cell p ty, .cell q ty']) (tmps : Array Value) (w : World) (g g' : Nat) (t : TypeId) (cs : Array Value) (fr : Nat × Nat) (d : TypeDesc)
    (hp : tmps.getD p undef = .pointer (some ⟨g, 0, none⟩)) (hq : tmps.getD q undef = .pointer (some ⟨g', 0, none⟩)) (v : Value) (hv : (loadVar ty' ⟨g', 0, none⟩).run P w = .ok v w) (hg : w.heap[g]? = some (.cells cs t fr))
    (hu : P.underlying ty = some d) (hd : (match d with | .struct _ | .array _ _ => true | _ => false) = true) (hi : (P.info? ty).map (·.size) = some cs.size) :
    (results fn tmps).run P w = .ok (.tuple #[.agg cs, v]) w := by
  have hp' : tmps[p]?.getD undef = .pointer (some ⟨g, 0, none⟩) := by simpa using hp
  have hq' : tmps[q]?.getD undef = .pointer (some ⟨g', 0, none⟩) := by simpa using hq
  simp [results, h, hp', hq', asAddr, run_loadVar_row w g t ty cs fr d hg hu hd hi, hv]
end Go.Proofs.YtmpjgfecnnefeaaDoor

namespace Go.Proofs.YtmpjgfecnnefeaaDoor
set_option maxRecDepth 8000
open Go.RowKit Go.Shelf

theorem nonces_any (q : Int) (k : Int) (w : World) :
    Calls Tryd.prog 41 #[.int .u64 q, .int .i64 k] w fun e w' => e = .returned (.func (.func 60) #[] #[.pointer (some ⟨w.heap.size + 1, 0, none⟩), .pointer (some ⟨w.heap.size, 0, none⟩)]) ∧
      w' = (w.alloc (.cells #[.int .u64 q] 24)).alloc (.cells #[.int .i64 k] 3) := by
  go_enter Tryd.func41, Tryd.ntmps41
  go_wp2
  go_ret
  exact ⟨rfl, rfl⟩
attribute [local go_sem] Oper.semAt_some
set_option maxRecDepth 100000 in
set_option maxHeartbeats 2000000 in
theorem nonces1_in (n : Nat) (h1n : 1 ≤ n) (l Bc Bf n₀ q : Nat) (hq : q < 18446744073709551616) (cnt : Int) (K : Nat) (hcn : I64 cnt) (hK : cnt.toNat = K) (J Jx : List Nat → World → Prop)
    (hY : ∀ pre x W, J pre W → pre.length < K → YieldAt Fence.wide (n - 1) Tryd.prog l #[.int .u64 (((q + x) % 18446744073709551616 : Nat) : Int)] W fun e W' =>
      (e = .returned (.bool true) ∧ J (pre ++ [x]) W' ∧ KpB n₀ Bf W W') ∨ (e = .returned (.bool false) ∧ Jx (pre ++ [x]) W'))
    (W : World) (hBc : W.cell? ⟨Bc, 0, none⟩ = some (.int .i64 cnt)) (hBf : Boxed W Bf 24 (.int .u64 (q : Int))) (h0 : J [] W) :
    CallsIn Fence.wide n Tryd.prog 60 #[.func (.yield l) #[] #[], .pointer (some ⟨Bc, 0, none⟩), .pointer (some ⟨Bf, 0, none⟩)] W fun e W' => (∃ v, e = .returned v) ∧
      ((∃ ys, ys = List.range K ∧ J ys W') ∨ (∃ pre, (∃ j, pre = List.range (j + 1) ∧ j < K) ∧ Jx pre W')) := by
  unfold I64 at hcn
  have HYY := Lib.hid hY
  have HBB := Lib.hid hBf
  have HKK := Lib.hid hK
  clear hY hBf
  refine callsIn_of_wp Tryd.func60 rfl trivial ?_ rfl
  simp only [Tryd.ntmps60, List.size_toArray, List.length_cons, List.length_nil, Nat.reduceAdd, Nat.reduceSub, Array.replicate_succ, Array.replicate_zero, List.push_toArray, List.append_toArray, List.nil_append, List.cons_append]
  gi_wp2
  gi_loopw [6] (fun i wr => ∃ j : Nat, j ≤ K ∧ i = .int .i64 (j : Int) ∧ Hid (J (List.range j) wr ∧ KpB n₀ Bf W wr))
    (fun i _ => K - (intOf i).toNat)
  case atStart => exact ⟨0, Nat.zero_le _, rfl, h0, ⟨Below.refl _ _, fun _ h => h⟩⟩
  case round =>
    obtain ⟨j, hj, rfl, hinv⟩ := hrel
    obtain ⟨hJ, hKp⟩ := hinv.out
    by_cases hlt : j < K
    · have hj2 : (j : Int) < cnt := by omega
      have hbx : Boxed wr Bf 24 (.int .u64 (q : Int)) := hKp.2 _ HBB.out
      have hcb := hbx.cell
      obtain ⟨fn, tmps, assign, body, hy, hR⟩ := HYY.out (List.range j) j wr hJ (by rw [List.length_range]; exact hlt)
      obtain ⟨z, hz⟩ : ∃ z, (q + j) % 18446744073709551616 = z := ⟨_, rfl⟩
      rw [hz] at hy
      have s1 : IntKind.u64.wrap (j : Int) = (j : Int) := by rw [IntKind.wrap_u64]; omega
      have s2 : IntKind.u64.wrap ((q : Int) + (j : Int)) = (z : Int) := by rw [IntKind.wrap_u64]; omega
      have HR := Lib.hid hR
      have HKP := Lib.hid hKp
      have HS : Hid (List.range j ++ [j] = List.range (j + 1)) := List.range_succ.symm
      clear hJ hKp hinv hR hz hbx
      gi_wp2
      refine HR.out.mono ?_
      rintro e W3 (⟨rfl, hJ3, hk3⟩ | ⟨rfl, hJx3⟩)
      · rw [HS.out] at hJ3
        have HJ3 := Lib.hid hJ3
        have HK3 := Lib.hid hk3
        clear hJ3 hk3
        gi_wp2
        go_roundw
        case rel => exact ⟨j + 1, by omega, by go_num, HJ3.out, HKP.out.trans HK3.out⟩
        case measure => simp [intOf]; omega
      · rw [HS.out] at hJx3
        gi_wp2
        refine bodyPost_ret (results_none rfl _ _ _) rfl ?_
        exact ⟨⟨_, rfl⟩, .inr ⟨_, ⟨j, rfl, hlt⟩, hJx3⟩⟩
    · obtain rfl : j = K := by omega
      have hj3 : ¬ (j : Int) < cnt := by omega
      have HJ := Lib.hid hJ
      clear hJ hKp hinv
      gi_wp2
      go_end0
      first | exact ⟨⟨_, rfl⟩, .inl HJ.out⟩ | exact ⟨⟨_, rfl⟩, .inl ⟨_, rfl, HJ.out⟩⟩
/-- the number that comes k later -/
def nextN (q k : Nat) : Nat := (q + k) % 18446744073709551616
theorem nonces_stops (n : Nat) (h1n : 1 ≤ n) (Bc Bf n₀ q : Nat) (hq : q < 18446744073709551616) (cnt : Int) (K : Nat) (hcn : I64 cnt) (hK : cnt.toNat = K) (w : World) (hBc : Boxed w Bc 3 (.int .i64 cnt)) (hBf : Boxed w Bf 24 (.int .u64 (q : Int))) :
    SeqStopsK Fence.wide n Tryd.prog 60 #[.pointer (some ⟨Bc, 0, none⟩), .pointer (some ⟨Bf, 0, none⟩)] (fun k : Nat => #[.int .u64 (nextN q k : Int)]) (KpB n₀ Bf) (fun ys => ys = List.range K) (fun pre => ∃ j, pre = List.range (j + 1) ∧ j < K) K w := fun l J Jx W hW _ _ hY h0 =>
  nonces1_in n h1n l Bc Bf n₀ q hq cnt K hcn hK J Jx hY W ((hW.cell (p := ⟨Bc, 0, none⟩) hBc.lt).trans hBc.cell) ((hW.block Bf hBf.lt).trans hBf) h0
end Go.Proofs.YtmpjgfecnnefeaaDoor

namespace Go.Proofs.YtmpjgfecnnefeaaDoor
set_option maxRecDepth 8000
open Go.RowKit Go.Shelf

theorem callsR_nonces {q k : Int} {u : World} : Calls Tryd.prog 41 #[.int .u64 q, .int .i64 k] u (fun e w'' => ∃ x N, e = .returned x ∧ (∃ g1 g2, x = .func (.func 60) #[] #[.pointer (some ⟨g2, 0, none⟩), .pointer (some ⟨g1, 0, none⟩)] ∧ N = [(g2, Obj.cells #[.int .i64 k] 3 (0, 0)), (g1, Obj.cells #[.int .u64 q] 24 (0, 0))]) ∧ Below u.heap.size u w'' ∧ ∀ y ∈ N, u.heap.size ≤ y.1 ∧ w''.heap[y.1]? = some y.2) := by
  refine (nonces_any q k u).mono ?_
  rintro e w' ⟨rfl, rfl⟩
  refine ⟨_, _, rfl, ⟨_, _, rfl, rfl⟩, ((Below.refl _ _).alloc (Nat.le_refl _) _).alloc (by simp) _, fun y hy => ?_⟩
  have E := ((EnvX.start u).two (.cells #[.int .u64 q] 24) (.cells #[.int .i64 k] 3))
  rcases List.mem_cons.1 hy with rfl | hy
  · exact ⟨Nat.le_succ _, E.box _ _ (List.Mem.head _)⟩
  · cases List.mem_singleton.1 hy
    exact ⟨Nat.le_refl _, E.box _ _ (List.Mem.tail _ (List.Mem.head _))⟩
section
variable {a : Act} {dst : Option Tmp} {x y : Operand} {ty : TypeId} {pos : String} {after : Array Edge} {gd : Option (Nat × Bool)}
theorem minI_op {m k r : Int} (u : World) (hr : min m k = r) (hx : a.eval x = .int .i64 m) (hy : a.eval y = .int .i64 k) :
    (execOp a.eval ⟨dst, .call { callee := .builtin .min, args := #[x, y], argTypes := #[3, 3] }, ty, pos, after, gd⟩).run Tryd.prog u = .ok (.value (.int .i64 r)) u := by
  subst hr
  unfold execOp
  simp only [resolve, invoke, builtin, Sem.run_bind, Sem.run_pure, Result.andThen_ok, List.map_toArray, List.map_cons, List.map_nil, hx, hy]
  go_simp
  split <;> omega
end
theorem oneBoolH : ∀ w, (isAgg 4).run Tryd.prog w = .ok false w := fun w => by simp [isAgg, run_underlying Tryd.underlying4]
theorem infoBoolH : (Tryd.prog.info? 4).map (·.size) = some 1 := by kernel_rfl
theorem hdA_put {h : Hd} (k : lenH h) (z : Nat) : (hdA h).setIfInBounds 134 (.int .u64 (z : Int)) = hdA { h with nonce := z } := by
  obtain ⟨p, hp, hl⟩ : ∃ p : List Value, (∀ n : Nat, hdC { h with nonce := n } = p ++ [.int .u64 (n : Int)]) ∧ p.length = 134 := by
    refine ⟨[.int .i64 h.height] ++ ((arrB 32 h.prev).toList ++ ((arrB 32 h.links).toList ++ ((arrB 32 h.txs).toList ++ ((arrB 32 h.past).toList ++ ((wcs h.work).toList ++ [.int .u32 h.bits]))))), fun n => ?_, ?_⟩
    · unfold hdC
      simp only [List.append_assoc]
    · simp only [List.length_append, idA_list k.1, idA_list k.2.1, idA_list k.2.2.1, idA_list k.2.2.2, wcs_list, List.length_cons, List.length_nil]
  have e1 : hdC h = p ++ [.int .u64 (h.nonce : Int)] := hp h.nonce
  unfold hdA
  rw [e1, hp z, List.setIfInBounds_toArray, List.set_append_right _ _ (by omega), hl]
  rfl
attribute [local go_sem] Oper.semAt_some
set_option maxRecDepth 100000 in
set_option maxHeartbeats 8000000 in
theorem hmine_any (h : Hd) (tries : Int) (w : World) (hh : okHd h) (ht : I64 tries) (hT : Tables w) :
    Calls Tryd.prog 14 #[hdV h, .int .i64 tries] w fun e w' => e = .returned (.tuple #[hdV (mineH h tries).1, .bool (mineH h tries).2]) ∧ Below w.heap.size w w' := by
  have HL := Lib.hid hh.len
  have HOK := Lib.hid hh
  have HTB := Lib.hid hT
  have HLE : Hid (w.heap.size ≤ w.heap.size + 1) := by show _ ≤ _; omega
  have HZN : Hid (lenH noHd) := ⟨rfl, rfl, rfl, rfl⟩
  have HLE2 : Hid (w.heap.size ≤ w.heap.size + 1 + 1) := by show _ ≤ _; omega
  obtain ⟨K, hK⟩ : ∃ K, (min tries 200).toNat = K := ⟨_, rfl⟩
  have HK := Lib.hid hK
  obtain ⟨cnt, hcnt⟩ : ∃ cnt, min tries 200 = cnt := ⟨_, rfl⟩
  have HCN := Lib.hid hcnt
  have E1 : Hid (EnvX w (((w.alloc (.cells (hdA h) 29)).alloc (.cells (hdA noHd) 29)).alloc (.cells #[.bool false] 4)) [(w.heap.size + 1 + 1, Obj.cells #[.bool false] 4 (0, 0)), (w.heap.size + 1, Obj.cells (hdA noHd) 29 (0, 0)), (w.heap.size, Obj.cells (hdA h) 29 (0, 0))]) := by
    have k := ((EnvX.start w).two (.cells (hdA h) 29) (.cells (hdA noHd) 29)).new (.cells #[.bool false] 4)
    rwa [World.size_alloc, World.size_alloc] at k
  obtain ⟨res, hres⟩ : ∃ res, mineH h tries = res := ⟨_, rfl⟩
  have HRES := Lib.hid hres
  rw [hres]
  clear hres
  unfold I64 at ht
  clear hh hT
  unfold hdV
  refine (callsIn_wide (n := 4)).1 (callsIn_of_wp_marks Tryd.func14 rfl trivial ((wpIn_wide (n := 4)).2 ?_) rfl)
  simp only [Tryd.ntmps14, List.size_toArray, List.length_cons, List.length_nil, Nat.reduceAdd, Nat.reduceSub, Array.replicate_succ, Array.replicate_zero, List.push_toArray, List.append_toArray, List.nil_append, List.cons_append]
  go_upto_region 1 with (fail)
  rw [← zero_hdA]
  generalize ((w.alloc (.cells (hdA h) 29)).alloc (.cells (hdA noHd) 29)).alloc (.cells #[.bool false] 4) = W at *
  refine wp_region_Hx (w0 := w) [0, 1, 2] [(w.heap.size + 1 + 1, Obj.cells #[.bool false] 4 (0, 0)), (w.heap.size + 1, Obj.cells (hdA noHd) 29 (0, 0)), (w.heap.size, Obj.cells (hdA h) 29 (0, 0))] rfl E1.out ?_
  refine lexH_phase [0] [1, 2] ?_
  have hw1 : EnvX w _ [(w.heap.size + 1 + 1, Obj.cells #[.bool false] 4 (0, 0)), (w.heap.size + 1, Obj.cells (hdA noHd) 29 (0, 0)), (w.heap.size, Obj.cells (hdA h) 29 (0, 0))] := E1.out
  have hone := @EnvC.one _ _ _ hw1
  (refine wpG_val (v := hdV h) rfl rfl (fun u hu => load_any_op u (box_hd hu (List.Mem.tail _ (List.Mem.tail _ (List.Mem.head _))) HL.out) rfl) ?_ hw1; intro K hK; go_big_quiet_op; go_big_quiet_on)
  clear hone hw1
  refine wpG_nil ?_
  refine (hOp_fresh (R := fun x N => ∃ g, x = .pointer (some ⟨g, 0, none⟩) ∧ N = [(g, Obj.cells (hdA noHd) 29 (0, 0))]) (M0 := [(w.heap.size + 1 + 1, Obj.cells #[.bool false] 4 (0, 0)), (w.heap.size + 1, Obj.cells (hdA noHd) 29 (0, 0)), (w.heap.size, Obj.cells (hdA h) 29 (0, 0))]) rfl rfl (fun _ h => h) (fun u hu => FAt_new (new_hd _) u) ?_)
  rintro _ _ ⟨gx, rfl, rfl⟩ hf he2; intro K' hK'; go_big_quiet_op; go_big_quiet_on
  have HGX := Lib.hid (hf _ (List.mem_singleton.2 rfl))
  clear hf
  change lexH _ _ _ _ _ _ [(gx, Obj.cells (hdA noHd) 29 (0, 0)), (w.heap.size + 1 + 1, Obj.cells #[.bool false] 4 (0, 0)), (w.heap.size + 1, Obj.cells (hdA noHd) 29 (0, 0)), (w.heap.size, Obj.cells (hdA h) 29 (0, 0))]
  refine (hOp_store rfl (gx) (hdA h) rfl rfl HGX.out.1 29 ((hdA noHd)) (List.Mem.head _) (infoHd _ (hdA_size HL.out)) ((hdA_size HZN.out).trans (hdA_size HL.out).symm) (hdA_one _) [(gx, Obj.cells (hdA h) 29 (0, 0)), (w.heap.size + 1 + 1, Obj.cells #[.bool false] 4 (0, 0)), (w.heap.size + 1, Obj.cells (hdA noHd) 29 (0, 0)), (w.heap.size, Obj.cells (hdA h) 29 (0, 0))] (List.forall_mem_cons.2 ⟨.inl rfl, fun y hy => .inr ⟨List.mem_cons_of_mem _ hy, HGX.out.2 y hy⟩⟩) ?_)
  intro he3
  intro u5 E2'
  have EX4 := Lib.hid E2'
  clear E2'
  go_upto_region 2 with (fail)
  refine wp_region_Hx (w0 := w) [0, 1, 2, 3, 4] [(gx, Obj.cells (hdA h) 29 (0, 0)), (w.heap.size + 1 + 1, Obj.cells #[.bool false] 4 (0, 0)), (w.heap.size + 1, Obj.cells (hdA noHd) 29 (0, 0)), (w.heap.size, Obj.cells (hdA h) 29 (0, 0))] rfl EX4.out ?_
  refine lexH_phase [0, 1, 2, 3] [4] ?_
  have hw6 : EnvX w _ [(gx, Obj.cells (hdA h) 29 (0, 0)), (w.heap.size + 1 + 1, Obj.cells #[.bool false] 4 (0, 0)), (w.heap.size + 1, Obj.cells (hdA noHd) 29 (0, 0)), (w.heap.size, Obj.cells (hdA h) 29 (0, 0))] := EX4.out
  have hone := @EnvC.one _ _ _ hw6
  (refine wpG_op rfl rfl rfl ?_; intro K hK; go_big_quiet_op; go_big_quiet_on)
  (refine wpG_val (v := .int .u64 (h.nonce : Int)) rfl rfl (fun u hu => load_any_op u (box_hd_nonce hu (List.Mem.tail _ (List.Mem.tail _ (List.Mem.tail _ (List.Mem.head _)))) HL.out) rfl) ?_ hw6; intro K hK; go_big_quiet_op; go_big_quiet_on)
  (refine wpG_op rfl rfl rfl ?_; intro K hK; go_big_quiet_op; go_big_quiet_on)
  (refine wpG_val (v := .int .i64 cnt) rfl rfl (fun u hu => minI_op u HCN.out rfl rfl) ?_ hw6; intro K hK; go_big_quiet_op; go_big_quiet_on)
  clear hone hw6
  refine wpG_nil ?_
  refine (hOp_fresh (R := fun x N => ∃ g1 g2, x = .func (.func 60) #[] #[.pointer (some ⟨g2, 0, none⟩), .pointer (some ⟨g1, 0, none⟩)] ∧ N = [(g2, Obj.cells #[.int .i64 cnt] 3 (0, 0)), (g1, Obj.cells #[.int .u64 (h.nonce : Int)] 24 (0, 0))]) (M0 := [(gx, Obj.cells (hdA h) 29 (0, 0)), (w.heap.size + 1 + 1, Obj.cells #[.bool false] 4 (0, 0)), (w.heap.size + 1, Obj.cells (hdA noHd) 29 (0, 0)), (w.heap.size, Obj.cells (hdA h) 29 (0, 0))]) rfl rfl (fun _ h => h) (fun u hu => FAt_call (fid := 41) (xs := #[.tmp 10, .tmp 12]) (args := #[.int .u64 (h.nonce : Int), .int .i64 cnt]) rfl Tryd.func41 rfl rfl u (callsR_nonces)) ?_)
  rintro _ _ ⟨gf, gc, rfl, rfl⟩ hf he7; intro K' hK'; go_big_quiet_op; go_big_quiet_on
  have HGC := Lib.hid (hf _ (List.Mem.head _))
  have HGF := Lib.hid (hf _ (List.Mem.tail _ (List.Mem.head _)))
  clear hf
  change lexH _ _ _ _ _ _ [(gc, Obj.cells #[.int .i64 cnt] 3 (0, 0)), (gf, Obj.cells #[.int .u64 (h.nonce : Int)] 24 (0, 0)), (gx, Obj.cells (hdA h) 29 (0, 0)), (w.heap.size + 1 + 1, Obj.cells #[.bool false] 4 (0, 0)), (w.heap.size + 1, Obj.cells (hdA noHd) 29 (0, 0)), (w.heap.size, Obj.cells (hdA h) 29 (0, 0))]
  intro u9 E2'
  have EX8 := Lib.hid E2'
  clear E2'
  clear he2 he3 EX4 E1
  have EX := EX8.out
  clear EX8
  have hsz := EX.bel.size
  have hnon := HOK.out.2.2.2.2.2.2.2
  have hcn : I64 cnt := by unfold I64; omega
  have hck : cnt.toNat = K := by omega
  have HGX2 : Hid (w.heap.size ≤ gx ∧ gx ≠ gc ∧ gx ≠ gf ∧ gx ≠ w.heap.size + 1 + 1 ∧ gx ≠ w.heap.size + 1 ∧ gx ≠ w.heap.size) := by
    have a1 := HGX.out.2 _ (List.Mem.head _)
    have a2 := HGX.out.2 _ (List.Mem.tail _ (List.Mem.head _))
    have a3 := HGX.out.2 _ (List.Mem.tail _ (List.Mem.tail _ (List.Mem.head _)))
    have b1 := HGC.out.2 _ (List.Mem.head _)
    have b2 := HGF.out.2 _ (List.Mem.head _)
    dsimp only at a1 a2 a3 b1 b2
    exact ⟨HGX.out.1, b1, b2, Ne.symm a1, Ne.symm a2, Ne.symm a3⟩
  have HGF2 : Hid (gf ≠ w.heap.size + 1 + 1 ∧ gf ≠ w.heap.size + 1) := by
    have b1 := HGF.out.2 _ (List.Mem.tail _ (List.Mem.head _))
    have b2 := HGF.out.2 _ (List.Mem.tail _ (List.Mem.tail _ (List.Mem.head _)))
    dsimp only at b1 b2
    exact ⟨Ne.symm b1, Ne.symm b2⟩
  have HCL : Hid (∀ (m : Nat), ∀ x ∈ [(gc, Obj.cells #[.int .i64 cnt] 3 (0, 0)), (gf, Obj.cells #[.int .u64 (h.nonce : Int)] 24 (0, 0)), (gx, Obj.cells (hdA { h with nonce := m }) 29 (0, 0)), (w.heap.size + 1 + 1, Obj.cells #[.bool false] 4 (0, 0)), (w.heap.size + 1, Obj.cells (hdA noHd) 29 (0, 0)), (w.heap.size, Obj.cells (hdA h) 29 (0, 0))], x.2.isCells = true) := fun m x hx => by
    simp only [List.mem_cons, List.not_mem_nil, or_false] at hx
    rcases hx with rfl | rfl | rfl | rfl | rfl | rfl <;> rfl
  go_wp2_with fail
  refine (wpIn_wide (n := 4)).1 ?_
  refine wpIn_rangeFunc_ownF (F := Fence.wide) (α := Nat) (gf := 60) (lb := #[.pointer (some ⟨gc, 0, none⟩), .pointer (some ⟨gf, 0, none⟩)]) rfl (by decide) rfl trivial (enters_of Tryd.func60 (by kernel_rfl) rfl)
    (nonces_stops 3 (by decide) gc gf w.heap.size h.nonce hnon cnt K hcn hck u9 (EnvX.box EX _ _ (List.Mem.head _)) (EnvX.box EX _ _ (List.Mem.tail _ (List.Mem.head _)))) KpB.trans (KpB.put hsz (EnvX.lt EX (List.Mem.tail _ (List.Mem.head _)))) (Below.refl _ _) (fun _ => rfl)
    (fun pre W => (∀ x ∈ pre, mayH (nonceAt h x) = false) ∧ ∃ m : Nat, EnvX w W [(gc, Obj.cells #[.int .i64 cnt] 3 (0, 0)), (gf, Obj.cells #[.int .u64 (h.nonce : Int)] 24 (0, 0)), (gx, Obj.cells (hdA { h with nonce := m }) 29 (0, 0)), (w.heap.size + 1 + 1, Obj.cells #[.bool false] 4 (0, 0)), (w.heap.size + 1, Obj.cells (hdA noHd) 29 (0, 0)), (w.heap.size, Obj.cells (hdA h) 29 (0, 0))])
    (fun c pre W => c = .ret ∧ ∃ (pre' : List Nat) (k : Nat), pre = pre' ++ [k] ∧ (∀ x ∈ pre', mayH (nonceAt h x) = false) ∧ mayH (nonceAt h k) = true ∧ EnvX w W [(w.heap.size + 1 + 1, Obj.cells #[.bool true] 4 (0, 0)), (w.heap.size + 1, Obj.cells (hdA (nonceAt h k)) 29 (0, 0))])
    (fun s A B row hs hg hr => ⟨hs.1, hs.2.imp fun m he => envx_turn he (HCL.out m) hsz hg hr⟩)
    (fun c s A B row hs hg hr => ⟨hs.1, hs.2.imp fun pre' hs => hs.imp fun k hs => ⟨hs.1, hs.2.1, hs.2.2.1, envx_turn hs.2.2.2 (fun x hx => by
      simp only [List.mem_cons, List.not_mem_nil, or_false] at hx
      rcases hx with rfl | rfl <;> rfl) hsz hg hr⟩⟩)
    ⟨(fun x hx => by cases hx), h.nonce, EX⟩
    (fun k => { tmps := #[.agg (hdA h), .int .i64 tries, .pointer (some ⟨w.heap.size, 0, none⟩), undef, .pointer (some ⟨w.heap.size + 1, 0, none⟩), .pointer (some ⟨w.heap.size + 1 + 1, 0, none⟩), .pointer (some ⟨gx, 0, none⟩), .int .u64 (nextN h.nonce k : Int), hdV h, .pointer (some ⟨w.heap.size, 134, none⟩), .int .u64 (h.nonce : Int), .int .i64 tries, .int .i64 cnt, .func (.func 60) #[] #[.pointer (some ⟨gc, 0, none⟩), .pointer (some ⟨gf, 0, none⟩)], .int .u64 (nextN h.nonce k : Int), undef, undef, undef, undef, undef, undef], defers := [] }) ?assign ?body ?done ?stop
  case assign =>
    intro l k W K hK
    gi_wp2
    exact hK
  case body =>
    rintro l pre k W ⟨hno, m, hI⟩ hlen
    have r0 : Row W gx 29 (hdA { h with nonce := m }) := EnvX.box hI _ _ (List.Mem.tail _ (List.Mem.tail _ (List.Mem.head _)))
    have hc : W.cell? ⟨gx, 134, none⟩ = some (.int .u64 (m : Int)) := (r0.cell 134).trans (hdC_nonce (h := { h with nonce := m }) HL.out)
    have hf := r0.frozen 134
    refine wpIn_block (wpIn_seq ?_)
    refine region_round_list (by kernel_rfl) (fun h => by obtain ⟨_, _, h⟩ := h; exact h) ?_
    go_wp2
    have E1 : Hid (EnvX w (W.setCell ⟨gx, 134, none⟩ (.int .u64 (nextN h.nonce k : Int))) [(gc, Obj.cells #[.int .i64 cnt] 3 (0, 0)), (gf, Obj.cells #[.int .u64 (h.nonce : Int)] 24 (0, 0)), (gx, Obj.cells (hdA (nonceAt h k)) 29 (0, 0)), (w.heap.size + 1 + 1, Obj.cells #[.bool false] 4 (0, 0)), (w.heap.size + 1, Obj.cells (hdA noHd) 29 (0, 0)), (w.heap.size, Obj.cells (hdA h) 29 (0, 0))]) := by
      refine ⟨hI.bel.setCell (p := ⟨gx, 134, none⟩) HGX2.out.1 _, fun g o hm => ?_⟩
      have hne : ∀ g' o', (g', o') ∈ [(gc, Obj.cells #[.int .i64 cnt] 3 (0, 0)), (gf, Obj.cells #[.int .u64 (h.nonce : Int)] 24 (0, 0)), (gx, Obj.cells (hdA { h with nonce := m }) 29 (0, 0)), (w.heap.size + 1 + 1, Obj.cells #[.bool false] 4 (0, 0)), (w.heap.size + 1, Obj.cells (hdA noHd) 29 (0, 0)), (w.heap.size, Obj.cells (hdA h) 29 (0, 0))] → gx ≠ g' → (W.setCell ⟨gx, 134, none⟩ (.int .u64 (nextN h.nonce k : Int))).heap[g']? = some o' := fun g' o' hm hn => (Below.heap_setCell W ⟨gx, 134, none⟩ _ g' (Ne.symm hn)).trans (hI.box g' o' hm)
      have hG := HGX2.out.2
      simp only [List.mem_cons, Prod.mk.injEq, List.not_mem_nil, or_false] at hm
      rcases hm with ⟨rfl, rfl⟩ | ⟨rfl, rfl⟩ | ⟨rfl, rfl⟩ | ⟨rfl, rfl⟩ | ⟨rfl, rfl⟩ | ⟨rfl, rfl⟩
      · exact hne _ _ (List.Mem.head _) hG.1
      · exact hne _ _ (List.Mem.tail _ (List.Mem.head _)) hG.2.1
      · have := r0.put 134 (.int .u64 (nextN h.nonce k : Int))
        rw [hdA_put (h := { h with nonce := m }) HL.out] at this
        exact this
      · exact hne _ _ (List.Mem.tail _ (List.Mem.tail _ (List.Mem.tail _ (List.Mem.head _)))) hG.2.2.1
      · exact hne _ _ (List.Mem.tail _ (List.Mem.tail _ (List.Mem.tail _ (List.Mem.tail _ (List.Mem.head _))))) hG.2.2.2.1
      · exact hne _ _ (List.Mem.tail _ (List.Mem.tail _ (List.Mem.tail _ (List.Mem.tail _ (List.Mem.tail _ (List.Mem.head _)))))) hG.2.2.2.2
    have HKO : Hid (KeepsOthers W (W.setCell ⟨gx, 134, none⟩ (.int .u64 (nextN h.nonce k : Int))) ∧ Below w.heap.size W (W.setCell ⟨gx, 134, none⟩ (.int .u64 (nextN h.nonce k : Int)))) := ⟨KeepsOthers.setCell _ _ _, (Below.refl _ _).setCell (p := ⟨gx, 134, none⟩) HGX2.out.1 _⟩
    have HNO := Lib.hid hno
    have HI := Lib.hid hI
    have HLK : lenH (nonceAt h k) := HL.out
    have HWS : Hid (w.heap.size ≤ W.heap.size) := hI.bel.size
    clear hc hf r0 hno hI
    generalize W.setCell ⟨gx, 134, none⟩ (.int .u64 (nextN h.nonce k : Int)) = W1 at *
    refine wpIn_seq ?_
    refine region_round_list (by kernel_rfl) (fun h => by obtain ⟨_, _, h⟩ := h; exact h) ?_
    have HLD : Hid ((loadVar 29 ⟨gx, 0, none⟩).run Tryd.prog W1 = .ok (.agg (hdA (nonceAt h k))) W1) := box_hd E1.out (List.Mem.tail _ (List.Mem.tail _ (List.Mem.head _))) HLK
    go_wp2_with ((with_reducible refine wpList_load_run (o := ⟨some 17, _, _, _, _, _⟩) ?_ 29 (.tmp 6) ?_ ⟨gx, 0, none⟩ ?_ HLD.out ?_); (rfl); (rfl); (rfl))
    refine (hmay_any (nonceAt h k) W1 (okHd_nonce HOK.out k) (HTB.out.below E1.out.bel)).mono ?_
    rintro e W2 ⟨rfl, hb2⟩
    have E2 : Hid (EnvX w W2 [(gc, Obj.cells #[.int .i64 cnt] 3 (0, 0)), (gf, Obj.cells #[.int .u64 (h.nonce : Int)] 24 (0, 0)), (gx, Obj.cells (hdA (nonceAt h k)) 29 (0, 0)), (w.heap.size + 1 + 1, Obj.cells #[.bool false] 4 (0, 0)), (w.heap.size + 1, Obj.cells (hdA noHd) 29 (0, 0)), (w.heap.size, Obj.cells (hdA h) 29 (0, 0))]) := EnvX.below E1.out hb2
    have HKO2 : Hid (KeepsOthers W W2 ∧ Below w.heap.size W W2) := ⟨HKO.out.1.trans (keepsOthers_below hb2), HKO.out.2.trans (hb2.mono (Nat.le_trans HWS.out HKO.out.2.size))⟩
    clear hb2 E1 HLD HKO
    cases hm : mayH (nonceAt h k) with
    | false =>
      have HNO2 : Hid (∀ x ∈ pre ++ [k], mayH (nonceAt h x) = false) := fun x hx => by
        rcases List.mem_append.1 hx with hx | hx
        · exact HNO.out x hx
        · cases List.mem_singleton.1 hx
          exact hm
      clear hm
      go_wp2
      refine wpIn_cond_false rfl (wpIn_skip ?_)
      exact ⟨HKO2.out.1, ⟨HKO2.out.2, fun o ho => by
        rw [EnvX.box HI.out _ _ (List.Mem.tail _ (List.Mem.head _))] at ho
        cases ho
        exact EnvX.box E2.out _ _ (List.Mem.tail _ (List.Mem.head _))⟩, HNO2.out, nextN h.nonce k, E2.out⟩
    | true =>
      go_wp2
      refine wpIn_cond_true rfl (wpIn_seq ?_)
      refine region_round_list (by kernel_rfl) (fun h => by obtain ⟨_, _, h⟩ := h; exact h) ?_
      have HM := Lib.hid hm
      have HLD : Hid ((loadVar 29 ⟨gx, 0, none⟩).run Tryd.prog W2 = .ok (.agg (hdA (nonceAt h k))) W2) := box_hd E2.out (List.Mem.tail _ (List.Mem.tail _ (List.Mem.head _))) HLK
      have R1 : Hid (W2.heap[w.heap.size + 1]? = some (.cells (hdA noHd) 29 (0, 0))) := EnvX.box E2.out _ _ (List.Mem.tail _ (List.Mem.tail _ (List.Mem.tail _ (List.Mem.tail _ (List.Mem.head _)))))
      have R2 : Hid (Row (W2.setRow (w.heap.size + 1) (hdA (nonceAt h k))) (w.heap.size + 1 + 1) 4 #[.bool false]) := Row.setRowFar (EnvX.box E2.out _ _ (List.Mem.tail _ (List.Mem.tail _ (List.Mem.tail _ (List.Mem.head _))))) (by omega)
      have R3 : Hid (Row (W2.setRow (w.heap.size + 1) (hdA (nonceAt h k))) (w.heap.size + 1) 29 (hdA (nonceAt h k))) := Row.setRow R1.out
      have hc2 := R2.out.cell 0
      have hf2 := R2.out.frozen 0
      have HK3 : Hid (KeepsOthers W (W2.setRow (w.heap.size + 1) (hdA (nonceAt h k))) ∧ Below w.heap.size W (W2.setRow (w.heap.size + 1) (hdA (nonceAt h k)))) := ⟨HKO2.out.1.trans (KeepsOthers.setRow' R1.out), below_setRow HKO2.out.2 (Nat.le_succ _) _⟩
      have hszk : Hid ((hdA (nonceAt h k)).size = 135) := hdA_size HLK
      have hsz0 : Hid ((hdA noHd).size = 135) := hdA_size HZN.out
      have ho := Lib.hid (hdA_one (nonceAt h k))
      clear hm E2 HKO2
      generalize hE2 : hdA (nonceAt h k) = cs at *
      have HE := Lib.hid hE2
      clear hE2
      generalize hdA noHd = zs at *
      go_wp2_with (first
        | ((with_reducible refine wpList_load_run (o := ⟨some 19, _, _, _, _, _⟩) ?_ 29 (.tmp 6) ?_ ⟨gx, 0, none⟩ ?_ HLD.out ?_); (rfl); (rfl); (rfl))
        | ((with_reducible refine wpList_store_row (o := ⟨none, .store 29 _ _, _, _, _, _⟩) ?_ 29 (.tmp 4) (.tmp 19) ?_ (w.heap.size + 1) cs ?_ ?_ 29 zs R1.out (infoHd cs hszk.out) (by rw [hsz0.out, hszk.out]) ho.out ?_); (rfl); (rfl); (rfl); (rfl)))
      refine wpIn_ret ?_
      refine ⟨HK3.out.1.trans (KeepsOthers.setCell _ _ _), rfl, pre, k, rfl, HNO.out, HM.out, ⟨?_, fun g o hm => ?_⟩⟩
      · exact (HI.out.bel.trans HK3.out.2).setCell (p := ⟨w.heap.size + 1 + 1, 0, none⟩) (by show w.heap.size ≤ w.heap.size + 1 + 1; omega) _
      · rw [HE.out] at hm
        simp only [List.mem_cons, Prod.mk.injEq, List.not_mem_nil, or_false] at hm
        rcases hm with ⟨rfl, rfl⟩ | ⟨rfl, rfl⟩
        · exact R2.out.put 0 (.bool true)
        · exact R3.out.farAt (by omega) _
  case done =>
    rintro D ys W hD rfl ⟨hno, m, hI⟩ hK
    have HMI : mineH h tries = (h, false) := mine_none (by rw [HK.out]; exact fun j hj => hno j (List.mem_range.2 hj))
    have hs1 := EnvX.lt EX (List.Mem.tail _ (List.Mem.tail _ (List.Mem.tail _ (List.Mem.tail _ (List.Mem.head _)))))
    have hs2 := EnvX.lt EX (List.Mem.tail _ (List.Mem.tail _ (List.Mem.tail _ (List.Mem.head _))))
    have HD : Hid (w.heap.size + 1 ≠ D ∧ w.heap.size + 1 + 1 ≠ D ∧ w.heap.size ≤ D) := ⟨by omega, by omega, by omega⟩
    have EI : Hid (EnvX w W [(D, Obj.deferred (some [])), (w.heap.size + 1 + 1, Obj.cells #[.bool false] 4 (0, 0)), (w.heap.size + 1, Obj.cells (hdA noHd) 29 (0, 0)), (w.heap.size, Obj.cells (hdA h) 29 (0, 0))]) := ⟨hI.bel, fun g o hm => (List.mem_cons.1 hm).elim (fun e => by cases e; exact hK) (fun hm => hI.box g o (List.mem_cons_of_mem _ (List.mem_cons_of_mem _ (List.mem_cons_of_mem _ hm))))⟩
    have HRE : Hid (res = (h, false)) := HRES.out.symm.trans HMI
    clear hno hI hK hs1 hs2 hD HMI EX
    go_upto_region 7 with (fail)
    refine wp_region_Hx (w0 := w) [0, 1, 2] [(D, Obj.deferred (some [])), (w.heap.size + 1 + 1, Obj.cells #[.bool false] 4 (0, 0)), (w.heap.size + 1, Obj.cells (hdA noHd) 29 (0, 0)), (w.heap.size, Obj.cells (hdA h) 29 (0, 0))] rfl EI.out ?_
    refine lexH_phase [0] [1, 2] ?_
    have hw701 : EnvX w _ [(D, Obj.deferred (some [])), (w.heap.size + 1 + 1, Obj.cells #[.bool false] 4 (0, 0)), (w.heap.size + 1, Obj.cells (hdA noHd) 29 (0, 0)), (w.heap.size, Obj.cells (hdA h) 29 (0, 0))] := EI.out
    have hone := @EnvC.one _ _ _ hw701
    (refine wpG_val (v := hdV h) rfl rfl (fun u hu => load_any_op u (box_hd hu (List.Mem.tail _ (List.Mem.tail _ (List.Mem.tail _ (List.Mem.head _)))) HL.out) rfl) ?_ hw701; intro K hK; go_big_quiet_op; go_big_quiet_on)
    clear hone hw701
    refine wpG_nil ?_
    refine (hOp_store rfl (w.heap.size + 1) (hdA h) rfl rfl HLE.out 29 ((hdA noHd)) (List.Mem.tail _ (List.Mem.tail _ (List.Mem.head _))) (infoHd _ (hdA_size HL.out)) ((hdA_size HZN.out).trans (hdA_size HL.out).symm) (hdA_one _) [(w.heap.size + 1, Obj.cells (hdA h) 29 (0, 0)), (w.heap.size + 1 + 1, Obj.cells #[.bool false] 4 (0, 0)), (D, Obj.deferred (some []))] (List.forall_mem_cons.2 ⟨.inl rfl, List.forall_mem_cons.2 ⟨.inr ⟨(List.Mem.tail _ (List.Mem.head _)), (by show w.heap.size + 1 + 1 ≠ _; omega)⟩, List.forall_mem_cons.2 ⟨.inr ⟨(List.Mem.head _), (Ne.symm HD.out.1)⟩, (fun _ h => by cases h)⟩⟩⟩) ?_)
    intro he702
    refine (hOp_putAt rfl (w.heap.size + 1 + 1) (0) (.bool false) rfl rfl HLE2.out 4 (#[.bool false]) (#[.bool false]) (List.Mem.tail _ (List.Mem.head _)) infoBoolH (by decide) (by simp [Value.cells]; rfl) rfl [(w.heap.size + 1 + 1, Obj.cells (#[.bool false]) 4 (0, 0)), (w.heap.size + 1, Obj.cells (hdA h) 29 (0, 0)), (D, Obj.deferred (some []))] (List.forall_mem_cons.2 ⟨.inl rfl, List.forall_mem_cons.2 ⟨.inr ⟨(List.Mem.head _), (by show w.heap.size + 1 ≠ _; omega)⟩, List.forall_mem_cons.2 ⟨.inr ⟨(List.Mem.tail _ (List.Mem.tail _ (List.Mem.head _))), (Ne.symm HD.out.2.1)⟩, (fun _ h => by cases h)⟩⟩⟩) ?_)
    intro he703
    intro u705 E2'
    have EX704 := Lib.hid E2'
    clear E2'
    have EJ := EX704.out
    clear EX704
    have hkD := EnvX.box EJ _ _ (List.Mem.tail _ (List.Mem.tail _ (List.Mem.head _)))
    have hbelD : Hid (Below w.heap.size w (u705.putObj D (.deferred none))) := EJ.bel.trans (belowK_b (w := w) (Nat.le_refl _) u705 D _ _ HD.out.2.2 hkD rfl rfl)
    have g1 : (u705.putObj D (.deferred none)).heap[w.heap.size + 1]? = some (.cells (hdA h) 29 (0, 0)) := (World.putObj_heap_other HD.out.1).trans (EnvX.box EJ _ _ (List.Mem.tail _ (List.Mem.head _)))
    have g2 : Row (u705.putObj D (.deferred none)) (w.heap.size + 1 + 1) 4 #[.bool false] := (World.putObj_heap_other HD.out.2.1).trans (EnvX.box EJ _ _ (List.Mem.head _))
    have HKD := Lib.hid hkD
    have HG := Lib.hid (And.intro g1 g2)
    clear EJ hkD g1 g2
    go_wp2
    refine ⟨by simp, .inl ⟨_, _, rfl, run_takeDeferred HKD.out, ?_⟩⟩
    exact ⟨_, results_row_cell (p := 4) (q := 5) (ty := 29) (ty' := 4) Tryd.results14 _ _ (w.heap.size + 1) (w.heap.size + 1 + 1) 29 (hdA h) (0, 0) _ rfl rfl (.bool false) (run_load_one oneBoolH _ (HG.out.2.cell 0)) HG.out.1 Tryd.underlying29 rfl (infoHd _ (hdA_size HL.out)), by rw [HRE.out], hbelD.out⟩
  case stop =>
    rintro D c pre W hD ⟨j, hpre, hj⟩ ⟨rfl, pre', k, hpk, hno, hyes, hI⟩ hK
    obtain ⟨rfl, hkj⟩ := List.append_inj' (hpk.symm.trans (hpre.trans List.range_succ)) rfl
    obtain rfl : k = j := by simpa using hkj
    have HMI : mineH h tries = (nonceAt h k, true) := mine_some (by rw [HK.out]; exact hj) (fun i hi => hno i (List.mem_range.2 hi)) hyes
    have HLK : lenH (nonceAt h k) := HL.out
    have hs1 := EnvX.lt EX (List.Mem.tail _ (List.Mem.tail _ (List.Mem.tail _ (List.Mem.tail _ (List.Mem.head _)))))
    have hs2 := EnvX.lt EX (List.Mem.tail _ (List.Mem.tail _ (List.Mem.tail _ (List.Mem.head _))))
    have hbelD : Hid (Below w.heap.size w (W.putObj D (.deferred none))) := hI.bel.trans (belowK_b (w := w) (Nat.le_refl _) W D _ _ (by omega) hK rfl rfl)
    have g1 : (W.putObj D (.deferred none)).heap[w.heap.size + 1]? = some (.cells (hdA (nonceAt h k)) 29 (0, 0)) := (World.putObj_heap_other (by omega)).trans (EnvX.box hI _ _ (List.Mem.tail _ (List.Mem.head _)))
    have g2 : Row (W.putObj D (.deferred none)) (w.heap.size + 1 + 1) 4 #[.bool true] := (World.putObj_heap_other (by omega)).trans (EnvX.box hI _ _ (List.Mem.head _))
    have HKD := Lib.hid hK
    have HG := Lib.hid (And.intro g1 g2)
    have HRE : Hid (res = (nonceAt h k, true)) := HRES.out.symm.trans HMI
    refine wpIn_ret ?_
    refine ⟨by simp, .inl ⟨_, _, rfl, run_takeDeferred HKD.out, ?_⟩⟩
    exact ⟨_, results_row_cell (p := 4) (q := 5) (ty := 29) (ty' := 4) Tryd.results14 _ _ (w.heap.size + 1) (w.heap.size + 1 + 1) 29 (hdA (nonceAt h k)) (0, 0) _ rfl rfl (.bool true) (run_load_one oneBoolH _ (HG.out.2.cell 0)) HG.out.1 Tryd.underlying29 rfl (infoHd _ (hdA_size HLK)), by rw [HRE.out], hbelD.out⟩
/-- ALL CONTRACTS OF PACKAGE head -/
theorem headC : HeadC where
  put := fun h w hh _ => hput_any h w hh
  read := fun A n c xs w hl _ hc hn hB hx _ => hread_any A n c xs w hl hc hn hB hx
  id := fun h w hh ht => hid_any h w hh ht
  level := fun h w hh ht => hlevel_any h w hh ht
  work := fun h w hh _ => hwork_any h w hh
  may := fun h w hh ht => hmay_any h w hh ht
  mine := fun h tries w hh ht hT => hmine_any h tries w hh ht hT
end Go.Proofs.YtmpjgfecnnefeaaDoor
