/- The iterator of parts: a range over a function. -/
import Derived.Test.YthgjfmdbipmhoaaB5
import Derived.RangeFuncBox
import Derived.RangeFuncNested
import Derived.RangeFuncBound
import Derived.RangeFuncCalls
import Derived.RangeFuncLeaves
import Derived.Shelf.Abstract
import Derived.Shelf.RegionOpen
import Derived.WalkKit
import Derived.OwnWalkIn
import Derived.TacticsInMore
import Derived.LoopNIn
import Derived.LoopIn
namespace Go.Proofs.Ythgjfmdbipmhoaa
open Go.RowKit Go.Shelf

/-- a part of some bytes: where its blob stands, what it holds, where it ends -/
structure Pt (xs : List Int) where
  i : Nat
  x : List Int
  to : Nat
  h : cutL xs i = some (x, to)
/-- the parts that come: n of them, or as many as there are -/
def partsG (xs : List Int) : Nat → Nat → List (Pt xs)
  | 0, _ => []
  | n + 1, at_ => match h : cutL xs at_ with
    | none => []
    | some (x, to) => ⟨at_, x, to, h⟩ :: partsG xs n to
theorem partsG_none {xs : List Int} {at_ : Nat} (h : cutL xs at_ = none) (n : Nat) : partsG xs n at_ = [] := by
  cases n with
  | zero => rfl
  | succ n =>
    unfold partsG
    split
    · rfl
    · rename_i h2; rw [h] at h2; cases h2
theorem partsG_some {xs : List Int} {at_ to : Nat} {x : List Int} (h : cutL xs at_ = some (x, to)) (n : Nat) : partsG xs (n + 1) at_ = ⟨at_, x, to, h⟩ :: partsG xs n to := by
  rw [partsG]
  split
  · rename_i h2; rw [h] at h2; cases h2
  · rename_i h2
    rw [h] at h2
    cases h2
    rfl
theorem partsG_len {xs : List Int} : ∀ n at_, (partsG xs n at_).length ≤ n
  | 0, _ => Nat.le_refl _
  | n + 1, at_ => by
    cases h : cutL xs at_ with
    | none => rw [partsG_none h]; exact Nat.zero_le _
    | some p =>
      obtain ⟨x, to⟩ := p
      rw [partsG_some h, List.length_cons]
      have := partsG_len (xs := xs) n to
      omega
def encP (A : Option Addr) {xs : List Int} (p : Pt xs) : Array Value := #[.slice (cutA A (p.i + 2) p.to) p.x.length p.x.length, .int .i64 (p.to : Int)]
/-- what a round keeps: whatever lay below n₀, and the box Bb -/
def KpB (n₀ Bb : Nat) (W W' : World) : Prop := Below n₀ W W' ∧ (∀ o, W.heap[Bb]? = some o → W'.heap[Bb]? = some o)
theorem KpB.trans {n₀ Bb : Nat} {A B C : World} (h : KpB n₀ Bb A B) (k : KpB n₀ Bb B C) : KpB n₀ Bb A C := ⟨h.1.trans k.1, fun o ho => k.2 o (h.2 o ho)⟩
theorem KpB.put {n₀ Bb : Nat} {w : World} (hn : n₀ ≤ w.heap.size) (hB : Bb < w.heap.size) (W : World) (l : Nat) (o o' : Obj) (hl : w.heap.size ≤ l) (h : W.heap[l]? = some o) (h1 : o.isCells = false) (h2 : o.isWalk = false) : KpB n₀ Bb W (W.putObj l o') :=
  ⟨belowK_b hn W l o o' hl h h1 h2, fun u hu => (World.putObj_heap_other (by omega)).trans hu⟩
theorem wpListIn_skip_wide {n : Nat} {P : Program} {ops : Array Oper} {Q : Exit → Act → World → Prop} {a : Act} {w : World} {rest : List Oper} {o : Oper} (hw : Region.wanted o (yielded ops a.tmps) = false) (h : wpListIn Fence.wide n P ops Q rest (a.put o.dst undef) w) : wpListIn Fence.wide n P ops Q (o :: rest) a w := by
  simp only [wpListIn, hw]
  exact ⟨fun _ _ => trivial, h⟩
attribute [local go_sem] Oper.semAt_some
set_option maxRecDepth 100000 in
set_option maxHeartbeats 2000000 in
theorem parts1_in (n : Nat) (h1n : 1 ≤ n) (l Ba Bc Bb n₀ : Nat) (A : Option Addr) (m c cnt at0 : Nat) (xs : List Int) (hl : xs.length = m) (hc : m ≤ c) (hn : c ≤ maxLen) (hB : isB xs) (hcnt : cnt ≤ 255) (hat : at0 ≤ m) (J Jx : List (Pt xs) → World → Prop)
    (hY : ∀ pre x W, J pre W → pre.length < cnt → YieldAt Fence.wide (n - 1) Try.prog l (encP A x) W fun e W' =>
      (e = .returned (.bool true) ∧ J (pre ++ [x]) W' ∧ KpB n₀ Bb W W') ∨ (e = .returned (.bool false) ∧ Jx (pre ++ [x]) W'))
    (W : World) (hBa : W.cell? ⟨Ba, 0, none⟩ = some (.int .i64 (at0 : Int))) (hBc : W.cell? ⟨Bc, 0, none⟩ = some (.int .i64 (cnt : Int))) (hBb : Boxed W Bb 23 (.slice A m c)) (hx : Bytes W n₀ A xs) (h0 : J [] W) (hn₀ : n₀ ≤ W.heap.size) :
    CallsIn Fence.wide n Try.prog 21 #[.func (.yield l) #[] #[], .pointer (some ⟨Ba, 0, none⟩), .pointer (some ⟨Bc, 0, none⟩), .pointer (some ⟨Bb, 0, none⟩)] W fun e W' => (∃ v, e = .returned v) ∧
      ((∃ ys, ys = partsG xs cnt at0 ∧ J ys W') ∨ (∃ pre, True ∧ Jx pre W')) := by
  have hn' := hn
  unfold maxLen at hn
  have HX := Lib.hid hx
  have HB := Lib.hid hB
  have HL := Lib.hid hl
  have HN := Lib.hid hn'
  have HYY := Lib.hid hY
  have HBB := Lib.hid hBb
  clear hx hB hl hn' hY hBb
  refine callsIn_of_wp Try.func21 rfl trivial ?_ rfl
  simp only [Try.ntmps21, List.size_toArray, List.length_cons, List.length_nil, Nat.reduceAdd, Nat.reduceSub, Array.replicate_succ, Array.replicate_zero, List.push_toArray, List.append_toArray, List.nil_append, List.cons_append]
  gi_wp2
  gi_loopw [5, 11] (fun e i wr => ∃ (j k : Nat) (pre : List (Pt xs)), j ≤ cnt ∧ i = .int .i64 (j : Int) ∧ e = .int .i64 (k : Int) ∧ k ≤ m ∧ Hid (pre.length ≤ j ∧ J pre wr ∧ KpB n₀ Bb W wr ∧ n₀ ≤ wr.heap.size ∧ partsG xs cnt at0 = pre ++ partsG xs (cnt - j) k))
    (fun _ i _ => cnt - (intOf i).toNat)
  case atStart => exact ⟨0, at0, [], Nat.zero_le _, rfl, rfl, hat, Nat.le_refl _, h0, ⟨Below.refl _ _, fun _ h => h⟩, hn₀, rfl⟩
  case round =>
    obtain ⟨j, k, pre, hj, rfl, rfl, hk, hrows⟩ := hrel
    obtain ⟨hpl, hJ, hK, hsz, hp⟩ := hrows.out
    by_cases hlt : j < cnt
    · have hj2 : (j : Int) < (cnt : Int) := by omega
      have hbx : Boxed wr Bb 23 (.slice A m c) := hK.2 _ HBB.out
      have hcb := hbx.cell
      have HY := Lib.hid ((HX.out.below hK.1).more hsz)
      cases hcut : cutL xs k with
      | none =>
        have HP := Lib.hid (part_none A m c (k : Int) xs wr HL.out hc HN.out HB.out HY.out (by rw [cutI_nat]; exact hcut))
        rw [partsG_none hcut, List.append_nil] at hp
        have HJ := Lib.hid hJ
        have HPP := Lib.hid hp
        clear hcut hK hJ hrows hp hbx hpl
        gi_wp2_with (first | (refine ⟨trivial, ?_⟩; gi_at_call 20; refine (callsIn_wide.2 HP.out).mono ?_; rintro e w2 ⟨rfl, rfl⟩) | (with_reducible refine wpListIn_skip_wide (o := ⟨some 26, _, _, _, _, some (2, false)⟩) ?_ ?_; (rfl)))
        refine ⟨fun _ _ => trivial, ?_⟩
        gi_wp2
        refine bodyPost_ret (results_none rfl _ _ _) rfl ?_
        exact ⟨⟨_, rfl⟩, .inl ⟨_, HPP.out.symm, HJ.out⟩⟩
      | some p =>
        obtain ⟨x, to⟩ := p
        have HP := Lib.hid (part_some A m c k to xs x wr HL.out hc HN.out HB.out HY.out hcut)
        obtain ⟨q1, q2, -, -⟩ := cutL_spec hcut
        have hto : to ≤ m := by have := HL.out; omega
        obtain ⟨d, hd⟩ : ∃ d, cnt - j = d + 1 := ⟨cnt - j - 1, by omega⟩
        rw [hd, partsG_some hcut] at hp
        have HPP := Lib.hid hp
        obtain ⟨fn, tmps, assign, body, hy, hR⟩ := HYY.out pre ⟨k, x, to, hcut⟩ wr hJ (by omega)
        dsimp only [encP] at hy
        have HR := Lib.hid hR
        have HK := Lib.hid hK
        have HS := Lib.hid hsz
        have HD : Hid (cnt - (j + 1) = d) := by show _ = _; omega
        have HLN := Lib.hid hpl
        clear hJ hrows hp hbx hR hK q1 q2 hsz hd hpl
        generalize x.length = q at *
        gi_wp2_with (refine ⟨trivial, ?_⟩; gi_at_call 20; refine (callsIn_wide.2 HP.out).mono ?_; rintro e w2 ⟨rfl, rfl⟩)
        refine HR.out.mono ?_
        rintro e W3 (⟨rfl, hJ3, hk3⟩ | ⟨rfl, hJx3⟩)
        · have HJ3 := Lib.hid hJ3
          have HK3 := Lib.hid hk3
          clear hJ3 hk3
          gi_wp2
          go_roundw
          case rel =>
            refine ⟨j + 1, to, pre ++ [⟨k, x, to, hcut⟩], by omega, by go_num, rfl, hto, by have := HLN.out; simp; omega, HJ3.out, HK.out.trans HK3.out, Nat.le_trans HS.out HK3.out.1.size, ?_⟩
            rw [HD.out, List.append_assoc]
            exact HPP.out
          case measure => simp [intOf]; omega
        · gi_wp2
          refine bodyPost_ret (results_none rfl _ _ _) rfl ?_
          exact ⟨⟨_, rfl⟩, .inr ⟨_, trivial, hJx3⟩⟩
    · obtain rfl : j = cnt := by omega
      have hz : partsG xs j at0 = pre := by rw [hp, Nat.sub_self]; exact List.append_nil _
      have HZ := Lib.hid hz
      have HJ := Lib.hid hJ
      clear hz hrows hJ hK hp
      gi_wp2
      go_end0
      exact ⟨⟨_, rfl⟩, .inl ⟨_, HZ.out.symm, HJ.out⟩⟩
end Go.Proofs.Ythgjfmdbipmhoaa
