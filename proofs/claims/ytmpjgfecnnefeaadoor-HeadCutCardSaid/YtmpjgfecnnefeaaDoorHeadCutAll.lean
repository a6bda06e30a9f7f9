/-
  PROVED: the law stepladderlaw08.HeadCut answers true for every input, and leaves its arguments as they were.
  Conditions: the two package-level tables of package sha hold at the call what their initialisers lay; the card ties that to the text of the program (a pruned copy of the project: the packages that the roots of this seat load).
-/
import Derived.Test.YtmpjgfecnnefeaaDoorCj
import Derived.Laws.OwnMore
namespace Go.Proofs.YtmpjgfecnnefeaaDoor
set_option maxRecDepth 8000
open Go.RowKit

section
variable {st e : TypeId} {z bytes : Nat} {zero : Value}
/-- an append to nothing makes memory -/
theorem FAt_appX (T : ElemT st e z bytes zero) {u : World} {m c : Nat} {ys : List Value} {ad : Addr} {a : Act} {dst : Option Tmp} {x : Operand} {pos : String} {after : Array Edge} {gd : Option (Nat × Bool)}
    (hy : ys.length = m * z) (h1 : ∀ u ∈ ys, u.oneCell' = true) (hc : SrcAt u ad ys) (hs : m ≤ 2000000) (hx : a.eval x = .slice (some ad) m c) :
    FAt Tryd.prog ⟨dst, .call { callee := .builtin .append, args := #[.const (.slice none 0 0), x], argTypes := #[st, st] }, st, pos, after, gd⟩ a (FreshR e z m ys) u := by
  have he : a.eval (.const (.slice none 0 0)) = .slice none 0 0 := rfl
  obtain ⟨v', u', hrun, hown, hgr, _⟩ := appendR T (c := c) (World.ownsRow_nil u u.heap.size e z) hy hc h1 (by omega) (Nat.le_refl _)
  rw [Nat.zero_add, List.nil_append] at hown
  obtain ⟨N, hF', hN'⟩ := fresh_of_own hown
  unfold FAt execOp
  simp only [resolve, invoke, builtin, Sem.run_bind, Sem.run_pure, Result.andThen_ok, List.map_toArray, List.map_cons, List.map_nil, he, hx, hrun]
  exact ⟨below_of_grown hgr (fun g hg => by cases hg) (Nat.le_refl _), N, hF', fun y hy => ⟨(hN' y hy).1, (hN' y hy).2.1⟩⟩
end
end Go.Proofs.YtmpjgfecnnefeaaDoor

namespace Go.Proofs.YtmpjgfecnnefeaaDoor
set_option maxRecDepth 8000
open Go.RowKit

section
variable {st e : TypeId} {z bytes : Nat} {zero : Value}
theorem ElemT.elem (T : ElemT st e z bytes zero) : Tryd.prog.elem st = e := by simp [Program.elem, T.und]
theorem ElemT.sizeOf (T : ElemT st e z bytes zero) (w : World) : (Go.sizeOf e).run Tryd.prog w = .ok z w := by
  have h := T.info
  cases hq : Tryd.prog.info? e with
  | none => rw [hq] at h; cases h
  | some i =>
    rw [hq] at h
    simp only [Option.map_some, Option.some.injEq, Prod.mk.injEq] at h
    simp [Go.sizeOf, typeInfo, hq, h.2.1]
theorem run_cutX_h (T : ElemT st e z bytes zero) (A : Option Addr) (n c h : Nat) (w : World) (h2 : h ≤ c) :
    (Instr.sliceAt st (.slice A n c) none (some (.int .i64 (h : Int))) none).run Tryd.prog w = .ok (.slice A h c) w := by
  have ht' : Tryd.prog.underlying st = some (.slice (Tryd.prog.elem st)) := by rw [T.elem]; exact T.und
  rw [run_sliceAt_slice w _ _ _ _ _ ht', run_slice_h w st _ _ _ ht' .i64 _ (by omega) (by omega), T.elem, T.sizeOf]
  have e : (fun a : Addr => a.add (0 * z)) = id := by
    funext a
    simp [Addr.add]
  simp only [Result.andThen, sliced, e, Option.map_id, Int.toNat_natCast, Nat.sub_zero, ite_self, id]
variable {a : Act} {dst : Option Tmp} {x l h : Operand} {ty : TypeId} {pos : String} {after : Array Edge} {gd : Option (Nat × Bool)}
theorem cutXh_op (T : ElemT st e z bytes zero) {A : Option Addr} {n c j : Nat} (u : World) (h2 : j ≤ c) (hx : a.eval x = .slice A n c) (hh : a.eval h = .int .i64 (j : Int)) :
    (execOp a.eval ⟨dst, .slice st x none (some h) none, ty, pos, after, gd⟩).run Tryd.prog u = .ok (.value (.slice A j c)) u := by
  unfold execOp
  simp only [hx, hh, Option.map_some, Option.map_none, Sem.run_bind, Sem.run_pure, Result.andThen_ok, run_cutX_h T A n c j u h2]
end
end Go.Proofs.YtmpjgfecnnefeaaDoor

namespace Go.Proofs.YtmpjgfecnnefeaaDoor
set_option maxRecDepth 8000
open Go.RowKit

section
variable {st e : TypeId} {z bytes : Nat} {zero : Value}
/-- an append to nothing out of a slice that came in -/
theorem FAt_appC (T : ElemT st e z bytes zero) {u : World} {B m c : Nat} {A : Option Addr} {ys : List Value} {a : Act} {dst : Option Tmp} {x : Operand} {pos : String} {after : Array Edge} {gd : Option (Nat × Bool)}
    (hy : ys.length = m * z) (h1 : ∀ u ∈ ys, u.oneCell' = true) (hc : CellsIn u B A ys) (hs : m ≤ 2000000) (hx : a.eval x = .slice A m c) :
    FAt Tryd.prog ⟨dst, .call { callee := .builtin .append, args := #[.const (.slice none 0 0), x], argTypes := #[st, st] }, st, pos, after, gd⟩ a (FreshR e z m ys) u := by
  cases A with
  | none =>
    have h0 : ys = [] := by
      refine List.eq_nil_of_length_eq_zero (Nat.eq_zero_of_not_pos fun hp => ?_)
      obtain ⟨ad, e, _⟩ := hc hp
      cases e
    subst h0
    have hm : m = 0 := by
      rcases Nat.eq_zero_or_pos m with h | h
      · exact h
      · have := Nat.mul_pos h T.pos
        simp at hy
        omega
    subst hm
    have he : a.eval (.const (.slice none 0 0)) = .slice none 0 0 := rfl
    cases hi : Tryd.prog.info? e with
    | none => have := T.info; rw [hi] at this; cases this
    | some i =>
      have hrun : (Builtin.append_ #[st, st] st #[.slice none 0 0, .slice none 0 c]).run Tryd.prog u = .ok (.slice none 0 0) u := by
        simp [Builtin.append_, run_underlying T.und, sizeOf, typeInfo, hi, Builtin.lenOf, Builtin.firstCells]
      unfold FAt execOp
      simp only [resolve, invoke, builtin, Sem.run_bind, Sem.run_pure, Result.andThen_ok, List.map_toArray, List.map_cons, List.map_nil, he, hx, hrun]
      exact ⟨Below.refl _ _, [], .inr ⟨rfl, rfl, rfl, rfl⟩, fun y hy => by cases hy⟩
  | some ad =>
    refine FAt_appX T (c := c) hy h1 (fun j v hv => ?_) hs hx
    have hp : 0 < ys.length := by
      rcases Nat.eq_zero_or_pos ys.length with h0 | h0
      · rw [List.eq_nil_of_length_eq_zero h0] at hv
        simp at hv
      · exact h0
    obtain ⟨ad', e, _, hcc⟩ := hc hp
    obtain rfl := Option.some.inj e
    exact hcc j v hv
end
end Go.Proofs.YtmpjgfecnnefeaaDoor

namespace Go.Proofs.YtmpjgfecnnefeaaDoor
set_option maxRecDepth 8000
open Go.RowKit

theorem bytes_cells {w : World} {B : Nat} {A : Option Addr} {xs : List Int} (h : Bytes w B A xs) : CellsIn w B A (xs.map u8v) := fun hp => h (by rwa [List.length_map] at hp)
set_option maxRecDepth 20000 in
set_option maxHeartbeats 8000000 in
theorem law_cutH_many (H : HeadC) (h : Hd) (q : Int) (b : List Int) (A : Option Addr) (n c : Nat) (w : World) (hh : okHd h) (hq : I64 q) (hl : b.length = n) (hnc : n ≤ c) (hcm : c ≤ maxLen) (hB : isB b) (hx : Bytes w w.heap.size A b) (ht : Tables w) (mp : Bool) (k1 : mayPut h = mp) (h4 : 400 < n) :
    Calls Tryd.prog 8 #[hdV h, .int .i64 q, .slice A n c] w fun e w' => e = .returned (.bool true) ∧ Below w.heap.size w w' := by
  have HN63 : Hid (n < 9223372036854775808) := by show _ < _; unfold maxLen at hcm; omega
  have C5 : Hid (decide ((400 : Int) < (n : Int)) = true) := decide_eq_true (by omega)
  clear h4 hl hnc hcm hB hx hq
  have HL := Lib.hid hh.len
  have HOK := Lib.hid hh
  have HP1 : Hid ((putH h).2 = mp) := by show _ = _; unfold putH; rw [k1]; cases mp <;> rfl
  have E0 : Hid (EnvX w (w.alloc (.cells (hdA h) 29)) [(w.heap.size, Obj.cells (hdA h) 29 (0, 0))]) := (EnvX.start w).new _
  have HAW := Lib.hid (hawake_any H (w.alloc (.cells (hdA h) 29)) (ht.below (EnvX.bel E0.out)))
  have HT := Lib.hid ht
  have HH := Lib.hid H
  clear ht H hh k1
  unfold hdV
  go_enter Tryd.func8, Tryd.ntmps8
  go_upto_region 1 with (fail)
  generalize (w.alloc (.cells (hdA h) 29)) = W at *
  go_wp2_with fail
  refine HAW.out.mono ?_
  rintro e w1 ⟨rfl, hb1⟩
  have HB1 := Lib.hid (EnvX.below E0.out hb1).bel
  have E1 : Hid (EnvX w1 w1 [(w.heap.size, Obj.cells (hdA h) 29 (0, 0))]) := ⟨Below.refl _ _, (EnvX.below E0.out hb1).box⟩
  have HT1 := Lib.hid (HT.out.below HB1.out)
  clear hb1 E0 HAW
  have HLD : Hid ((loadVar 29 ⟨w.heap.size, 0, none⟩).run Tryd.prog w1 = .ok (.agg (hdA h)) w1) := box_hd E1.out (List.Mem.head _) HL.out
  have HPT : Hid (Calls Tryd.prog 10 #[.agg (hdA h)] w1 fun e w' => (∃ v, e = .returned (.tuple #[v, .bool mp]) ∧ OwnB w' w1.heap.size v (putH h).1) ∧ Below w1.heap.size w1 w') := by
    have h1 := HH.out.put h w1 HOK.out (HT1.out.below (EnvX.bel E1.out))
    rwa [HP1.out] at h1
  go_upto_region 2 with (fail)
  go_wp2_with ((with_reducible refine wpList_load_run (o := ⟨some 18, _, _, _, _, _⟩) ?_ 29 (.tmp 3) ?_ ⟨w.heap.size, 0, none⟩ ?_ HLD.out ?_); (rfl); (rfl); (rfl))
  refine HPT.out.mono ?_
  rintro e w2 ⟨⟨v2, rfl, hv⟩, hb⟩
  obtain ⟨Ap, cp, rfl⟩ := hv.form
  have HPB := Lib.hid hv.bytes.2
  have HPC := Lib.hid hv.cap
  have E2 : Hid (EnvX w2 w2 [(w.heap.size, Obj.cells (hdA h) 29 (0, 0))]) := ⟨Below.refl _ _, (EnvX.below E1.out hb).box⟩
  have HB2 := Lib.hid (HB1.out.trans ((EnvX.below E1.out hb).bel.mono HB1.out.size))
  have HT2 := Lib.hid (HT1.out.below (EnvX.below E1.out hb).bel)
  clear hv hb HLD HPT E1
  obtain ⟨np, hnp⟩ : ∃ np, (putH h).1.length = np := ⟨_, rfl⟩
  obtain ⟨xs, hxs⟩ : ∃ xs, (putH h).1 = xs := ⟨_, rfl⟩
  have HNP := Lib.hid hnp
  have HXS := Lib.hid hxs
  rw [hnp] at HPC ⊢
  rw [hxs] at HPB HNP
  clear hnp hxs
  go_upto_region 3 with (fail)
  refine wp_region_Hx (w0 := w2) [0, 1, 2, 3, 4, 5, 6] [(w.heap.size, Obj.cells (hdA h) 29 (0, 0))] rfl E2.out ?_
  refine lexH_phase [0, 1, 2, 3, 4, 5, 6] [] ?_
  have hw1 : EnvX w2 _ [(w.heap.size, Obj.cells (hdA h) 29 (0, 0))] := E2.out
  have hone := @EnvC.one _ _ _ hw1
  (refine wpG_op rfl rfl rfl ?_; intro K hK; go_big_quiet_op; go_big_quiet_on)
  (refine wpG_op rfl rfl rfl ?_; intro K hK; go_big_quiet_op; go_big_quiet_on)
  (refine wpG_op rfl rfl rfl ?_; intro K hK; go_big_quiet_op; go_big_quiet_on)
  (refine wpG_op rfl rfl rfl ?_; intro K hK; go_big_quiet_op; go_big_quiet_on)
  (refine wpG_val (v := .int .i64 (n : Int)) rfl rfl (fun u hu => len_op Tryd.underlying30 HN63.out u rfl) ?_ hw1; intro K hK; go_big_quiet_op; go_big_quiet_on)
  (refine wpG_val (v := .bool true) rfl rfl (fun u hu => gtZ_op u C5.out rfl rfl) ?_ hw1; intro K hK; go_big_quiet_op; go_big_quiet_on)
  (refine wpG_op rfl rfl rfl ?_; intro K hK; go_big_quiet_op; go_big_quiet_on)
  clear hone hw1
  refine wpG_nil ?_
  intro u3 E2'
  have EX2 := Lib.hid E2'
  clear E2'
  have HBE := Lib.hid (HB2.out.trans ((EnvX.bel EX2.out).mono HB2.out.size))
  go_wp2
  go_ret
  exact ⟨rfl, HBE.out⟩
theorem u8_one0 : ∀ u ∈ [Value.int .u8 0], u.oneCell' = true := fun u hu => by cases List.mem_singleton.1 hu; rfl
set_option maxRecDepth 20000 in
set_option maxHeartbeats 8000000 in
theorem law_cutH_ff (H : HeadC) (h : Hd) (q : Int) (b : List Int) (A : Option Addr) (n c : Nat) (w : World) (hh : okHd h) (hq : I64 q) (hl : b.length = n) (hnc : n ≤ c) (hcm : c ≤ maxLen) (hB : isB b) (hx : Bytes w w.heap.size A b) (ht : Tables w) (k1 : mayPut h = false) (k2 : mayRead b = false) (h4 : ¬ 400 < n) :
    Calls Tryd.prog 8 #[hdV h, .int .i64 q, .slice A n c] w fun e w' => e = .returned (.bool true) ∧ Below w.heap.size w w' := by
  have HN63 : Hid (n < 9223372036854775808) := by show _ < _; omega
  have C5 : Hid (decide ((400 : Int) < (n : Int)) = false) := decide_eq_false (by omega)
  have HNX : Hid ((putH h).1.length = 0 ∧ isB (putH h).1) := by
    unfold putH
    rw [k1]
    exact ⟨rfl, fun y hy => by cases hy⟩
  have HRD : Hid (∀ u, Below w.heap.size w u → Tables u → Calls Tryd.prog 12 #[.slice A n c] u fun e w' => e = .returned (.tuple #[hdV (readH b).1, .bool false]) ∧ Below u.heap.size u w') := fun u hb hu => by
    have h1 := H.read A n c b u hl (by omega) hnc hcm hB (hx.up hb) hu
    rwa [read_snd, k2] at h1
  have HRX : Hid (∀ (ys : List Int) (A : Option Addr) (m c : Nat) (u : World), ys.length = m → m ≤ 1000 → m ≠ 176 → m ≤ c → c ≤ maxLen → isB ys → Bytes u u.heap.size A ys → Tables u → Calls Tryd.prog 12 #[.slice A m c] u fun e w' => e = .returned (.tuple #[hdV noHd, .bool false]) ∧ Below u.heap.size u w') := fun ys A m c u h1 h2 h3 h4 h5 h6 h7 h8 => by
    have h9 := H.read A m c ys u h1 (by omega) h4 h5 h6 h7 h8
    rwa [read_len (by omega)] at h9
  have HXL : Hid (lenH (readH b).1) := (okHd_read hB).len
  have HQQ := Lib.hid hq
  generalize (readH b).1 = X at *
  clear h4 hl hnc hcm hB hx k2 hq
  have HL := Lib.hid hh.len
  have HOK := Lib.hid hh
  have HP1 : Hid ((putH h).2 = false) := by show _ = _; unfold putH; rw [k1]; rfl
  have E0 : Hid (EnvX w (w.alloc (.cells (hdA h) 29)) [(w.heap.size, Obj.cells (hdA h) 29 (0, 0))]) := (EnvX.start w).new _
  have HAW := Lib.hid (hawake_any H (w.alloc (.cells (hdA h) 29)) (ht.below (EnvX.bel E0.out)))
  have HT := Lib.hid ht
  have HH := Lib.hid H
  clear ht H hh k1
  unfold hdV
  go_enter Tryd.func8, Tryd.ntmps8
  go_upto_region 1 with (fail)
  generalize (w.alloc (.cells (hdA h) 29)) = W at *
  go_wp2_with fail
  refine HAW.out.mono ?_
  rintro e w1 ⟨rfl, hb1⟩
  have HB1 := Lib.hid (EnvX.below E0.out hb1).bel
  have E1 : Hid (EnvX w1 w1 [(w.heap.size, Obj.cells (hdA h) 29 (0, 0))]) := ⟨Below.refl _ _, (EnvX.below E0.out hb1).box⟩
  have HT1 := Lib.hid (HT.out.below HB1.out)
  clear hb1 E0 HAW
  have HLD : Hid ((loadVar 29 ⟨w.heap.size, 0, none⟩).run Tryd.prog w1 = .ok (.agg (hdA h)) w1) := box_hd E1.out (List.Mem.head _) HL.out
  have HPT : Hid (Calls Tryd.prog 10 #[.agg (hdA h)] w1 fun e w' => (∃ v, e = .returned (.tuple #[v, .bool false]) ∧ OwnB w' w1.heap.size v (putH h).1) ∧ Below w1.heap.size w1 w') := by
    have h1 := HH.out.put h w1 HOK.out (HT1.out.below (EnvX.bel E1.out))
    rwa [HP1.out] at h1
  go_upto_region 2 with (fail)
  go_wp2_with ((with_reducible refine wpList_load_run (o := ⟨some 18, _, _, _, _, _⟩) ?_ 29 (.tmp 3) ?_ ⟨w.heap.size, 0, none⟩ ?_ HLD.out ?_); (rfl); (rfl); (rfl))
  refine HPT.out.mono ?_
  rintro e w2 ⟨⟨v2, rfl, hv⟩, hb⟩
  obtain ⟨Ap, cp, rfl⟩ := hv.form
  have HPB := Lib.hid hv.bytes.2
  have HPC := Lib.hid hv.cap
  have E2 : Hid (EnvX w2 w2 [(w.heap.size, Obj.cells (hdA h) 29 (0, 0))]) := ⟨Below.refl _ _, (EnvX.below E1.out hb).box⟩
  have HB2 := Lib.hid (HB1.out.trans ((EnvX.below E1.out hb).bel.mono HB1.out.size))
  have HT2 := Lib.hid (HT1.out.below (EnvX.below E1.out hb).bel)
  clear hv hb HLD HPT E1
  obtain ⟨np, hnp⟩ : ∃ np, (putH h).1.length = np := ⟨_, rfl⟩
  obtain ⟨xs, hxs⟩ : ∃ xs, (putH h).1 = xs := ⟨_, rfl⟩
  have HNP := Lib.hid hnp
  have HXS := Lib.hid hxs
  rw [hnp] at HPC ⊢
  rw [hxs] at HPB HNP
  clear hnp hxs
  rw [HXS.out, HNP.out] at HNX
  have HBW : Hid (∀ u, Below w2.heap.size w2 u → Below w.heap.size w u) := fun u hu => HB2.out.trans (hu.mono HB2.out.size)
  go_upto_region 3 with (fail)
  refine wp_region_Hx (w0 := w2) [0, 1, 2, 3, 4, 5, 6] [(w.heap.size, Obj.cells (hdA h) 29 (0, 0))] rfl E2.out ?_
  refine lexH_phase [0, 1, 2, 3, 4, 5, 6] [] ?_
  have hw1 : EnvX w2 _ [(w.heap.size, Obj.cells (hdA h) 29 (0, 0))] := E2.out
  have hone := @EnvC.one _ _ _ hw1
  (refine wpG_op rfl rfl rfl ?_; intro K hK; go_big_quiet_op; go_big_quiet_on)
  (refine wpG_op rfl rfl rfl ?_; intro K hK; go_big_quiet_op; go_big_quiet_on)
  (refine wpG_op rfl rfl rfl ?_; intro K hK; go_big_quiet_op; go_big_quiet_on)
  (refine wpG_op rfl rfl rfl ?_; intro K hK; go_big_quiet_op; go_big_quiet_on)
  (refine wpG_val (v := .int .i64 (n : Int)) rfl rfl (fun u hu => len_op Tryd.underlying30 HN63.out u rfl) ?_ hw1; intro K hK; go_big_quiet_op; go_big_quiet_on)
  (refine wpG_val (v := .bool false) rfl rfl (fun u hu => gtZ_op u C5.out rfl rfl) ?_ hw1; intro K hK; go_big_quiet_op; go_big_quiet_on)
  (refine wpG_op rfl rfl rfl ?_; intro K hK; go_big_quiet_op; go_big_quiet_on)
  clear hone hw1
  refine wpG_nil ?_
  intro u3 E2'
  have EX2 := Lib.hid E2'
  clear E2'
  go_upto_region 5 with (fail)
  refine wp_region_Hx (w0 := w2) [0, 1, 2, 3, 4, 5, 6, 7] [(w.heap.size, Obj.cells (hdA h) 29 (0, 0))] rfl EX2.out ?_
  refine lexH_phase [0, 1, 2, 3, 4] [5, 6, 7] ?_
  have hw4 : EnvX w2 _ [(w.heap.size, Obj.cells (hdA h) 29 (0, 0))] := EX2.out
  have hone := @EnvC.one _ _ _ hw4
  (refine wpG_op rfl rfl rfl ?_; intro K hK; go_big_quiet_op; go_big_quiet_on)
  (refine wpG_call (f := 12) (args := #[.slice A n c]) (v := .tuple #[hdV X, .bool false]) rfl rfl rfl Tryd.func12 rfl rfl (fun u hu => HRD.out u (HBW.out u (EnvX.bel hu)) (HT2.out.below (EnvX.bel hu))) ?_ hw4; intro K hK; go_big_quiet_op; go_big_quiet_on)
  (refine wpG_op rfl rfl rfl ?_; intro K hK; go_big_quiet_op; go_big_quiet_on)
  (refine wpG_op rfl rfl rfl ?_; intro K hK; go_big_quiet_op; go_big_quiet_on)
  (refine wpG_op rfl rfl rfl ?_; intro K hK; go_big_quiet_op; go_big_quiet_on)
  clear hone hw4
  refine wpG_nil ?_
  refine (hOp_fresh (R := fun x N => ∃ g, x = .pointer (some ⟨g, 0, none⟩) ∧ N = [(g, Obj.cells (hdA noHd) 29 (0, 0))]) (M0 := [(w.heap.size, Obj.cells (hdA h) 29 (0, 0))]) rfl rfl (fun _ h => h) (fun u hu => FAt_new (new_hd _) u) ?_)
  rintro _ _ ⟨g10, rfl, rfl⟩ hf he5; intro K' hK'; go_big_quiet_op; go_big_quiet_on
  have HG10 := Lib.hid (hf _ (List.mem_singleton.2 rfl))
  clear hf
  change lexH _ _ _ _ _ _ [(g10, Obj.cells (hdA noHd) 29 (0, 0)), (w.heap.size, Obj.cells (hdA h) 29 (0, 0))]
  refine (hOp_store rfl (g10) (hdA X) rfl rfl HG10.out.1 29 ((hdA noHd)) (List.Mem.head _) (infoHd _ (hdA_size HXL.out)) ((hdA_size (show lenH noHd from ⟨rfl, rfl, rfl, rfl⟩)).trans (hdA_size HXL.out).symm) (hdA_one _) [(g10, Obj.cells (hdA X) 29 (0, 0)), (w.heap.size, Obj.cells (hdA h) 29 (0, 0))] (List.forall_mem_cons.2 ⟨.inl rfl, fun y hy => .inr ⟨List.mem_cons_of_mem _ hy, HG10.out.2 y hy⟩⟩) ?_)
  intro he6
  refine lexH_phase [7] [] ?_
  have hw7 : EnvX w2 _ [(g10, Obj.cells (hdA X) 29 (0, 0)), (w.heap.size, Obj.cells (hdA h) 29 (0, 0))] := he6.choose_spec
  have hone := @EnvC.one _ _ _ hw7
  (refine wpG_op rfl rfl rfl ?_; intro K hK; go_big_quiet_op; go_big_quiet_on)
  clear hone hw7
  refine wpG_nil ?_
  intro u9 E2'
  have EX8 := Lib.hid E2'
  clear E2'
  go_upto_region 6 with (fail)
  refine wp_region_Hx (w0 := w2) [0, 1, 2, 3, 4, 5, 6, 7, 8, 9, 10, 11, 12, 13, 14, 15] [(g10, Obj.cells (hdA X) 29 (0, 0)), (w.heap.size, Obj.cells (hdA h) 29 (0, 0))] rfl EX8.out ?_
  refine lexH_phase [0, 1, 2, 3, 4, 5, 6, 7, 8, 9, 10, 11, 12, 13, 14, 15] [] ?_
  have hw10 : EnvX w2 _ [(g10, Obj.cells (hdA X) 29 (0, 0)), (w.heap.size, Obj.cells (hdA h) 29 (0, 0))] := EX8.out
  have hone := @EnvC.one _ _ _ hw10
  (refine wpG_op rfl rfl rfl ?_; intro K hK; go_big_quiet_op; go_big_quiet_on)
  (refine wpG_op rfl rfl rfl ?_; intro K hK; go_big_quiet_op; go_big_quiet_on)
  (refine wpG_skip rfl rfl ?_ hw10; intro K hK; go_big_quiet_op; go_big_quiet_on)
  (refine wpG_skip rfl rfl ?_ hw10; intro K hK; go_big_quiet_op; go_big_quiet_on)
  (refine wpG_skip rfl rfl ?_ hw10; intro K hK; go_big_quiet_op; go_big_quiet_on)
  (refine wpG_skip rfl rfl ?_ hw10; intro K hK; go_big_quiet_op; go_big_quiet_on)
  (refine wpG_skip rfl rfl ?_ hw10; intro K hK; go_big_quiet_op; go_big_quiet_on)
  (refine wpG_skip rfl rfl ?_ hw10; intro K hK; go_big_quiet_op; go_big_quiet_on)
  (refine wpG_skip rfl rfl ?_ hw10; intro K hK; go_big_quiet_op; go_big_quiet_on)
  (refine wpG_skip rfl rfl ?_ hw10; intro K hK; go_big_quiet_op; go_big_quiet_on)
  (refine wpG_skip rfl rfl ?_ hw10; intro K hK; go_big_quiet_op; go_big_quiet_on)
  (refine wpG_skip rfl rfl ?_ hw10; intro K hK; go_big_quiet_op; go_big_quiet_on)
  (refine wpG_skip rfl rfl ?_ hw10; intro K hK; go_big_quiet_op; go_big_quiet_on)
  (refine wpG_skip rfl rfl ?_ hw10; intro K hK; go_big_quiet_op; go_big_quiet_on)
  (refine wpG_skip rfl rfl ?_ hw10; intro K hK; go_big_quiet_op; go_big_quiet_on)
  (refine wpG_op rfl rfl rfl ?_; intro K hK; go_big_quiet_op; go_big_quiet_on)
  clear hone hw10
  refine wpG_nil ?_
  intro u12 E2'
  have EX11 := Lib.hid E2'
  clear E2'
  go_upto_region 8 with (fail)
  have HLX : Hid ((xs.map u8v).length = np * 1) := by show _ = _; rw [List.length_map, HNP.out, Nat.mul_one]
  have HLL : Hid ((xs ++ [0]).length = np + 1 ∧ isB (xs ++ [0])) := ⟨by rw [List.length_append, HNP.out]; rfl, by rw [isB_append]; exact ⟨HNX.out.2, fun y hy => by cases List.mem_singleton.1 hy; decide⟩⟩
  have HN1 := Lib.hid HNX.out.1
  have HP63 : Hid (np < 9223372036854775808) := by show _ < _; have := HN1.out; omega
  refine wp_region_Hx (w0 := w2) [0, 1, 2, 3, 4, 5, 6, 7, 8, 9, 10] [(g10, Obj.cells (hdA X) 29 (0, 0)), (w.heap.size, Obj.cells (hdA h) 29 (0, 0))] rfl EX11.out ?_
  refine lexH_phase [0] [1, 2, 3, 4, 5, 6, 7, 8, 9, 10] ?_
  have hw13 : EnvX w2 _ [(g10, Obj.cells (hdA X) 29 (0, 0)), (w.heap.size, Obj.cells (hdA h) 29 (0, 0))] := EX11.out
  have hone := @EnvC.one _ _ _ hw13
  (refine wpG_op rfl rfl rfl ?_; intro K hK; go_big_quiet_op; go_big_quiet_on)
  clear hone hw13
  refine wpG_nil ?_
  refine (hOp_fresh (R := FreshR 5 1 np (xs.map u8v)) (M0 := [(g10, Obj.cells (hdA X) 29 (0, 0)), (w.heap.size, Obj.cells (hdA h) 29 (0, 0))]) rfl rfl (fun _ h => h) (fun u hu => FAt_appC elB HLX.out u8_one (bytes_cells (HPB.out.up (EnvX.bel hu))) (by have := HN1.out; omega) rfl) ?_)
  rintro x1 N1 hF1 hf he14; intro K' hK'; go_big_quiet_op; go_big_quiet_on
  have HF1 := Lib.hid (And.intro hF1 hf)
  clear hF1
  clear hf
  change lexH _ _ _ _ _ _ (N1 ++ ((g10, Obj.cells (hdA X) 29 (0, 0)) :: ((w.heap.size, Obj.cells (hdA h) 29 (0, 0)) :: [])))
  refine (hOp_fresh (R := fun v N => ∃ g, v = .slice (some ⟨g, 0, none⟩) 1 1 ∧ N = [(g, Obj.cells #[.int .u8 0] 5 (0, 0))]) (M0 := (N1 ++ ((g10, Obj.cells (hdA X) 29 (0, 0)) :: ((w.heap.size, Obj.cells (hdA h) 29 (0, 0)) :: [])))) rfl rfl (fun _ h => h) (fun u hu => FAt_byte1 0 u) ?_)
  rintro _ _ ⟨g5, rfl, rfl⟩ hf he15; intro K' hK'; go_big_quiet_op; go_big_quiet_on
  have HG5 := Lib.hid (hf _ (List.mem_singleton.2 rfl))
  clear hf
  change lexH _ _ _ _ _ _ ((g5, Obj.cells #[.int .u8 0] 5 (0, 0)) :: (N1 ++ ((g10, Obj.cells (hdA X) 29 (0, 0)) :: ((w.heap.size, Obj.cells (hdA h) 29 (0, 0)) :: []))))
  refine (hOp_own (gd := none) (R := GrownR w2 5 1 (np + 1) (xs.map u8v ++ [.int .u8 0]) [(g10, Obj.cells (hdA X) 29 (0, 0)), (w.heap.size, Obj.cells (hdA h) 29 (0, 0))]) rfl rfl rfl rfl (fun u hu => appX_op elB [(g10, Obj.cells (hdA X) 29 (0, 0)), (w.heap.size, Obj.cells (hdA h) 29 (0, 0))] hu (n := np) (m := 1) HLX.out rfl u8_one0 HF1.out.1 (fun y hy => ⟨List.mem_cons_of_mem _ (List.mem_append_left _ hy), (HF1.out.2 y hy).1⟩) (src_box hu (List.Mem.head _) rfl) (fun z hz => ⟨List.mem_cons_of_mem _ (List.mem_append_right _ hz), fun y hy => (HF1.out.2 y hy).2 z hz⟩) (by have := HN1.out; omega) rfl rfl) ?_)
  rintro x M' ⟨N, rfl, hF, hn⟩ he16; intro K' hK'; go_big_quiet_op; go_big_quiet_on
  obtain ⟨gl, capgl, curgl, rfl, rfl, hcgl⟩ | ⟨_, _, h0, _⟩ := hF
  case inr => omega
  rw [show xs.map u8v ++ [.int .u8 0] = (xs ++ [0]).map u8v by rw [List.map_append]; rfl] at hcgl
  have HCgl := Lib.hid hcgl
  clear hcgl hn
  change lexH _ _ _ _ _ _ [(gl, Obj.cells curgl 5 (0, 0)), (g10, Obj.cells (hdA X) 29 (0, 0)), (w.heap.size, Obj.cells (hdA h) 29 (0, 0))]
  refine lexH_phase [4, 5, 6, 7] [8, 9, 10] ?_
  have hw17 : EnvX w2 _ [(gl, Obj.cells curgl 5 (0, 0)), (g10, Obj.cells (hdA X) 29 (0, 0)), (w.heap.size, Obj.cells (hdA h) 29 (0, 0))] := he16.choose_spec
  have hone := @EnvC.one _ _ _ hw17
  (refine wpG_call (f := 12) (args := #[.slice (some ⟨gl, 0, none⟩) (np + 1) capgl]) (v := .tuple #[hdV noHd, .bool false]) rfl rfl rfl Tryd.func12 rfl rfl (fun u hu => HRX.out (xs ++ [0]) _ (np + 1) capgl u HLL.out.1 (by have := HN1.out; omega) (by have := HN1.out; omega) HCgl.out.1 HCgl.out.2.1 HLL.out.2 (boxR_bytes hu (List.Mem.head _) HLL.out.1 HCgl.out) (HT2.out.below (EnvX.bel hu))) ?_ hw17; intro K hK; go_big_quiet_op; go_big_quiet_on)
  (refine wpG_op rfl rfl rfl ?_; intro K hK; go_big_quiet_op; go_big_quiet_on)
  (refine wpG_op rfl rfl rfl ?_; intro K hK; go_big_quiet_op; go_big_quiet_on)
  (refine wpG_op rfl rfl rfl ?_; intro K hK; go_big_quiet_op; go_big_quiet_on)
  clear hone hw17
  refine wpG_nil ?_
  refine (hOp_fresh (R := fun x N => ∃ g, x = .pointer (some ⟨g, 0, none⟩) ∧ N = [(g, Obj.cells (hdA noHd) 29 (0, 0))]) (M0 := [(gl, Obj.cells curgl 5 (0, 0)), (g10, Obj.cells (hdA X) 29 (0, 0)), (w.heap.size, Obj.cells (hdA h) 29 (0, 0))]) rfl rfl (fun _ h => h) (fun u hu => FAt_new (new_hd _) u) ?_)
  rintro _ _ ⟨g12, rfl, rfl⟩ hf he18; intro K' hK'; go_big_quiet_op; go_big_quiet_on
  have HG12 := Lib.hid (hf _ (List.mem_singleton.2 rfl))
  clear hf
  change lexH _ _ _ _ _ _ [(g12, Obj.cells (hdA noHd) 29 (0, 0)), (gl, Obj.cells curgl 5 (0, 0)), (g10, Obj.cells (hdA X) 29 (0, 0)), (w.heap.size, Obj.cells (hdA h) 29 (0, 0))]
  refine (hOp_store rfl (g12) (hdA noHd) rfl rfl HG12.out.1 29 ((hdA noHd)) (List.Mem.head _) (infoHd _ (hdA_size (show lenH noHd from ⟨rfl, rfl, rfl, rfl⟩))) ((hdA_size (show lenH noHd from ⟨rfl, rfl, rfl, rfl⟩)).trans (hdA_size (show lenH noHd from ⟨rfl, rfl, rfl, rfl⟩)).symm) (hdA_one _) [(g12, Obj.cells (hdA noHd) 29 (0, 0)), (gl, Obj.cells curgl 5 (0, 0)), (g10, Obj.cells (hdA X) 29 (0, 0)), (w.heap.size, Obj.cells (hdA h) 29 (0, 0))] (List.forall_mem_cons.2 ⟨.inl rfl, fun y hy => .inr ⟨List.mem_cons_of_mem _ hy, HG12.out.2 y hy⟩⟩) ?_)
  intro he19
  refine lexH_phase [10] [] ?_
  have hw20 : EnvX w2 _ [(g12, Obj.cells (hdA noHd) 29 (0, 0)), (gl, Obj.cells curgl 5 (0, 0)), (g10, Obj.cells (hdA X) 29 (0, 0)), (w.heap.size, Obj.cells (hdA h) 29 (0, 0))] := he19.choose_spec
  have hone := @EnvC.one _ _ _ hw20
  (refine wpG_op rfl rfl rfl ?_; intro K hK; go_big_quiet_op; go_big_quiet_on)
  clear hone hw20
  refine wpG_nil ?_
  intro u22 E2'
  have EX21 := Lib.hid E2'
  clear E2'
  go_upto_region 9 with (fail)
  refine wp_region_Hx (w0 := w2) [0, 1, 2, 3, 4, 5, 6, 7, 8, 9, 10, 11] [(g12, Obj.cells (hdA noHd) 29 (0, 0)), (gl, Obj.cells curgl 5 (0, 0)), (g10, Obj.cells (hdA X) 29 (0, 0)), (w.heap.size, Obj.cells (hdA h) 29 (0, 0))] rfl EX21.out ?_
  refine lexH_phase [0, 1, 2, 3, 4, 5, 6, 7, 8, 9, 10, 11] [] ?_
  have hw23 : EnvX w2 _ [(g12, Obj.cells (hdA noHd) 29 (0, 0)), (gl, Obj.cells curgl 5 (0, 0)), (g10, Obj.cells (hdA X) 29 (0, 0)), (w.heap.size, Obj.cells (hdA h) 29 (0, 0))] := EX21.out
  have hone := @EnvC.one _ _ _ hw23
  (refine wpG_op rfl rfl rfl ?_; intro K hK; go_big_quiet_op; go_big_quiet_on)
  (refine wpG_op rfl rfl rfl ?_; intro K hK; go_big_quiet_op; go_big_quiet_on)
  (refine wpG_op rfl rfl rfl ?_; intro K hK; go_big_quiet_op; go_big_quiet_on)
  (refine wpG_skip rfl rfl ?_ hw23; intro K hK; go_big_quiet_op; go_big_quiet_on)
  (refine wpG_skip rfl rfl ?_ hw23; intro K hK; go_big_quiet_op; go_big_quiet_on)
  (refine wpG_op rfl rfl rfl ?_; intro K hK; go_big_quiet_op; go_big_quiet_on)
  (refine wpG_op rfl rfl rfl ?_; intro K hK; go_big_quiet_op; go_big_quiet_on)
  (refine wpG_skip rfl rfl ?_ hw23; intro K hK; go_big_quiet_op; go_big_quiet_on)
  (refine wpG_skip rfl rfl ?_ hw23; intro K hK; go_big_quiet_op; go_big_quiet_on)
  (refine wpG_skip rfl rfl ?_ hw23; intro K hK; go_big_quiet_op; go_big_quiet_on)
  (refine wpG_skip rfl rfl ?_ hw23; intro K hK; go_big_quiet_op; go_big_quiet_on)
  (refine wpG_op rfl rfl rfl ?_; intro K hK; go_big_quiet_op; go_big_quiet_on)
  clear hone hw23
  refine wpG_nil ?_
  intro u25 E2'
  have EX24 := Lib.hid E2'
  clear E2'
  have HBE := Lib.hid (HB2.out.trans ((EnvX.bel EX24.out).mono HB2.out.size))
  go_wp2
  go_ret
  exact ⟨rfl, HBE.out⟩
set_option maxRecDepth 20000 in
set_option maxHeartbeats 8000000 in
theorem law_cutH_ft (H : HeadC) (h : Hd) (q : Int) (b : List Int) (A : Option Addr) (n c : Nat) (w : World) (hh : okHd h) (hq : I64 q) (hl : b.length = n) (hnc : n ≤ c) (hcm : c ≤ maxLen) (hB : isB b) (hx : Bytes w w.heap.size A b) (ht : Tables w) (k1 : mayPut h = false) (k2 : mayRead b = true) (h4 : ¬ 400 < n) :
    Calls Tryd.prog 8 #[hdV h, .int .i64 q, .slice A n c] w fun e w' => e = .returned (.bool true) ∧ Below w.heap.size w w' := by
  have HN63 : Hid (n < 9223372036854775808) := by show _ < _; omega
  have C5 : Hid (decide ((400 : Int) < (n : Int)) = false) := decide_eq_false (by omega)
  have HNX : Hid ((putH h).1.length = 0 ∧ isB (putH h).1) := by
    unfold putH
    rw [k1]
    exact ⟨rfl, fun y hy => by cases hy⟩
  have HRD : Hid (∀ u, Below w.heap.size w u → Tables u → Calls Tryd.prog 12 #[.slice A n c] u fun e w' => e = .returned (.tuple #[hdV (readH b).1, .bool true]) ∧ Below u.heap.size u w') := fun u hb hu => by
    have h1 := H.read A n c b u hl (by omega) hnc hcm hB (hx.up hb) hu
    rwa [read_snd, k2] at h1
  have HRX : Hid (∀ (ys : List Int) (A : Option Addr) (m c : Nat) (u : World), ys.length = m → m ≤ 1000 → m ≠ 176 → m ≤ c → c ≤ maxLen → isB ys → Bytes u u.heap.size A ys → Tables u → Calls Tryd.prog 12 #[.slice A m c] u fun e w' => e = .returned (.tuple #[hdV noHd, .bool false]) ∧ Below u.heap.size u w') := fun ys A m c u h1 h2 h3 h4 h5 h6 h7 h8 => by
    have h9 := H.read A m c ys u h1 (by omega) h4 h5 h6 h7 h8
    rwa [read_len (by omega)] at h9
  have HXL : Hid (lenH (readH b).1) := (okHd_read hB).len
  have hmr : n = 176 ∧ 0 ≤ (readH b).1.height ∧ (readH b).1.height ≤ 1048576 := by
    have e : (readH b).1 = headOf b := by unfold readH; rw [if_pos k2]
    unfold mayRead at k2
    rw [decide_eq_true_eq] at k2
    rw [e]
    exact ⟨by rw [← hl]; exact k2.1, by show (0 : Int) ≤ ((getL (cutP b 0 4) : Nat) : Int); omega, by show ((getL (cutP b 0 4) : Nat) : Int) ≤ 1048576; omega⟩
  have C4 : Hid (decide ((n : Int) ≠ 176) = false) := decide_eq_false (by omega)
  have C8 : Hid (decide ((readH b).1.height < 0) = false) := decide_eq_false (by omega)
  have C13 : Hid (decide (1048576 < (readH b).1.height) = false) := decide_eq_false (by omega)
  clear hmr
  have HQQ := Lib.hid hq
  generalize (readH b).1 = X at *
  clear h4 hl hnc hcm hB hx k2 hq
  have HL := Lib.hid hh.len
  have HOK := Lib.hid hh
  have HP1 : Hid ((putH h).2 = false) := by show _ = _; unfold putH; rw [k1]; rfl
  have E0 : Hid (EnvX w (w.alloc (.cells (hdA h) 29)) [(w.heap.size, Obj.cells (hdA h) 29 (0, 0))]) := (EnvX.start w).new _
  have HAW := Lib.hid (hawake_any H (w.alloc (.cells (hdA h) 29)) (ht.below (EnvX.bel E0.out)))
  have HT := Lib.hid ht
  have HH := Lib.hid H
  clear ht H hh k1
  unfold hdV
  go_enter Tryd.func8, Tryd.ntmps8
  go_upto_region 1 with (fail)
  generalize (w.alloc (.cells (hdA h) 29)) = W at *
  go_wp2_with fail
  refine HAW.out.mono ?_
  rintro e w1 ⟨rfl, hb1⟩
  have HB1 := Lib.hid (EnvX.below E0.out hb1).bel
  have E1 : Hid (EnvX w1 w1 [(w.heap.size, Obj.cells (hdA h) 29 (0, 0))]) := ⟨Below.refl _ _, (EnvX.below E0.out hb1).box⟩
  have HT1 := Lib.hid (HT.out.below HB1.out)
  clear hb1 E0 HAW
  have HLD : Hid ((loadVar 29 ⟨w.heap.size, 0, none⟩).run Tryd.prog w1 = .ok (.agg (hdA h)) w1) := box_hd E1.out (List.Mem.head _) HL.out
  have HPT : Hid (Calls Tryd.prog 10 #[.agg (hdA h)] w1 fun e w' => (∃ v, e = .returned (.tuple #[v, .bool false]) ∧ OwnB w' w1.heap.size v (putH h).1) ∧ Below w1.heap.size w1 w') := by
    have h1 := HH.out.put h w1 HOK.out (HT1.out.below (EnvX.bel E1.out))
    rwa [HP1.out] at h1
  go_upto_region 2 with (fail)
  go_wp2_with ((with_reducible refine wpList_load_run (o := ⟨some 18, _, _, _, _, _⟩) ?_ 29 (.tmp 3) ?_ ⟨w.heap.size, 0, none⟩ ?_ HLD.out ?_); (rfl); (rfl); (rfl))
  refine HPT.out.mono ?_
  rintro e w2 ⟨⟨v2, rfl, hv⟩, hb⟩
  obtain ⟨Ap, cp, rfl⟩ := hv.form
  have HPB := Lib.hid hv.bytes.2
  have HPC := Lib.hid hv.cap
  have E2 : Hid (EnvX w2 w2 [(w.heap.size, Obj.cells (hdA h) 29 (0, 0))]) := ⟨Below.refl _ _, (EnvX.below E1.out hb).box⟩
  have HB2 := Lib.hid (HB1.out.trans ((EnvX.below E1.out hb).bel.mono HB1.out.size))
  have HT2 := Lib.hid (HT1.out.below (EnvX.below E1.out hb).bel)
  clear hv hb HLD HPT E1
  obtain ⟨np, hnp⟩ : ∃ np, (putH h).1.length = np := ⟨_, rfl⟩
  obtain ⟨xs, hxs⟩ : ∃ xs, (putH h).1 = xs := ⟨_, rfl⟩
  have HNP := Lib.hid hnp
  have HXS := Lib.hid hxs
  rw [hnp] at HPC ⊢
  rw [hxs] at HPB HNP
  clear hnp hxs
  rw [HXS.out, HNP.out] at HNX
  have HBW : Hid (∀ u, Below w2.heap.size w2 u → Below w.heap.size w u) := fun u hu => HB2.out.trans (hu.mono HB2.out.size)
  go_upto_region 3 with (fail)
  refine wp_region_Hx (w0 := w2) [0, 1, 2, 3, 4, 5, 6] [(w.heap.size, Obj.cells (hdA h) 29 (0, 0))] rfl E2.out ?_
  refine lexH_phase [0, 1, 2, 3, 4, 5, 6] [] ?_
  have hw1 : EnvX w2 _ [(w.heap.size, Obj.cells (hdA h) 29 (0, 0))] := E2.out
  have hone := @EnvC.one _ _ _ hw1
  (refine wpG_op rfl rfl rfl ?_; intro K hK; go_big_quiet_op; go_big_quiet_on)
  (refine wpG_op rfl rfl rfl ?_; intro K hK; go_big_quiet_op; go_big_quiet_on)
  (refine wpG_op rfl rfl rfl ?_; intro K hK; go_big_quiet_op; go_big_quiet_on)
  (refine wpG_op rfl rfl rfl ?_; intro K hK; go_big_quiet_op; go_big_quiet_on)
  (refine wpG_val (v := .int .i64 (n : Int)) rfl rfl (fun u hu => len_op Tryd.underlying30 HN63.out u rfl) ?_ hw1; intro K hK; go_big_quiet_op; go_big_quiet_on)
  (refine wpG_val (v := .bool false) rfl rfl (fun u hu => gtZ_op u C5.out rfl rfl) ?_ hw1; intro K hK; go_big_quiet_op; go_big_quiet_on)
  (refine wpG_op rfl rfl rfl ?_; intro K hK; go_big_quiet_op; go_big_quiet_on)
  clear hone hw1
  refine wpG_nil ?_
  intro u3 E2'
  have EX2 := Lib.hid E2'
  clear E2'
  go_upto_region 5 with (fail)
  refine wp_region_Hx (w0 := w2) [0, 1, 2, 3, 4, 5, 6, 7] [(w.heap.size, Obj.cells (hdA h) 29 (0, 0))] rfl EX2.out ?_
  refine lexH_phase [0, 1, 2, 3, 4] [5, 6, 7] ?_
  have hw4 : EnvX w2 _ [(w.heap.size, Obj.cells (hdA h) 29 (0, 0))] := EX2.out
  have hone := @EnvC.one _ _ _ hw4
  (refine wpG_op rfl rfl rfl ?_; intro K hK; go_big_quiet_op; go_big_quiet_on)
  (refine wpG_call (f := 12) (args := #[.slice A n c]) (v := .tuple #[hdV X, .bool true]) rfl rfl rfl Tryd.func12 rfl rfl (fun u hu => HRD.out u (HBW.out u (EnvX.bel hu)) (HT2.out.below (EnvX.bel hu))) ?_ hw4; intro K hK; go_big_quiet_op; go_big_quiet_on)
  (refine wpG_op rfl rfl rfl ?_; intro K hK; go_big_quiet_op; go_big_quiet_on)
  (refine wpG_op rfl rfl rfl ?_; intro K hK; go_big_quiet_op; go_big_quiet_on)
  (refine wpG_op rfl rfl rfl ?_; intro K hK; go_big_quiet_op; go_big_quiet_on)
  clear hone hw4
  refine wpG_nil ?_
  refine (hOp_fresh (R := fun x N => ∃ g, x = .pointer (some ⟨g, 0, none⟩) ∧ N = [(g, Obj.cells (hdA noHd) 29 (0, 0))]) (M0 := [(w.heap.size, Obj.cells (hdA h) 29 (0, 0))]) rfl rfl (fun _ h => h) (fun u hu => FAt_new (new_hd _) u) ?_)
  rintro _ _ ⟨g10, rfl, rfl⟩ hf he5; intro K' hK'; go_big_quiet_op; go_big_quiet_on
  have HG10 := Lib.hid (hf _ (List.mem_singleton.2 rfl))
  clear hf
  change lexH _ _ _ _ _ _ [(g10, Obj.cells (hdA noHd) 29 (0, 0)), (w.heap.size, Obj.cells (hdA h) 29 (0, 0))]
  refine (hOp_store rfl (g10) (hdA X) rfl rfl HG10.out.1 29 ((hdA noHd)) (List.Mem.head _) (infoHd _ (hdA_size HXL.out)) ((hdA_size (show lenH noHd from ⟨rfl, rfl, rfl, rfl⟩)).trans (hdA_size HXL.out).symm) (hdA_one _) [(g10, Obj.cells (hdA X) 29 (0, 0)), (w.heap.size, Obj.cells (hdA h) 29 (0, 0))] (List.forall_mem_cons.2 ⟨.inl rfl, fun y hy => .inr ⟨List.mem_cons_of_mem _ hy, HG10.out.2 y hy⟩⟩) ?_)
  intro he6
  refine lexH_phase [7] [] ?_
  have hw7 : EnvX w2 _ [(g10, Obj.cells (hdA X) 29 (0, 0)), (w.heap.size, Obj.cells (hdA h) 29 (0, 0))] := he6.choose_spec
  have hone := @EnvC.one _ _ _ hw7
  (refine wpG_op rfl rfl rfl ?_; intro K hK; go_big_quiet_op; go_big_quiet_on)
  clear hone hw7
  refine wpG_nil ?_
  intro u9 E2'
  have EX8 := Lib.hid E2'
  clear E2'
  go_upto_region 6 with (fail)
  refine wp_region_Hx (w0 := w2) [0, 1, 2, 3, 4, 5, 6, 7, 8, 9, 10, 11, 12, 13, 14, 15] [(g10, Obj.cells (hdA X) 29 (0, 0)), (w.heap.size, Obj.cells (hdA h) 29 (0, 0))] rfl EX8.out ?_
  refine lexH_phase [0, 1, 2, 3, 4, 5, 6, 7, 8, 9, 10, 11, 12, 13, 14, 15] [] ?_
  have hw10 : EnvX w2 _ [(g10, Obj.cells (hdA X) 29 (0, 0)), (w.heap.size, Obj.cells (hdA h) 29 (0, 0))] := EX8.out
  have hone := @EnvC.one _ _ _ hw10
  (refine wpG_op rfl rfl rfl ?_; intro K hK; go_big_quiet_op; go_big_quiet_on)
  (refine wpG_op rfl rfl rfl ?_; intro K hK; go_big_quiet_op; go_big_quiet_on)
  (refine wpG_op rfl rfl rfl ?_; intro K hK; go_big_quiet_op; go_big_quiet_on)
  (refine wpG_val (v := .int .i64 (n : Int)) rfl rfl (fun u hu => len_op Tryd.underlying30 HN63.out u rfl) ?_ hw10; intro K hK; go_big_quiet_op; go_big_quiet_on)
  (refine wpG_val (v := .bool false) rfl rfl (fun u hu => neZ_op u C4.out rfl rfl) ?_ hw10; intro K hK; go_big_quiet_op; go_big_quiet_on)
  (refine wpG_op rfl rfl rfl ?_; intro K hK; go_big_quiet_op; go_big_quiet_on)
  (refine wpG_op rfl rfl rfl ?_; intro K hK; go_big_quiet_op; go_big_quiet_on)
  (refine wpG_val (v := .int .i64 X.height) rfl rfl (fun u hu => load_any_op u (box_hd_height hu (List.Mem.head _)) rfl) ?_ hw10; intro K hK; go_big_quiet_op; go_big_quiet_on)
  (refine wpG_val (v := .bool false) rfl rfl (fun u hu => ltZ_op u C8.out rfl rfl) ?_ hw10; intro K hK; go_big_quiet_op; go_big_quiet_on)
  (refine wpG_op rfl rfl rfl ?_; intro K hK; go_big_quiet_op; go_big_quiet_on)
  (refine wpG_op rfl rfl rfl ?_; intro K hK; go_big_quiet_op; go_big_quiet_on)
  (refine wpG_op rfl rfl rfl ?_; intro K hK; go_big_quiet_op; go_big_quiet_on)
  (refine wpG_val (v := .int .i64 X.height) rfl rfl (fun u hu => load_any_op u (box_hd_height hu (List.Mem.head _)) rfl) ?_ hw10; intro K hK; go_big_quiet_op; go_big_quiet_on)
  (refine wpG_val (v := .bool false) rfl rfl (fun u hu => gtZ_op u C13.out rfl rfl) ?_ hw10; intro K hK; go_big_quiet_op; go_big_quiet_on)
  (refine wpG_op rfl rfl rfl ?_; intro K hK; go_big_quiet_op; go_big_quiet_on)
  (refine wpG_op rfl rfl rfl ?_; intro K hK; go_big_quiet_op; go_big_quiet_on)
  clear hone hw10
  refine wpG_nil ?_
  intro u12 E2'
  have EX11 := Lib.hid E2'
  clear E2'
  go_upto_region 8 with (fail)
  have HLX : Hid ((xs.map u8v).length = np * 1) := by show _ = _; rw [List.length_map, HNP.out, Nat.mul_one]
  have HLL : Hid ((xs ++ [0]).length = np + 1 ∧ isB (xs ++ [0])) := ⟨by rw [List.length_append, HNP.out]; rfl, by rw [isB_append]; exact ⟨HNX.out.2, fun y hy => by cases List.mem_singleton.1 hy; decide⟩⟩
  have HN1 := Lib.hid HNX.out.1
  have HP63 : Hid (np < 9223372036854775808) := by show _ < _; have := HN1.out; omega
  refine wp_region_Hx (w0 := w2) [0, 1, 2, 3, 4, 5, 6, 7, 8, 9, 10] [(g10, Obj.cells (hdA X) 29 (0, 0)), (w.heap.size, Obj.cells (hdA h) 29 (0, 0))] rfl EX11.out ?_
  refine lexH_phase [0] [1, 2, 3, 4, 5, 6, 7, 8, 9, 10] ?_
  have hw13 : EnvX w2 _ [(g10, Obj.cells (hdA X) 29 (0, 0)), (w.heap.size, Obj.cells (hdA h) 29 (0, 0))] := EX11.out
  have hone := @EnvC.one _ _ _ hw13
  (refine wpG_op rfl rfl rfl ?_; intro K hK; go_big_quiet_op; go_big_quiet_on)
  clear hone hw13
  refine wpG_nil ?_
  refine (hOp_fresh (R := FreshR 5 1 np (xs.map u8v)) (M0 := [(g10, Obj.cells (hdA X) 29 (0, 0)), (w.heap.size, Obj.cells (hdA h) 29 (0, 0))]) rfl rfl (fun _ h => h) (fun u hu => FAt_appC elB HLX.out u8_one (bytes_cells (HPB.out.up (EnvX.bel hu))) (by have := HN1.out; omega) rfl) ?_)
  rintro x1 N1 hF1 hf he14; intro K' hK'; go_big_quiet_op; go_big_quiet_on
  have HF1 := Lib.hid (And.intro hF1 hf)
  clear hF1
  clear hf
  change lexH _ _ _ _ _ _ (N1 ++ ((g10, Obj.cells (hdA X) 29 (0, 0)) :: ((w.heap.size, Obj.cells (hdA h) 29 (0, 0)) :: [])))
  refine (hOp_fresh (R := fun v N => ∃ g, v = .slice (some ⟨g, 0, none⟩) 1 1 ∧ N = [(g, Obj.cells #[.int .u8 0] 5 (0, 0))]) (M0 := (N1 ++ ((g10, Obj.cells (hdA X) 29 (0, 0)) :: ((w.heap.size, Obj.cells (hdA h) 29 (0, 0)) :: [])))) rfl rfl (fun _ h => h) (fun u hu => FAt_byte1 0 u) ?_)
  rintro _ _ ⟨g5, rfl, rfl⟩ hf he15; intro K' hK'; go_big_quiet_op; go_big_quiet_on
  have HG5 := Lib.hid (hf _ (List.mem_singleton.2 rfl))
  clear hf
  change lexH _ _ _ _ _ _ ((g5, Obj.cells #[.int .u8 0] 5 (0, 0)) :: (N1 ++ ((g10, Obj.cells (hdA X) 29 (0, 0)) :: ((w.heap.size, Obj.cells (hdA h) 29 (0, 0)) :: []))))
  refine (hOp_own (gd := none) (R := GrownR w2 5 1 (np + 1) (xs.map u8v ++ [.int .u8 0]) [(g10, Obj.cells (hdA X) 29 (0, 0)), (w.heap.size, Obj.cells (hdA h) 29 (0, 0))]) rfl rfl rfl rfl (fun u hu => appX_op elB [(g10, Obj.cells (hdA X) 29 (0, 0)), (w.heap.size, Obj.cells (hdA h) 29 (0, 0))] hu (n := np) (m := 1) HLX.out rfl u8_one0 HF1.out.1 (fun y hy => ⟨List.mem_cons_of_mem _ (List.mem_append_left _ hy), (HF1.out.2 y hy).1⟩) (src_box hu (List.Mem.head _) rfl) (fun z hz => ⟨List.mem_cons_of_mem _ (List.mem_append_right _ hz), fun y hy => (HF1.out.2 y hy).2 z hz⟩) (by have := HN1.out; omega) rfl rfl) ?_)
  rintro x M' ⟨N, rfl, hF, hn⟩ he16; intro K' hK'; go_big_quiet_op; go_big_quiet_on
  obtain ⟨gl, capgl, curgl, rfl, rfl, hcgl⟩ | ⟨_, _, h0, _⟩ := hF
  case inr => omega
  rw [show xs.map u8v ++ [.int .u8 0] = (xs ++ [0]).map u8v by rw [List.map_append]; rfl] at hcgl
  have HCgl := Lib.hid hcgl
  clear hcgl hn
  change lexH _ _ _ _ _ _ [(gl, Obj.cells curgl 5 (0, 0)), (g10, Obj.cells (hdA X) 29 (0, 0)), (w.heap.size, Obj.cells (hdA h) 29 (0, 0))]
  refine lexH_phase [4, 5, 6, 7] [8, 9, 10] ?_
  have hw17 : EnvX w2 _ [(gl, Obj.cells curgl 5 (0, 0)), (g10, Obj.cells (hdA X) 29 (0, 0)), (w.heap.size, Obj.cells (hdA h) 29 (0, 0))] := he16.choose_spec
  have hone := @EnvC.one _ _ _ hw17
  (refine wpG_call (f := 12) (args := #[.slice (some ⟨gl, 0, none⟩) (np + 1) capgl]) (v := .tuple #[hdV noHd, .bool false]) rfl rfl rfl Tryd.func12 rfl rfl (fun u hu => HRX.out (xs ++ [0]) _ (np + 1) capgl u HLL.out.1 (by have := HN1.out; omega) (by have := HN1.out; omega) HCgl.out.1 HCgl.out.2.1 HLL.out.2 (boxR_bytes hu (List.Mem.head _) HLL.out.1 HCgl.out) (HT2.out.below (EnvX.bel hu))) ?_ hw17; intro K hK; go_big_quiet_op; go_big_quiet_on)
  (refine wpG_op rfl rfl rfl ?_; intro K hK; go_big_quiet_op; go_big_quiet_on)
  (refine wpG_op rfl rfl rfl ?_; intro K hK; go_big_quiet_op; go_big_quiet_on)
  (refine wpG_op rfl rfl rfl ?_; intro K hK; go_big_quiet_op; go_big_quiet_on)
  clear hone hw17
  refine wpG_nil ?_
  refine (hOp_fresh (R := fun x N => ∃ g, x = .pointer (some ⟨g, 0, none⟩) ∧ N = [(g, Obj.cells (hdA noHd) 29 (0, 0))]) (M0 := [(gl, Obj.cells curgl 5 (0, 0)), (g10, Obj.cells (hdA X) 29 (0, 0)), (w.heap.size, Obj.cells (hdA h) 29 (0, 0))]) rfl rfl (fun _ h => h) (fun u hu => FAt_new (new_hd _) u) ?_)
  rintro _ _ ⟨g12, rfl, rfl⟩ hf he18; intro K' hK'; go_big_quiet_op; go_big_quiet_on
  have HG12 := Lib.hid (hf _ (List.mem_singleton.2 rfl))
  clear hf
  change lexH _ _ _ _ _ _ [(g12, Obj.cells (hdA noHd) 29 (0, 0)), (gl, Obj.cells curgl 5 (0, 0)), (g10, Obj.cells (hdA X) 29 (0, 0)), (w.heap.size, Obj.cells (hdA h) 29 (0, 0))]
  refine (hOp_store rfl (g12) (hdA noHd) rfl rfl HG12.out.1 29 ((hdA noHd)) (List.Mem.head _) (infoHd _ (hdA_size (show lenH noHd from ⟨rfl, rfl, rfl, rfl⟩))) ((hdA_size (show lenH noHd from ⟨rfl, rfl, rfl, rfl⟩)).trans (hdA_size (show lenH noHd from ⟨rfl, rfl, rfl, rfl⟩)).symm) (hdA_one _) [(g12, Obj.cells (hdA noHd) 29 (0, 0)), (gl, Obj.cells curgl 5 (0, 0)), (g10, Obj.cells (hdA X) 29 (0, 0)), (w.heap.size, Obj.cells (hdA h) 29 (0, 0))] (List.forall_mem_cons.2 ⟨.inl rfl, fun y hy => .inr ⟨List.mem_cons_of_mem _ hy, HG12.out.2 y hy⟩⟩) ?_)
  intro he19
  refine lexH_phase [10] [] ?_
  have hw20 : EnvX w2 _ [(g12, Obj.cells (hdA noHd) 29 (0, 0)), (gl, Obj.cells curgl 5 (0, 0)), (g10, Obj.cells (hdA X) 29 (0, 0)), (w.heap.size, Obj.cells (hdA h) 29 (0, 0))] := he19.choose_spec
  have hone := @EnvC.one _ _ _ hw20
  (refine wpG_op rfl rfl rfl ?_; intro K hK; go_big_quiet_op; go_big_quiet_on)
  clear hone hw20
  refine wpG_nil ?_
  intro u22 E2'
  have EX21 := Lib.hid E2'
  clear E2'
  go_upto_region 9 with (fail)
  refine wp_region_Hx (w0 := w2) [0, 1, 2, 3, 4, 5, 6, 7, 8, 9, 10, 11] [(g12, Obj.cells (hdA noHd) 29 (0, 0)), (gl, Obj.cells curgl 5 (0, 0)), (g10, Obj.cells (hdA X) 29 (0, 0)), (w.heap.size, Obj.cells (hdA h) 29 (0, 0))] rfl EX21.out ?_
  refine lexH_phase [0, 1, 2, 3, 4, 5, 6, 7, 8, 9, 10, 11] [] ?_
  have hw23 : EnvX w2 _ [(g12, Obj.cells (hdA noHd) 29 (0, 0)), (gl, Obj.cells curgl 5 (0, 0)), (g10, Obj.cells (hdA X) 29 (0, 0)), (w.heap.size, Obj.cells (hdA h) 29 (0, 0))] := EX21.out
  have hone := @EnvC.one _ _ _ hw23
  (refine wpG_op rfl rfl rfl ?_; intro K hK; go_big_quiet_op; go_big_quiet_on)
  (refine wpG_op rfl rfl rfl ?_; intro K hK; go_big_quiet_op; go_big_quiet_on)
  (refine wpG_op rfl rfl rfl ?_; intro K hK; go_big_quiet_op; go_big_quiet_on)
  (refine wpG_skip rfl rfl ?_ hw23; intro K hK; go_big_quiet_op; go_big_quiet_on)
  (refine wpG_skip rfl rfl ?_ hw23; intro K hK; go_big_quiet_op; go_big_quiet_on)
  (refine wpG_op rfl rfl rfl ?_; intro K hK; go_big_quiet_op; go_big_quiet_on)
  (refine wpG_op rfl rfl rfl ?_; intro K hK; go_big_quiet_op; go_big_quiet_on)
  (refine wpG_skip rfl rfl ?_ hw23; intro K hK; go_big_quiet_op; go_big_quiet_on)
  (refine wpG_skip rfl rfl ?_ hw23; intro K hK; go_big_quiet_op; go_big_quiet_on)
  (refine wpG_skip rfl rfl ?_ hw23; intro K hK; go_big_quiet_op; go_big_quiet_on)
  (refine wpG_skip rfl rfl ?_ hw23; intro K hK; go_big_quiet_op; go_big_quiet_on)
  (refine wpG_op rfl rfl rfl ?_; intro K hK; go_big_quiet_op; go_big_quiet_on)
  clear hone hw23
  refine wpG_nil ?_
  intro u25 E2'
  have EX24 := Lib.hid E2'
  clear E2'
  have HBE := Lib.hid (HB2.out.trans ((EnvX.bel EX24.out).mono HB2.out.size))
  go_wp2
  go_ret
  exact ⟨rfl, HBE.out⟩
set_option maxRecDepth 20000 in
set_option maxHeartbeats 8000000 in
theorem law_cutH_tf (H : HeadC) (h : Hd) (q : Int) (b : List Int) (A : Option Addr) (n c : Nat) (w : World) (hh : okHd h) (hq : I64 q) (hl : b.length = n) (hnc : n ≤ c) (hcm : c ≤ maxLen) (hB : isB b) (hx : Bytes w w.heap.size A b) (ht : Tables w) (k1 : mayPut h = true) (k2 : mayRead b = false) (h4 : ¬ 400 < n) :
    Calls Tryd.prog 8 #[hdV h, .int .i64 q, .slice A n c] w fun e w' => e = .returned (.bool true) ∧ Below w.heap.size w w' := by
  have HN63 : Hid (n < 9223372036854775808) := by show _ < _; omega
  have C5 : Hid (decide ((400 : Int) < (n : Int)) = false) := decide_eq_false (by omega)
  have HNX : Hid ((putH h).1.length = 176 ∧ isB (putH h).1) := by
    unfold putH
    rw [k1]
    exact ⟨body_len hh, body_byte hh⟩
  have HRD : Hid (∀ u, Below w.heap.size w u → Tables u → Calls Tryd.prog 12 #[.slice A n c] u fun e w' => e = .returned (.tuple #[hdV (readH b).1, .bool false]) ∧ Below u.heap.size u w') := fun u hb hu => by
    have h1 := H.read A n c b u hl (by omega) hnc hcm hB (hx.up hb) hu
    rwa [read_snd, k2] at h1
  have HRX : Hid (∀ (ys : List Int) (A : Option Addr) (m c : Nat) (u : World), ys.length = m → m ≤ 1000 → m ≠ 176 → m ≤ c → c ≤ maxLen → isB ys → Bytes u u.heap.size A ys → Tables u → Calls Tryd.prog 12 #[.slice A m c] u fun e w' => e = .returned (.tuple #[hdV noHd, .bool false]) ∧ Below u.heap.size u w') := fun ys A m c u h1 h2 h3 h4 h5 h6 h7 h8 => by
    have h9 := H.read A m c ys u h1 (by omega) h4 h5 h6 h7 h8
    rwa [read_len (by omega)] at h9
  have HXL : Hid (lenH (readH b).1) := (okHd_read hB).len
  have HQQ := Lib.hid hq
  generalize (readH b).1 = X at *
  clear h4 hl hnc hcm hB hx k2 hq
  have HL := Lib.hid hh.len
  have HOK := Lib.hid hh
  have HP1 : Hid ((putH h).2 = true) := by show _ = _; unfold putH; rw [k1]; rfl
  have E0 : Hid (EnvX w (w.alloc (.cells (hdA h) 29)) [(w.heap.size, Obj.cells (hdA h) 29 (0, 0))]) := (EnvX.start w).new _
  have HAW := Lib.hid (hawake_any H (w.alloc (.cells (hdA h) 29)) (ht.below (EnvX.bel E0.out)))
  have HT := Lib.hid ht
  have HH := Lib.hid H
  clear ht H hh k1
  unfold hdV
  go_enter Tryd.func8, Tryd.ntmps8
  go_upto_region 1 with (fail)
  generalize (w.alloc (.cells (hdA h) 29)) = W at *
  go_wp2_with fail
  refine HAW.out.mono ?_
  rintro e w1 ⟨rfl, hb1⟩
  have HB1 := Lib.hid (EnvX.below E0.out hb1).bel
  have E1 : Hid (EnvX w1 w1 [(w.heap.size, Obj.cells (hdA h) 29 (0, 0))]) := ⟨Below.refl _ _, (EnvX.below E0.out hb1).box⟩
  have HT1 := Lib.hid (HT.out.below HB1.out)
  clear hb1 E0 HAW
  have HLD : Hid ((loadVar 29 ⟨w.heap.size, 0, none⟩).run Tryd.prog w1 = .ok (.agg (hdA h)) w1) := box_hd E1.out (List.Mem.head _) HL.out
  have HPT : Hid (Calls Tryd.prog 10 #[.agg (hdA h)] w1 fun e w' => (∃ v, e = .returned (.tuple #[v, .bool true]) ∧ OwnB w' w1.heap.size v (putH h).1) ∧ Below w1.heap.size w1 w') := by
    have h1 := HH.out.put h w1 HOK.out (HT1.out.below (EnvX.bel E1.out))
    rwa [HP1.out] at h1
  go_upto_region 2 with (fail)
  go_wp2_with ((with_reducible refine wpList_load_run (o := ⟨some 18, _, _, _, _, _⟩) ?_ 29 (.tmp 3) ?_ ⟨w.heap.size, 0, none⟩ ?_ HLD.out ?_); (rfl); (rfl); (rfl))
  refine HPT.out.mono ?_
  rintro e w2 ⟨⟨v2, rfl, hv⟩, hb⟩
  obtain ⟨Ap, cp, rfl⟩ := hv.form
  have HPB := Lib.hid hv.bytes.2
  have HPC := Lib.hid hv.cap
  have E2 : Hid (EnvX w2 w2 [(w.heap.size, Obj.cells (hdA h) 29 (0, 0))]) := ⟨Below.refl _ _, (EnvX.below E1.out hb).box⟩
  have HB2 := Lib.hid (HB1.out.trans ((EnvX.below E1.out hb).bel.mono HB1.out.size))
  have HT2 := Lib.hid (HT1.out.below (EnvX.below E1.out hb).bel)
  clear hv hb HLD HPT E1
  obtain ⟨np, hnp⟩ : ∃ np, (putH h).1.length = np := ⟨_, rfl⟩
  obtain ⟨xs, hxs⟩ : ∃ xs, (putH h).1 = xs := ⟨_, rfl⟩
  have HNP := Lib.hid hnp
  have HXS := Lib.hid hxs
  rw [hnp] at HPC ⊢
  rw [hxs] at HPB HNP
  clear hnp hxs
  rw [HXS.out, HNP.out] at HNX
  have HBW : Hid (∀ u, Below w2.heap.size w2 u → Below w.heap.size w u) := fun u hu => HB2.out.trans (hu.mono HB2.out.size)
  go_upto_region 3 with (fail)
  refine wp_region_Hx (w0 := w2) [0, 1, 2, 3, 4, 5, 6] [(w.heap.size, Obj.cells (hdA h) 29 (0, 0))] rfl E2.out ?_
  refine lexH_phase [0, 1, 2, 3, 4, 5, 6] [] ?_
  have hw1 : EnvX w2 _ [(w.heap.size, Obj.cells (hdA h) 29 (0, 0))] := E2.out
  have hone := @EnvC.one _ _ _ hw1
  (refine wpG_op rfl rfl rfl ?_; intro K hK; go_big_quiet_op; go_big_quiet_on)
  (refine wpG_op rfl rfl rfl ?_; intro K hK; go_big_quiet_op; go_big_quiet_on)
  (refine wpG_op rfl rfl rfl ?_; intro K hK; go_big_quiet_op; go_big_quiet_on)
  (refine wpG_op rfl rfl rfl ?_; intro K hK; go_big_quiet_op; go_big_quiet_on)
  (refine wpG_val (v := .int .i64 (n : Int)) rfl rfl (fun u hu => len_op Tryd.underlying30 HN63.out u rfl) ?_ hw1; intro K hK; go_big_quiet_op; go_big_quiet_on)
  (refine wpG_val (v := .bool false) rfl rfl (fun u hu => gtZ_op u C5.out rfl rfl) ?_ hw1; intro K hK; go_big_quiet_op; go_big_quiet_on)
  (refine wpG_op rfl rfl rfl ?_; intro K hK; go_big_quiet_op; go_big_quiet_on)
  clear hone hw1
  refine wpG_nil ?_
  intro u3 E2'
  have EX2 := Lib.hid E2'
  clear E2'
  go_upto_region 5 with (fail)
  refine wp_region_Hx (w0 := w2) [0, 1, 2, 3, 4, 5, 6, 7] [(w.heap.size, Obj.cells (hdA h) 29 (0, 0))] rfl EX2.out ?_
  refine lexH_phase [0, 1, 2, 3, 4] [5, 6, 7] ?_
  have hw4 : EnvX w2 _ [(w.heap.size, Obj.cells (hdA h) 29 (0, 0))] := EX2.out
  have hone := @EnvC.one _ _ _ hw4
  (refine wpG_op rfl rfl rfl ?_; intro K hK; go_big_quiet_op; go_big_quiet_on)
  (refine wpG_call (f := 12) (args := #[.slice A n c]) (v := .tuple #[hdV X, .bool false]) rfl rfl rfl Tryd.func12 rfl rfl (fun u hu => HRD.out u (HBW.out u (EnvX.bel hu)) (HT2.out.below (EnvX.bel hu))) ?_ hw4; intro K hK; go_big_quiet_op; go_big_quiet_on)
  (refine wpG_op rfl rfl rfl ?_; intro K hK; go_big_quiet_op; go_big_quiet_on)
  (refine wpG_op rfl rfl rfl ?_; intro K hK; go_big_quiet_op; go_big_quiet_on)
  (refine wpG_op rfl rfl rfl ?_; intro K hK; go_big_quiet_op; go_big_quiet_on)
  clear hone hw4
  refine wpG_nil ?_
  refine (hOp_fresh (R := fun x N => ∃ g, x = .pointer (some ⟨g, 0, none⟩) ∧ N = [(g, Obj.cells (hdA noHd) 29 (0, 0))]) (M0 := [(w.heap.size, Obj.cells (hdA h) 29 (0, 0))]) rfl rfl (fun _ h => h) (fun u hu => FAt_new (new_hd _) u) ?_)
  rintro _ _ ⟨g10, rfl, rfl⟩ hf he5; intro K' hK'; go_big_quiet_op; go_big_quiet_on
  have HG10 := Lib.hid (hf _ (List.mem_singleton.2 rfl))
  clear hf
  change lexH _ _ _ _ _ _ [(g10, Obj.cells (hdA noHd) 29 (0, 0)), (w.heap.size, Obj.cells (hdA h) 29 (0, 0))]
  refine (hOp_store rfl (g10) (hdA X) rfl rfl HG10.out.1 29 ((hdA noHd)) (List.Mem.head _) (infoHd _ (hdA_size HXL.out)) ((hdA_size (show lenH noHd from ⟨rfl, rfl, rfl, rfl⟩)).trans (hdA_size HXL.out).symm) (hdA_one _) [(g10, Obj.cells (hdA X) 29 (0, 0)), (w.heap.size, Obj.cells (hdA h) 29 (0, 0))] (List.forall_mem_cons.2 ⟨.inl rfl, fun y hy => .inr ⟨List.mem_cons_of_mem _ hy, HG10.out.2 y hy⟩⟩) ?_)
  intro he6
  refine lexH_phase [7] [] ?_
  have hw7 : EnvX w2 _ [(g10, Obj.cells (hdA X) 29 (0, 0)), (w.heap.size, Obj.cells (hdA h) 29 (0, 0))] := he6.choose_spec
  have hone := @EnvC.one _ _ _ hw7
  (refine wpG_op rfl rfl rfl ?_; intro K hK; go_big_quiet_op; go_big_quiet_on)
  clear hone hw7
  refine wpG_nil ?_
  intro u9 E2'
  have EX8 := Lib.hid E2'
  clear E2'
  go_upto_region 6 with (fail)
  refine wp_region_Hx (w0 := w2) [0, 1, 2, 3, 4, 5, 6, 7, 8, 9, 10, 11, 12, 13, 14, 15] [(g10, Obj.cells (hdA X) 29 (0, 0)), (w.heap.size, Obj.cells (hdA h) 29 (0, 0))] rfl EX8.out ?_
  refine lexH_phase [0, 1, 2, 3, 4, 5, 6, 7, 8, 9, 10, 11, 12, 13, 14, 15] [] ?_
  have hw10 : EnvX w2 _ [(g10, Obj.cells (hdA X) 29 (0, 0)), (w.heap.size, Obj.cells (hdA h) 29 (0, 0))] := EX8.out
  have hone := @EnvC.one _ _ _ hw10
  (refine wpG_op rfl rfl rfl ?_; intro K hK; go_big_quiet_op; go_big_quiet_on)
  (refine wpG_op rfl rfl rfl ?_; intro K hK; go_big_quiet_op; go_big_quiet_on)
  (refine wpG_skip rfl rfl ?_ hw10; intro K hK; go_big_quiet_op; go_big_quiet_on)
  (refine wpG_skip rfl rfl ?_ hw10; intro K hK; go_big_quiet_op; go_big_quiet_on)
  (refine wpG_skip rfl rfl ?_ hw10; intro K hK; go_big_quiet_op; go_big_quiet_on)
  (refine wpG_skip rfl rfl ?_ hw10; intro K hK; go_big_quiet_op; go_big_quiet_on)
  (refine wpG_skip rfl rfl ?_ hw10; intro K hK; go_big_quiet_op; go_big_quiet_on)
  (refine wpG_skip rfl rfl ?_ hw10; intro K hK; go_big_quiet_op; go_big_quiet_on)
  (refine wpG_skip rfl rfl ?_ hw10; intro K hK; go_big_quiet_op; go_big_quiet_on)
  (refine wpG_skip rfl rfl ?_ hw10; intro K hK; go_big_quiet_op; go_big_quiet_on)
  (refine wpG_skip rfl rfl ?_ hw10; intro K hK; go_big_quiet_op; go_big_quiet_on)
  (refine wpG_skip rfl rfl ?_ hw10; intro K hK; go_big_quiet_op; go_big_quiet_on)
  (refine wpG_skip rfl rfl ?_ hw10; intro K hK; go_big_quiet_op; go_big_quiet_on)
  (refine wpG_skip rfl rfl ?_ hw10; intro K hK; go_big_quiet_op; go_big_quiet_on)
  (refine wpG_skip rfl rfl ?_ hw10; intro K hK; go_big_quiet_op; go_big_quiet_on)
  (refine wpG_op rfl rfl rfl ?_; intro K hK; go_big_quiet_op; go_big_quiet_on)
  clear hone hw10
  refine wpG_nil ?_
  intro u12 E2'
  have EX11 := Lib.hid E2'
  clear E2'
  go_upto_region 8 with (fail)
  have HLX : Hid ((xs.map u8v).length = np * 1) := by show _ = _; rw [List.length_map, HNP.out, Nat.mul_one]
  have HLL : Hid ((xs ++ [0]).length = np + 1 ∧ isB (xs ++ [0])) := ⟨by rw [List.length_append, HNP.out]; rfl, by rw [isB_append]; exact ⟨HNX.out.2, fun y hy => by cases List.mem_singleton.1 hy; decide⟩⟩
  have HN1 := Lib.hid HNX.out.1
  have HP63 : Hid (np < 9223372036854775808) := by show _ < _; have := HN1.out; omega
  refine wp_region_Hx (w0 := w2) [0, 1, 2, 3, 4, 5, 6, 7, 8, 9, 10] [(g10, Obj.cells (hdA X) 29 (0, 0)), (w.heap.size, Obj.cells (hdA h) 29 (0, 0))] rfl EX11.out ?_
  refine lexH_phase [0] [1, 2, 3, 4, 5, 6, 7, 8, 9, 10] ?_
  have hw13 : EnvX w2 _ [(g10, Obj.cells (hdA X) 29 (0, 0)), (w.heap.size, Obj.cells (hdA h) 29 (0, 0))] := EX11.out
  have hone := @EnvC.one _ _ _ hw13
  (refine wpG_op rfl rfl rfl ?_; intro K hK; go_big_quiet_op; go_big_quiet_on)
  clear hone hw13
  refine wpG_nil ?_
  refine (hOp_fresh (R := FreshR 5 1 np (xs.map u8v)) (M0 := [(g10, Obj.cells (hdA X) 29 (0, 0)), (w.heap.size, Obj.cells (hdA h) 29 (0, 0))]) rfl rfl (fun _ h => h) (fun u hu => FAt_appC elB HLX.out u8_one (bytes_cells (HPB.out.up (EnvX.bel hu))) (by have := HN1.out; omega) rfl) ?_)
  rintro x1 N1 hF1 hf he14; intro K' hK'; go_big_quiet_op; go_big_quiet_on
  have HF1 := Lib.hid (And.intro hF1 hf)
  clear hF1
  clear hf
  change lexH _ _ _ _ _ _ (N1 ++ ((g10, Obj.cells (hdA X) 29 (0, 0)) :: ((w.heap.size, Obj.cells (hdA h) 29 (0, 0)) :: [])))
  refine (hOp_fresh (R := fun v N => ∃ g, v = .slice (some ⟨g, 0, none⟩) 1 1 ∧ N = [(g, Obj.cells #[.int .u8 0] 5 (0, 0))]) (M0 := (N1 ++ ((g10, Obj.cells (hdA X) 29 (0, 0)) :: ((w.heap.size, Obj.cells (hdA h) 29 (0, 0)) :: [])))) rfl rfl (fun _ h => h) (fun u hu => FAt_byte1 0 u) ?_)
  rintro _ _ ⟨g5, rfl, rfl⟩ hf he15; intro K' hK'; go_big_quiet_op; go_big_quiet_on
  have HG5 := Lib.hid (hf _ (List.mem_singleton.2 rfl))
  clear hf
  change lexH _ _ _ _ _ _ ((g5, Obj.cells #[.int .u8 0] 5 (0, 0)) :: (N1 ++ ((g10, Obj.cells (hdA X) 29 (0, 0)) :: ((w.heap.size, Obj.cells (hdA h) 29 (0, 0)) :: []))))
  refine (hOp_own (gd := none) (R := GrownR w2 5 1 (np + 1) (xs.map u8v ++ [.int .u8 0]) [(g10, Obj.cells (hdA X) 29 (0, 0)), (w.heap.size, Obj.cells (hdA h) 29 (0, 0))]) rfl rfl rfl rfl (fun u hu => appX_op elB [(g10, Obj.cells (hdA X) 29 (0, 0)), (w.heap.size, Obj.cells (hdA h) 29 (0, 0))] hu (n := np) (m := 1) HLX.out rfl u8_one0 HF1.out.1 (fun y hy => ⟨List.mem_cons_of_mem _ (List.mem_append_left _ hy), (HF1.out.2 y hy).1⟩) (src_box hu (List.Mem.head _) rfl) (fun z hz => ⟨List.mem_cons_of_mem _ (List.mem_append_right _ hz), fun y hy => (HF1.out.2 y hy).2 z hz⟩) (by have := HN1.out; omega) rfl rfl) ?_)
  rintro x M' ⟨N, rfl, hF, hn⟩ he16; intro K' hK'; go_big_quiet_op; go_big_quiet_on
  obtain ⟨gl, capgl, curgl, rfl, rfl, hcgl⟩ | ⟨_, _, h0, _⟩ := hF
  case inr => omega
  rw [show xs.map u8v ++ [.int .u8 0] = (xs ++ [0]).map u8v by rw [List.map_append]; rfl] at hcgl
  have HCgl := Lib.hid hcgl
  clear hcgl hn
  change lexH _ _ _ _ _ _ [(gl, Obj.cells curgl 5 (0, 0)), (g10, Obj.cells (hdA X) 29 (0, 0)), (w.heap.size, Obj.cells (hdA h) 29 (0, 0))]
  refine lexH_phase [4, 5, 6, 7] [8, 9, 10] ?_
  have hw17 : EnvX w2 _ [(gl, Obj.cells curgl 5 (0, 0)), (g10, Obj.cells (hdA X) 29 (0, 0)), (w.heap.size, Obj.cells (hdA h) 29 (0, 0))] := he16.choose_spec
  have hone := @EnvC.one _ _ _ hw17
  (refine wpG_call (f := 12) (args := #[.slice (some ⟨gl, 0, none⟩) (np + 1) capgl]) (v := .tuple #[hdV noHd, .bool false]) rfl rfl rfl Tryd.func12 rfl rfl (fun u hu => HRX.out (xs ++ [0]) _ (np + 1) capgl u HLL.out.1 (by have := HN1.out; omega) (by have := HN1.out; omega) HCgl.out.1 HCgl.out.2.1 HLL.out.2 (boxR_bytes hu (List.Mem.head _) HLL.out.1 HCgl.out) (HT2.out.below (EnvX.bel hu))) ?_ hw17; intro K hK; go_big_quiet_op; go_big_quiet_on)
  (refine wpG_op rfl rfl rfl ?_; intro K hK; go_big_quiet_op; go_big_quiet_on)
  (refine wpG_op rfl rfl rfl ?_; intro K hK; go_big_quiet_op; go_big_quiet_on)
  (refine wpG_op rfl rfl rfl ?_; intro K hK; go_big_quiet_op; go_big_quiet_on)
  clear hone hw17
  refine wpG_nil ?_
  refine (hOp_fresh (R := fun x N => ∃ g, x = .pointer (some ⟨g, 0, none⟩) ∧ N = [(g, Obj.cells (hdA noHd) 29 (0, 0))]) (M0 := [(gl, Obj.cells curgl 5 (0, 0)), (g10, Obj.cells (hdA X) 29 (0, 0)), (w.heap.size, Obj.cells (hdA h) 29 (0, 0))]) rfl rfl (fun _ h => h) (fun u hu => FAt_new (new_hd _) u) ?_)
  rintro _ _ ⟨g12, rfl, rfl⟩ hf he18; intro K' hK'; go_big_quiet_op; go_big_quiet_on
  have HG12 := Lib.hid (hf _ (List.mem_singleton.2 rfl))
  clear hf
  change lexH _ _ _ _ _ _ [(g12, Obj.cells (hdA noHd) 29 (0, 0)), (gl, Obj.cells curgl 5 (0, 0)), (g10, Obj.cells (hdA X) 29 (0, 0)), (w.heap.size, Obj.cells (hdA h) 29 (0, 0))]
  refine (hOp_store rfl (g12) (hdA noHd) rfl rfl HG12.out.1 29 ((hdA noHd)) (List.Mem.head _) (infoHd _ (hdA_size (show lenH noHd from ⟨rfl, rfl, rfl, rfl⟩))) ((hdA_size (show lenH noHd from ⟨rfl, rfl, rfl, rfl⟩)).trans (hdA_size (show lenH noHd from ⟨rfl, rfl, rfl, rfl⟩)).symm) (hdA_one _) [(g12, Obj.cells (hdA noHd) 29 (0, 0)), (gl, Obj.cells curgl 5 (0, 0)), (g10, Obj.cells (hdA X) 29 (0, 0)), (w.heap.size, Obj.cells (hdA h) 29 (0, 0))] (List.forall_mem_cons.2 ⟨.inl rfl, fun y hy => .inr ⟨List.mem_cons_of_mem _ hy, HG12.out.2 y hy⟩⟩) ?_)
  intro he19
  refine lexH_phase [10] [] ?_
  have hw20 : EnvX w2 _ [(g12, Obj.cells (hdA noHd) 29 (0, 0)), (gl, Obj.cells curgl 5 (0, 0)), (g10, Obj.cells (hdA X) 29 (0, 0)), (w.heap.size, Obj.cells (hdA h) 29 (0, 0))] := he19.choose_spec
  have hone := @EnvC.one _ _ _ hw20
  (refine wpG_op rfl rfl rfl ?_; intro K hK; go_big_quiet_op; go_big_quiet_on)
  clear hone hw20
  refine wpG_nil ?_
  intro u22 E2'
  have EX21 := Lib.hid E2'
  clear E2'
  by_cases d4 : q < 0
  · have D4 : Hid (decide (q < 0) = true) := decide_eq_true d4
    clear d4
    go_upto_region 9 with (fail)
    refine wp_region_Hx (w0 := w2) [0, 1, 2, 3, 4, 5, 6, 7, 8, 9, 10, 11] [(g12, Obj.cells (hdA noHd) 29 (0, 0)), (gl, Obj.cells curgl 5 (0, 0)), (g10, Obj.cells (hdA X) 29 (0, 0)), (w.heap.size, Obj.cells (hdA h) 29 (0, 0))] rfl EX21.out ?_
    refine lexH_phase [0, 1, 2, 3, 4, 5, 6, 7, 8, 9, 10, 11] [] ?_
    have hw23 : EnvX w2 _ [(g12, Obj.cells (hdA noHd) 29 (0, 0)), (gl, Obj.cells curgl 5 (0, 0)), (g10, Obj.cells (hdA X) 29 (0, 0)), (w.heap.size, Obj.cells (hdA h) 29 (0, 0))] := EX21.out
    have hone := @EnvC.one _ _ _ hw23
    (refine wpG_op rfl rfl rfl ?_; intro K hK; go_big_quiet_op; go_big_quiet_on)
    (refine wpG_op rfl rfl rfl ?_; intro K hK; go_big_quiet_op; go_big_quiet_on)
    (refine wpG_op rfl rfl rfl ?_; intro K hK; go_big_quiet_op; go_big_quiet_on)
    (refine wpG_op rfl rfl rfl ?_; intro K hK; go_big_quiet_op; go_big_quiet_on)
    (refine wpG_val (v := .bool true) rfl rfl (fun u hu => ltZ_op u D4.out rfl rfl) ?_ hw23; intro K hK; go_big_quiet_op; go_big_quiet_on)
    (refine wpG_op rfl rfl rfl ?_; intro K hK; go_big_quiet_op; go_big_quiet_on)
    (refine wpG_op rfl rfl rfl ?_; intro K hK; go_big_quiet_op; go_big_quiet_on)
    (refine wpG_skip rfl rfl ?_ hw23; intro K hK; go_big_quiet_op; go_big_quiet_on)
    (refine wpG_skip rfl rfl ?_ hw23; intro K hK; go_big_quiet_op; go_big_quiet_on)
    (refine wpG_skip rfl rfl ?_ hw23; intro K hK; go_big_quiet_op; go_big_quiet_on)
    (refine wpG_skip rfl rfl ?_ hw23; intro K hK; go_big_quiet_op; go_big_quiet_on)
    (refine wpG_op rfl rfl rfl ?_; intro K hK; go_big_quiet_op; go_big_quiet_on)
    clear hone hw23
    refine wpG_nil ?_
    intro u25 E2'
    have EX24 := Lib.hid E2'
    clear E2'
    have HBE := Lib.hid (HB2.out.trans ((EnvX.bel EX24.out).mono HB2.out.size))
    go_wp2
    go_ret
    exact ⟨rfl, HBE.out⟩
  have D4 : Hid (decide (q < 0) = false) := decide_eq_false d4
  by_cases d9 : (np : Int) ≤ q
  · have D9 : Hid (decide ((np : Int) ≤ q) = true) := decide_eq_true d9
    clear d4 d9
    go_upto_region 9 with (fail)
    refine wp_region_Hx (w0 := w2) [0, 1, 2, 3, 4, 5, 6, 7, 8, 9, 10, 11] [(g12, Obj.cells (hdA noHd) 29 (0, 0)), (gl, Obj.cells curgl 5 (0, 0)), (g10, Obj.cells (hdA X) 29 (0, 0)), (w.heap.size, Obj.cells (hdA h) 29 (0, 0))] rfl EX21.out ?_
    refine lexH_phase [0, 1, 2, 3, 4, 5, 6, 7, 8, 9, 10, 11] [] ?_
    have hw23 : EnvX w2 _ [(g12, Obj.cells (hdA noHd) 29 (0, 0)), (gl, Obj.cells curgl 5 (0, 0)), (g10, Obj.cells (hdA X) 29 (0, 0)), (w.heap.size, Obj.cells (hdA h) 29 (0, 0))] := EX21.out
    have hone := @EnvC.one _ _ _ hw23
    (refine wpG_op rfl rfl rfl ?_; intro K hK; go_big_quiet_op; go_big_quiet_on)
    (refine wpG_op rfl rfl rfl ?_; intro K hK; go_big_quiet_op; go_big_quiet_on)
    (refine wpG_op rfl rfl rfl ?_; intro K hK; go_big_quiet_op; go_big_quiet_on)
    (refine wpG_op rfl rfl rfl ?_; intro K hK; go_big_quiet_op; go_big_quiet_on)
    (refine wpG_val (v := .bool false) rfl rfl (fun u hu => ltZ_op u D4.out rfl rfl) ?_ hw23; intro K hK; go_big_quiet_op; go_big_quiet_on)
    (refine wpG_op rfl rfl rfl ?_; intro K hK; go_big_quiet_op; go_big_quiet_on)
    (refine wpG_op rfl rfl rfl ?_; intro K hK; go_big_quiet_op; go_big_quiet_on)
    (refine wpG_op rfl rfl rfl ?_; intro K hK; go_big_quiet_op; go_big_quiet_on)
    (refine wpG_op rfl rfl rfl ?_; intro K hK; go_big_quiet_op; go_big_quiet_on)
    (refine wpG_val (v := .int .i64 (np : Int)) rfl rfl (fun u hu => len_op Tryd.underlying30 HP63.out u rfl) ?_ hw23; intro K hK; go_big_quiet_op; go_big_quiet_on)
    (refine wpG_val (v := .bool true) rfl rfl (fun u hu => geZ_op u D9.out rfl rfl) ?_ hw23; intro K hK; go_big_quiet_op; go_big_quiet_on)
    (refine wpG_op rfl rfl rfl ?_; intro K hK; go_big_quiet_op; go_big_quiet_on)
    clear hone hw23
    refine wpG_nil ?_
    intro u25 E2'
    have EX24 := Lib.hid E2'
    clear E2'
    have HBE := Lib.hid (HB2.out.trans ((EnvX.bel EX24.out).mono HB2.out.size))
    go_wp2
    go_ret
    exact ⟨rfl, HBE.out⟩
  have D9 : Hid (decide ((np : Int) ≤ q) = false) := decide_eq_false d9
  obtain ⟨j, rfl⟩ := Int.eq_ofNat_of_zero_le (show 0 ≤ q by omega)
  have HJ : Hid (j < 176) := by show _ < _; have := HN1.out; omega
  have HJC : Hid (j ≤ cp) := by show _ ≤ _; have := HPC.out; omega
  have HJL : Hid ((xs.take j).length = j) := by show _ = _; rw [List.length_take, HNP.out]; omega
  clear d4 d9
  go_upto_region 9 with (fail)
  refine wp_region_Hx (w0 := w2) [0, 1, 2, 3, 4, 5, 6, 7, 8, 9, 10, 11] [(g12, Obj.cells (hdA noHd) 29 (0, 0)), (gl, Obj.cells curgl 5 (0, 0)), (g10, Obj.cells (hdA X) 29 (0, 0)), (w.heap.size, Obj.cells (hdA h) 29 (0, 0))] rfl EX21.out ?_
  refine lexH_phase [0, 1, 2, 3, 4, 5, 6, 7, 8, 9, 10, 11] [] ?_
  have hw23 : EnvX w2 _ [(g12, Obj.cells (hdA noHd) 29 (0, 0)), (gl, Obj.cells curgl 5 (0, 0)), (g10, Obj.cells (hdA X) 29 (0, 0)), (w.heap.size, Obj.cells (hdA h) 29 (0, 0))] := EX21.out
  have hone := @EnvC.one _ _ _ hw23
  (refine wpG_op rfl rfl rfl ?_; intro K hK; go_big_quiet_op; go_big_quiet_on)
  (refine wpG_op rfl rfl rfl ?_; intro K hK; go_big_quiet_op; go_big_quiet_on)
  (refine wpG_op rfl rfl rfl ?_; intro K hK; go_big_quiet_op; go_big_quiet_on)
  (refine wpG_op rfl rfl rfl ?_; intro K hK; go_big_quiet_op; go_big_quiet_on)
  (refine wpG_val (v := .bool false) rfl rfl (fun u hu => ltZ_op u D4.out rfl rfl) ?_ hw23; intro K hK; go_big_quiet_op; go_big_quiet_on)
  (refine wpG_op rfl rfl rfl ?_; intro K hK; go_big_quiet_op; go_big_quiet_on)
  (refine wpG_op rfl rfl rfl ?_; intro K hK; go_big_quiet_op; go_big_quiet_on)
  (refine wpG_op rfl rfl rfl ?_; intro K hK; go_big_quiet_op; go_big_quiet_on)
  (refine wpG_op rfl rfl rfl ?_; intro K hK; go_big_quiet_op; go_big_quiet_on)
  (refine wpG_val (v := .int .i64 (np : Int)) rfl rfl (fun u hu => len_op Tryd.underlying30 HP63.out u rfl) ?_ hw23; intro K hK; go_big_quiet_op; go_big_quiet_on)
  (refine wpG_val (v := .bool false) rfl rfl (fun u hu => geZ_op u D9.out rfl rfl) ?_ hw23; intro K hK; go_big_quiet_op; go_big_quiet_on)
  (refine wpG_op rfl rfl rfl ?_; intro K hK; go_big_quiet_op; go_big_quiet_on)
  clear hone hw23
  refine wpG_nil ?_
  intro u25 E2'
  have EX24 := Lib.hid E2'
  clear E2'
  go_upto_region 11 with (fail)
  refine wp_region_Hx (w0 := w2) [0, 1, 2, 3, 4, 5, 6, 7, 8, 9] [(g12, Obj.cells (hdA noHd) 29 (0, 0)), (gl, Obj.cells curgl 5 (0, 0)), (g10, Obj.cells (hdA X) 29 (0, 0)), (w.heap.size, Obj.cells (hdA h) 29 (0, 0))] rfl EX24.out ?_
  refine lexH_phase [0, 1, 2, 3, 4, 5, 6] [7, 8, 9] ?_
  have hw26 : EnvX w2 _ [(g12, Obj.cells (hdA noHd) 29 (0, 0)), (gl, Obj.cells curgl 5 (0, 0)), (g10, Obj.cells (hdA X) 29 (0, 0)), (w.heap.size, Obj.cells (hdA h) 29 (0, 0))] := EX24.out
  have hone := @EnvC.one _ _ _ hw26
  (refine wpG_op rfl rfl rfl ?_; intro K hK; go_big_quiet_op; go_big_quiet_on)
  (refine wpG_op rfl rfl rfl ?_; intro K hK; go_big_quiet_op; go_big_quiet_on)
  (refine wpG_val (v := .slice Ap j cp) rfl rfl (fun u hu => cutXh_op elB u HJC.out rfl rfl) ?_ hw26; intro K hK; go_big_quiet_op; go_big_quiet_on)
  (refine wpG_call (f := 12) (args := #[.slice Ap j cp]) (v := .tuple #[hdV noHd, .bool false]) rfl rfl rfl Tryd.func12 rfl rfl (fun u hu => HRX.out (xs.take j) _ j cp u HJL.out (by have := HJ.out; omega) (by have := HJ.out; omega) HJC.out HPC.out.2 (fun y hy => HNX.out.2 y (List.mem_of_mem_take hy)) ((HPB.out.up (EnvX.bel hu)).take j) (HT2.out.below (EnvX.bel hu))) ?_ hw26; intro K hK; go_big_quiet_op; go_big_quiet_on)
  (refine wpG_op rfl rfl rfl ?_; intro K hK; go_big_quiet_op; go_big_quiet_on)
  (refine wpG_op rfl rfl rfl ?_; intro K hK; go_big_quiet_op; go_big_quiet_on)
  (refine wpG_op rfl rfl rfl ?_; intro K hK; go_big_quiet_op; go_big_quiet_on)
  clear hone hw26
  refine wpG_nil ?_
  refine (hOp_fresh (R := fun x N => ∃ g, x = .pointer (some ⟨g, 0, none⟩) ∧ N = [(g, Obj.cells (hdA noHd) 29 (0, 0))]) (M0 := [(g12, Obj.cells (hdA noHd) 29 (0, 0)), (gl, Obj.cells curgl 5 (0, 0)), (g10, Obj.cells (hdA X) 29 (0, 0)), (w.heap.size, Obj.cells (hdA h) 29 (0, 0))]) rfl rfl (fun _ h => h) (fun u hu => FAt_new (new_hd _) u) ?_)
  rintro _ _ ⟨g14, rfl, rfl⟩ hf he27; intro K' hK'; go_big_quiet_op; go_big_quiet_on
  have HG14 := Lib.hid (hf _ (List.mem_singleton.2 rfl))
  clear hf
  change lexH _ _ _ _ _ _ [(g14, Obj.cells (hdA noHd) 29 (0, 0)), (g12, Obj.cells (hdA noHd) 29 (0, 0)), (gl, Obj.cells curgl 5 (0, 0)), (g10, Obj.cells (hdA X) 29 (0, 0)), (w.heap.size, Obj.cells (hdA h) 29 (0, 0))]
  refine (hOp_store rfl (g14) (hdA noHd) rfl rfl HG14.out.1 29 ((hdA noHd)) (List.Mem.head _) (infoHd _ (hdA_size (show lenH noHd from ⟨rfl, rfl, rfl, rfl⟩))) ((hdA_size (show lenH noHd from ⟨rfl, rfl, rfl, rfl⟩)).trans (hdA_size (show lenH noHd from ⟨rfl, rfl, rfl, rfl⟩)).symm) (hdA_one _) [(g14, Obj.cells (hdA noHd) 29 (0, 0)), (g12, Obj.cells (hdA noHd) 29 (0, 0)), (gl, Obj.cells curgl 5 (0, 0)), (g10, Obj.cells (hdA X) 29 (0, 0)), (w.heap.size, Obj.cells (hdA h) 29 (0, 0))] (List.forall_mem_cons.2 ⟨.inl rfl, fun y hy => .inr ⟨List.mem_cons_of_mem _ hy, HG14.out.2 y hy⟩⟩) ?_)
  intro he28
  refine lexH_phase [9] [] ?_
  have hw29 : EnvX w2 _ [(g14, Obj.cells (hdA noHd) 29 (0, 0)), (g12, Obj.cells (hdA noHd) 29 (0, 0)), (gl, Obj.cells curgl 5 (0, 0)), (g10, Obj.cells (hdA X) 29 (0, 0)), (w.heap.size, Obj.cells (hdA h) 29 (0, 0))] := he28.choose_spec
  have hone := @EnvC.one _ _ _ hw29
  (refine wpG_op rfl rfl rfl ?_; intro K hK; go_big_quiet_op; go_big_quiet_on)
  clear hone hw29
  refine wpG_nil ?_
  intro u31 E2'
  have EX30 := Lib.hid E2'
  clear E2'
  go_upto_region 12 with (fail)
  refine wp_region_Hx (w0 := w2) [0, 1, 2, 3, 4, 5, 6] [(g14, Obj.cells (hdA noHd) 29 (0, 0)), (g12, Obj.cells (hdA noHd) 29 (0, 0)), (gl, Obj.cells curgl 5 (0, 0)), (g10, Obj.cells (hdA X) 29 (0, 0)), (w.heap.size, Obj.cells (hdA h) 29 (0, 0))] rfl EX30.out ?_
  refine lexH_phase [0, 1, 2, 3, 4, 5, 6] [] ?_
  have hw32 : EnvX w2 _ [(g14, Obj.cells (hdA noHd) 29 (0, 0)), (g12, Obj.cells (hdA noHd) 29 (0, 0)), (gl, Obj.cells curgl 5 (0, 0)), (g10, Obj.cells (hdA X) 29 (0, 0)), (w.heap.size, Obj.cells (hdA h) 29 (0, 0))] := EX30.out
  have hone := @EnvC.one _ _ _ hw32
  (refine wpG_op rfl rfl rfl ?_; intro K hK; go_big_quiet_op; go_big_quiet_on)
  (refine wpG_op rfl rfl rfl ?_; intro K hK; go_big_quiet_op; go_big_quiet_on)
  (refine wpG_op rfl rfl rfl ?_; intro K hK; go_big_quiet_op; go_big_quiet_on)
  (refine wpG_op rfl rfl rfl ?_; intro K hK; go_big_quiet_op; go_big_quiet_on)
  (refine wpG_op rfl rfl rfl ?_; intro K hK; go_big_quiet_op; go_big_quiet_on)
  (refine wpG_op rfl rfl rfl ?_; intro K hK; go_big_quiet_op; go_big_quiet_on)
  (refine wpG_op rfl rfl rfl ?_; intro K hK; go_big_quiet_op; go_big_quiet_on)
  clear hone hw32
  refine wpG_nil ?_
  intro u34 E2'
  have EX33 := Lib.hid E2'
  clear E2'
  have HBE := Lib.hid (HB2.out.trans ((EnvX.bel EX33.out).mono HB2.out.size))
  go_wp2
  go_ret
  exact ⟨rfl, HBE.out⟩
set_option maxRecDepth 20000 in
set_option maxHeartbeats 8000000 in
theorem law_cutH_tt (H : HeadC) (h : Hd) (q : Int) (b : List Int) (A : Option Addr) (n c : Nat) (w : World) (hh : okHd h) (hq : I64 q) (hl : b.length = n) (hnc : n ≤ c) (hcm : c ≤ maxLen) (hB : isB b) (hx : Bytes w w.heap.size A b) (ht : Tables w) (k1 : mayPut h = true) (k2 : mayRead b = true) (h4 : ¬ 400 < n) :
    Calls Tryd.prog 8 #[hdV h, .int .i64 q, .slice A n c] w fun e w' => e = .returned (.bool true) ∧ Below w.heap.size w w' := by
  have HN63 : Hid (n < 9223372036854775808) := by show _ < _; omega
  have C5 : Hid (decide ((400 : Int) < (n : Int)) = false) := decide_eq_false (by omega)
  have HNX : Hid ((putH h).1.length = 176 ∧ isB (putH h).1) := by
    unfold putH
    rw [k1]
    exact ⟨body_len hh, body_byte hh⟩
  have HRD : Hid (∀ u, Below w.heap.size w u → Tables u → Calls Tryd.prog 12 #[.slice A n c] u fun e w' => e = .returned (.tuple #[hdV (readH b).1, .bool true]) ∧ Below u.heap.size u w') := fun u hb hu => by
    have h1 := H.read A n c b u hl (by omega) hnc hcm hB (hx.up hb) hu
    rwa [read_snd, k2] at h1
  have HRX : Hid (∀ (ys : List Int) (A : Option Addr) (m c : Nat) (u : World), ys.length = m → m ≤ 1000 → m ≠ 176 → m ≤ c → c ≤ maxLen → isB ys → Bytes u u.heap.size A ys → Tables u → Calls Tryd.prog 12 #[.slice A m c] u fun e w' => e = .returned (.tuple #[hdV noHd, .bool false]) ∧ Below u.heap.size u w') := fun ys A m c u h1 h2 h3 h4 h5 h6 h7 h8 => by
    have h9 := H.read A m c ys u h1 (by omega) h4 h5 h6 h7 h8
    rwa [read_len (by omega)] at h9
  have HXL : Hid (lenH (readH b).1) := (okHd_read hB).len
  have hmr : n = 176 ∧ 0 ≤ (readH b).1.height ∧ (readH b).1.height ≤ 1048576 := by
    have e : (readH b).1 = headOf b := by unfold readH; rw [if_pos k2]
    unfold mayRead at k2
    rw [decide_eq_true_eq] at k2
    rw [e]
    exact ⟨by rw [← hl]; exact k2.1, by show (0 : Int) ≤ ((getL (cutP b 0 4) : Nat) : Int); omega, by show ((getL (cutP b 0 4) : Nat) : Int) ≤ 1048576; omega⟩
  have C4 : Hid (decide ((n : Int) ≠ 176) = false) := decide_eq_false (by omega)
  have C8 : Hid (decide ((readH b).1.height < 0) = false) := decide_eq_false (by omega)
  have C13 : Hid (decide (1048576 < (readH b).1.height) = false) := decide_eq_false (by omega)
  clear hmr
  have HQQ := Lib.hid hq
  generalize (readH b).1 = X at *
  clear h4 hl hnc hcm hB hx k2 hq
  have HL := Lib.hid hh.len
  have HOK := Lib.hid hh
  have HP1 : Hid ((putH h).2 = true) := by show _ = _; unfold putH; rw [k1]; rfl
  have E0 : Hid (EnvX w (w.alloc (.cells (hdA h) 29)) [(w.heap.size, Obj.cells (hdA h) 29 (0, 0))]) := (EnvX.start w).new _
  have HAW := Lib.hid (hawake_any H (w.alloc (.cells (hdA h) 29)) (ht.below (EnvX.bel E0.out)))
  have HT := Lib.hid ht
  have HH := Lib.hid H
  clear ht H hh k1
  unfold hdV
  go_enter Tryd.func8, Tryd.ntmps8
  go_upto_region 1 with (fail)
  generalize (w.alloc (.cells (hdA h) 29)) = W at *
  go_wp2_with fail
  refine HAW.out.mono ?_
  rintro e w1 ⟨rfl, hb1⟩
  have HB1 := Lib.hid (EnvX.below E0.out hb1).bel
  have E1 : Hid (EnvX w1 w1 [(w.heap.size, Obj.cells (hdA h) 29 (0, 0))]) := ⟨Below.refl _ _, (EnvX.below E0.out hb1).box⟩
  have HT1 := Lib.hid (HT.out.below HB1.out)
  clear hb1 E0 HAW
  have HLD : Hid ((loadVar 29 ⟨w.heap.size, 0, none⟩).run Tryd.prog w1 = .ok (.agg (hdA h)) w1) := box_hd E1.out (List.Mem.head _) HL.out
  have HPT : Hid (Calls Tryd.prog 10 #[.agg (hdA h)] w1 fun e w' => (∃ v, e = .returned (.tuple #[v, .bool true]) ∧ OwnB w' w1.heap.size v (putH h).1) ∧ Below w1.heap.size w1 w') := by
    have h1 := HH.out.put h w1 HOK.out (HT1.out.below (EnvX.bel E1.out))
    rwa [HP1.out] at h1
  go_upto_region 2 with (fail)
  go_wp2_with ((with_reducible refine wpList_load_run (o := ⟨some 18, _, _, _, _, _⟩) ?_ 29 (.tmp 3) ?_ ⟨w.heap.size, 0, none⟩ ?_ HLD.out ?_); (rfl); (rfl); (rfl))
  refine HPT.out.mono ?_
  rintro e w2 ⟨⟨v2, rfl, hv⟩, hb⟩
  obtain ⟨Ap, cp, rfl⟩ := hv.form
  have HPB := Lib.hid hv.bytes.2
  have HPC := Lib.hid hv.cap
  have E2 : Hid (EnvX w2 w2 [(w.heap.size, Obj.cells (hdA h) 29 (0, 0))]) := ⟨Below.refl _ _, (EnvX.below E1.out hb).box⟩
  have HB2 := Lib.hid (HB1.out.trans ((EnvX.below E1.out hb).bel.mono HB1.out.size))
  have HT2 := Lib.hid (HT1.out.below (EnvX.below E1.out hb).bel)
  clear hv hb HLD HPT E1
  obtain ⟨np, hnp⟩ : ∃ np, (putH h).1.length = np := ⟨_, rfl⟩
  obtain ⟨xs, hxs⟩ : ∃ xs, (putH h).1 = xs := ⟨_, rfl⟩
  have HNP := Lib.hid hnp
  have HXS := Lib.hid hxs
  rw [hnp] at HPC ⊢
  rw [hxs] at HPB HNP
  clear hnp hxs
  rw [HXS.out, HNP.out] at HNX
  have HBW : Hid (∀ u, Below w2.heap.size w2 u → Below w.heap.size w u) := fun u hu => HB2.out.trans (hu.mono HB2.out.size)
  go_upto_region 3 with (fail)
  refine wp_region_Hx (w0 := w2) [0, 1, 2, 3, 4, 5, 6] [(w.heap.size, Obj.cells (hdA h) 29 (0, 0))] rfl E2.out ?_
  refine lexH_phase [0, 1, 2, 3, 4, 5, 6] [] ?_
  have hw1 : EnvX w2 _ [(w.heap.size, Obj.cells (hdA h) 29 (0, 0))] := E2.out
  have hone := @EnvC.one _ _ _ hw1
  (refine wpG_op rfl rfl rfl ?_; intro K hK; go_big_quiet_op; go_big_quiet_on)
  (refine wpG_op rfl rfl rfl ?_; intro K hK; go_big_quiet_op; go_big_quiet_on)
  (refine wpG_op rfl rfl rfl ?_; intro K hK; go_big_quiet_op; go_big_quiet_on)
  (refine wpG_op rfl rfl rfl ?_; intro K hK; go_big_quiet_op; go_big_quiet_on)
  (refine wpG_val (v := .int .i64 (n : Int)) rfl rfl (fun u hu => len_op Tryd.underlying30 HN63.out u rfl) ?_ hw1; intro K hK; go_big_quiet_op; go_big_quiet_on)
  (refine wpG_val (v := .bool false) rfl rfl (fun u hu => gtZ_op u C5.out rfl rfl) ?_ hw1; intro K hK; go_big_quiet_op; go_big_quiet_on)
  (refine wpG_op rfl rfl rfl ?_; intro K hK; go_big_quiet_op; go_big_quiet_on)
  clear hone hw1
  refine wpG_nil ?_
  intro u3 E2'
  have EX2 := Lib.hid E2'
  clear E2'
  go_upto_region 5 with (fail)
  refine wp_region_Hx (w0 := w2) [0, 1, 2, 3, 4, 5, 6, 7] [(w.heap.size, Obj.cells (hdA h) 29 (0, 0))] rfl EX2.out ?_
  refine lexH_phase [0, 1, 2, 3, 4] [5, 6, 7] ?_
  have hw4 : EnvX w2 _ [(w.heap.size, Obj.cells (hdA h) 29 (0, 0))] := EX2.out
  have hone := @EnvC.one _ _ _ hw4
  (refine wpG_op rfl rfl rfl ?_; intro K hK; go_big_quiet_op; go_big_quiet_on)
  (refine wpG_call (f := 12) (args := #[.slice A n c]) (v := .tuple #[hdV X, .bool true]) rfl rfl rfl Tryd.func12 rfl rfl (fun u hu => HRD.out u (HBW.out u (EnvX.bel hu)) (HT2.out.below (EnvX.bel hu))) ?_ hw4; intro K hK; go_big_quiet_op; go_big_quiet_on)
  (refine wpG_op rfl rfl rfl ?_; intro K hK; go_big_quiet_op; go_big_quiet_on)
  (refine wpG_op rfl rfl rfl ?_; intro K hK; go_big_quiet_op; go_big_quiet_on)
  (refine wpG_op rfl rfl rfl ?_; intro K hK; go_big_quiet_op; go_big_quiet_on)
  clear hone hw4
  refine wpG_nil ?_
  refine (hOp_fresh (R := fun x N => ∃ g, x = .pointer (some ⟨g, 0, none⟩) ∧ N = [(g, Obj.cells (hdA noHd) 29 (0, 0))]) (M0 := [(w.heap.size, Obj.cells (hdA h) 29 (0, 0))]) rfl rfl (fun _ h => h) (fun u hu => FAt_new (new_hd _) u) ?_)
  rintro _ _ ⟨g10, rfl, rfl⟩ hf he5; intro K' hK'; go_big_quiet_op; go_big_quiet_on
  have HG10 := Lib.hid (hf _ (List.mem_singleton.2 rfl))
  clear hf
  change lexH _ _ _ _ _ _ [(g10, Obj.cells (hdA noHd) 29 (0, 0)), (w.heap.size, Obj.cells (hdA h) 29 (0, 0))]
  refine (hOp_store rfl (g10) (hdA X) rfl rfl HG10.out.1 29 ((hdA noHd)) (List.Mem.head _) (infoHd _ (hdA_size HXL.out)) ((hdA_size (show lenH noHd from ⟨rfl, rfl, rfl, rfl⟩)).trans (hdA_size HXL.out).symm) (hdA_one _) [(g10, Obj.cells (hdA X) 29 (0, 0)), (w.heap.size, Obj.cells (hdA h) 29 (0, 0))] (List.forall_mem_cons.2 ⟨.inl rfl, fun y hy => .inr ⟨List.mem_cons_of_mem _ hy, HG10.out.2 y hy⟩⟩) ?_)
  intro he6
  refine lexH_phase [7] [] ?_
  have hw7 : EnvX w2 _ [(g10, Obj.cells (hdA X) 29 (0, 0)), (w.heap.size, Obj.cells (hdA h) 29 (0, 0))] := he6.choose_spec
  have hone := @EnvC.one _ _ _ hw7
  (refine wpG_op rfl rfl rfl ?_; intro K hK; go_big_quiet_op; go_big_quiet_on)
  clear hone hw7
  refine wpG_nil ?_
  intro u9 E2'
  have EX8 := Lib.hid E2'
  clear E2'
  go_upto_region 6 with (fail)
  refine wp_region_Hx (w0 := w2) [0, 1, 2, 3, 4, 5, 6, 7, 8, 9, 10, 11, 12, 13, 14, 15] [(g10, Obj.cells (hdA X) 29 (0, 0)), (w.heap.size, Obj.cells (hdA h) 29 (0, 0))] rfl EX8.out ?_
  refine lexH_phase [0, 1, 2, 3, 4, 5, 6, 7, 8, 9, 10, 11, 12, 13, 14, 15] [] ?_
  have hw10 : EnvX w2 _ [(g10, Obj.cells (hdA X) 29 (0, 0)), (w.heap.size, Obj.cells (hdA h) 29 (0, 0))] := EX8.out
  have hone := @EnvC.one _ _ _ hw10
  (refine wpG_op rfl rfl rfl ?_; intro K hK; go_big_quiet_op; go_big_quiet_on)
  (refine wpG_op rfl rfl rfl ?_; intro K hK; go_big_quiet_op; go_big_quiet_on)
  (refine wpG_op rfl rfl rfl ?_; intro K hK; go_big_quiet_op; go_big_quiet_on)
  (refine wpG_val (v := .int .i64 (n : Int)) rfl rfl (fun u hu => len_op Tryd.underlying30 HN63.out u rfl) ?_ hw10; intro K hK; go_big_quiet_op; go_big_quiet_on)
  (refine wpG_val (v := .bool false) rfl rfl (fun u hu => neZ_op u C4.out rfl rfl) ?_ hw10; intro K hK; go_big_quiet_op; go_big_quiet_on)
  (refine wpG_op rfl rfl rfl ?_; intro K hK; go_big_quiet_op; go_big_quiet_on)
  (refine wpG_op rfl rfl rfl ?_; intro K hK; go_big_quiet_op; go_big_quiet_on)
  (refine wpG_val (v := .int .i64 X.height) rfl rfl (fun u hu => load_any_op u (box_hd_height hu (List.Mem.head _)) rfl) ?_ hw10; intro K hK; go_big_quiet_op; go_big_quiet_on)
  (refine wpG_val (v := .bool false) rfl rfl (fun u hu => ltZ_op u C8.out rfl rfl) ?_ hw10; intro K hK; go_big_quiet_op; go_big_quiet_on)
  (refine wpG_op rfl rfl rfl ?_; intro K hK; go_big_quiet_op; go_big_quiet_on)
  (refine wpG_op rfl rfl rfl ?_; intro K hK; go_big_quiet_op; go_big_quiet_on)
  (refine wpG_op rfl rfl rfl ?_; intro K hK; go_big_quiet_op; go_big_quiet_on)
  (refine wpG_val (v := .int .i64 X.height) rfl rfl (fun u hu => load_any_op u (box_hd_height hu (List.Mem.head _)) rfl) ?_ hw10; intro K hK; go_big_quiet_op; go_big_quiet_on)
  (refine wpG_val (v := .bool false) rfl rfl (fun u hu => gtZ_op u C13.out rfl rfl) ?_ hw10; intro K hK; go_big_quiet_op; go_big_quiet_on)
  (refine wpG_op rfl rfl rfl ?_; intro K hK; go_big_quiet_op; go_big_quiet_on)
  (refine wpG_op rfl rfl rfl ?_; intro K hK; go_big_quiet_op; go_big_quiet_on)
  clear hone hw10
  refine wpG_nil ?_
  intro u12 E2'
  have EX11 := Lib.hid E2'
  clear E2'
  go_upto_region 8 with (fail)
  have HLX : Hid ((xs.map u8v).length = np * 1) := by show _ = _; rw [List.length_map, HNP.out, Nat.mul_one]
  have HLL : Hid ((xs ++ [0]).length = np + 1 ∧ isB (xs ++ [0])) := ⟨by rw [List.length_append, HNP.out]; rfl, by rw [isB_append]; exact ⟨HNX.out.2, fun y hy => by cases List.mem_singleton.1 hy; decide⟩⟩
  have HN1 := Lib.hid HNX.out.1
  have HP63 : Hid (np < 9223372036854775808) := by show _ < _; have := HN1.out; omega
  refine wp_region_Hx (w0 := w2) [0, 1, 2, 3, 4, 5, 6, 7, 8, 9, 10] [(g10, Obj.cells (hdA X) 29 (0, 0)), (w.heap.size, Obj.cells (hdA h) 29 (0, 0))] rfl EX11.out ?_
  refine lexH_phase [0] [1, 2, 3, 4, 5, 6, 7, 8, 9, 10] ?_
  have hw13 : EnvX w2 _ [(g10, Obj.cells (hdA X) 29 (0, 0)), (w.heap.size, Obj.cells (hdA h) 29 (0, 0))] := EX11.out
  have hone := @EnvC.one _ _ _ hw13
  (refine wpG_op rfl rfl rfl ?_; intro K hK; go_big_quiet_op; go_big_quiet_on)
  clear hone hw13
  refine wpG_nil ?_
  refine (hOp_fresh (R := FreshR 5 1 np (xs.map u8v)) (M0 := [(g10, Obj.cells (hdA X) 29 (0, 0)), (w.heap.size, Obj.cells (hdA h) 29 (0, 0))]) rfl rfl (fun _ h => h) (fun u hu => FAt_appC elB HLX.out u8_one (bytes_cells (HPB.out.up (EnvX.bel hu))) (by have := HN1.out; omega) rfl) ?_)
  rintro x1 N1 hF1 hf he14; intro K' hK'; go_big_quiet_op; go_big_quiet_on
  have HF1 := Lib.hid (And.intro hF1 hf)
  clear hF1
  clear hf
  change lexH _ _ _ _ _ _ (N1 ++ ((g10, Obj.cells (hdA X) 29 (0, 0)) :: ((w.heap.size, Obj.cells (hdA h) 29 (0, 0)) :: [])))
  refine (hOp_fresh (R := fun v N => ∃ g, v = .slice (some ⟨g, 0, none⟩) 1 1 ∧ N = [(g, Obj.cells #[.int .u8 0] 5 (0, 0))]) (M0 := (N1 ++ ((g10, Obj.cells (hdA X) 29 (0, 0)) :: ((w.heap.size, Obj.cells (hdA h) 29 (0, 0)) :: [])))) rfl rfl (fun _ h => h) (fun u hu => FAt_byte1 0 u) ?_)
  rintro _ _ ⟨g5, rfl, rfl⟩ hf he15; intro K' hK'; go_big_quiet_op; go_big_quiet_on
  have HG5 := Lib.hid (hf _ (List.mem_singleton.2 rfl))
  clear hf
  change lexH _ _ _ _ _ _ ((g5, Obj.cells #[.int .u8 0] 5 (0, 0)) :: (N1 ++ ((g10, Obj.cells (hdA X) 29 (0, 0)) :: ((w.heap.size, Obj.cells (hdA h) 29 (0, 0)) :: []))))
  refine (hOp_own (gd := none) (R := GrownR w2 5 1 (np + 1) (xs.map u8v ++ [.int .u8 0]) [(g10, Obj.cells (hdA X) 29 (0, 0)), (w.heap.size, Obj.cells (hdA h) 29 (0, 0))]) rfl rfl rfl rfl (fun u hu => appX_op elB [(g10, Obj.cells (hdA X) 29 (0, 0)), (w.heap.size, Obj.cells (hdA h) 29 (0, 0))] hu (n := np) (m := 1) HLX.out rfl u8_one0 HF1.out.1 (fun y hy => ⟨List.mem_cons_of_mem _ (List.mem_append_left _ hy), (HF1.out.2 y hy).1⟩) (src_box hu (List.Mem.head _) rfl) (fun z hz => ⟨List.mem_cons_of_mem _ (List.mem_append_right _ hz), fun y hy => (HF1.out.2 y hy).2 z hz⟩) (by have := HN1.out; omega) rfl rfl) ?_)
  rintro x M' ⟨N, rfl, hF, hn⟩ he16; intro K' hK'; go_big_quiet_op; go_big_quiet_on
  obtain ⟨gl, capgl, curgl, rfl, rfl, hcgl⟩ | ⟨_, _, h0, _⟩ := hF
  case inr => omega
  rw [show xs.map u8v ++ [.int .u8 0] = (xs ++ [0]).map u8v by rw [List.map_append]; rfl] at hcgl
  have HCgl := Lib.hid hcgl
  clear hcgl hn
  change lexH _ _ _ _ _ _ [(gl, Obj.cells curgl 5 (0, 0)), (g10, Obj.cells (hdA X) 29 (0, 0)), (w.heap.size, Obj.cells (hdA h) 29 (0, 0))]
  refine lexH_phase [4, 5, 6, 7] [8, 9, 10] ?_
  have hw17 : EnvX w2 _ [(gl, Obj.cells curgl 5 (0, 0)), (g10, Obj.cells (hdA X) 29 (0, 0)), (w.heap.size, Obj.cells (hdA h) 29 (0, 0))] := he16.choose_spec
  have hone := @EnvC.one _ _ _ hw17
  (refine wpG_call (f := 12) (args := #[.slice (some ⟨gl, 0, none⟩) (np + 1) capgl]) (v := .tuple #[hdV noHd, .bool false]) rfl rfl rfl Tryd.func12 rfl rfl (fun u hu => HRX.out (xs ++ [0]) _ (np + 1) capgl u HLL.out.1 (by have := HN1.out; omega) (by have := HN1.out; omega) HCgl.out.1 HCgl.out.2.1 HLL.out.2 (boxR_bytes hu (List.Mem.head _) HLL.out.1 HCgl.out) (HT2.out.below (EnvX.bel hu))) ?_ hw17; intro K hK; go_big_quiet_op; go_big_quiet_on)
  (refine wpG_op rfl rfl rfl ?_; intro K hK; go_big_quiet_op; go_big_quiet_on)
  (refine wpG_op rfl rfl rfl ?_; intro K hK; go_big_quiet_op; go_big_quiet_on)
  (refine wpG_op rfl rfl rfl ?_; intro K hK; go_big_quiet_op; go_big_quiet_on)
  clear hone hw17
  refine wpG_nil ?_
  refine (hOp_fresh (R := fun x N => ∃ g, x = .pointer (some ⟨g, 0, none⟩) ∧ N = [(g, Obj.cells (hdA noHd) 29 (0, 0))]) (M0 := [(gl, Obj.cells curgl 5 (0, 0)), (g10, Obj.cells (hdA X) 29 (0, 0)), (w.heap.size, Obj.cells (hdA h) 29 (0, 0))]) rfl rfl (fun _ h => h) (fun u hu => FAt_new (new_hd _) u) ?_)
  rintro _ _ ⟨g12, rfl, rfl⟩ hf he18; intro K' hK'; go_big_quiet_op; go_big_quiet_on
  have HG12 := Lib.hid (hf _ (List.mem_singleton.2 rfl))
  clear hf
  change lexH _ _ _ _ _ _ [(g12, Obj.cells (hdA noHd) 29 (0, 0)), (gl, Obj.cells curgl 5 (0, 0)), (g10, Obj.cells (hdA X) 29 (0, 0)), (w.heap.size, Obj.cells (hdA h) 29 (0, 0))]
  refine (hOp_store rfl (g12) (hdA noHd) rfl rfl HG12.out.1 29 ((hdA noHd)) (List.Mem.head _) (infoHd _ (hdA_size (show lenH noHd from ⟨rfl, rfl, rfl, rfl⟩))) ((hdA_size (show lenH noHd from ⟨rfl, rfl, rfl, rfl⟩)).trans (hdA_size (show lenH noHd from ⟨rfl, rfl, rfl, rfl⟩)).symm) (hdA_one _) [(g12, Obj.cells (hdA noHd) 29 (0, 0)), (gl, Obj.cells curgl 5 (0, 0)), (g10, Obj.cells (hdA X) 29 (0, 0)), (w.heap.size, Obj.cells (hdA h) 29 (0, 0))] (List.forall_mem_cons.2 ⟨.inl rfl, fun y hy => .inr ⟨List.mem_cons_of_mem _ hy, HG12.out.2 y hy⟩⟩) ?_)
  intro he19
  refine lexH_phase [10] [] ?_
  have hw20 : EnvX w2 _ [(g12, Obj.cells (hdA noHd) 29 (0, 0)), (gl, Obj.cells curgl 5 (0, 0)), (g10, Obj.cells (hdA X) 29 (0, 0)), (w.heap.size, Obj.cells (hdA h) 29 (0, 0))] := he19.choose_spec
  have hone := @EnvC.one _ _ _ hw20
  (refine wpG_op rfl rfl rfl ?_; intro K hK; go_big_quiet_op; go_big_quiet_on)
  clear hone hw20
  refine wpG_nil ?_
  intro u22 E2'
  have EX21 := Lib.hid E2'
  clear E2'
  by_cases d4 : q < 0
  · have D4 : Hid (decide (q < 0) = true) := decide_eq_true d4
    clear d4
    go_upto_region 9 with (fail)
    refine wp_region_Hx (w0 := w2) [0, 1, 2, 3, 4, 5, 6, 7, 8, 9, 10, 11] [(g12, Obj.cells (hdA noHd) 29 (0, 0)), (gl, Obj.cells curgl 5 (0, 0)), (g10, Obj.cells (hdA X) 29 (0, 0)), (w.heap.size, Obj.cells (hdA h) 29 (0, 0))] rfl EX21.out ?_
    refine lexH_phase [0, 1, 2, 3, 4, 5, 6, 7, 8, 9, 10, 11] [] ?_
    have hw23 : EnvX w2 _ [(g12, Obj.cells (hdA noHd) 29 (0, 0)), (gl, Obj.cells curgl 5 (0, 0)), (g10, Obj.cells (hdA X) 29 (0, 0)), (w.heap.size, Obj.cells (hdA h) 29 (0, 0))] := EX21.out
    have hone := @EnvC.one _ _ _ hw23
    (refine wpG_op rfl rfl rfl ?_; intro K hK; go_big_quiet_op; go_big_quiet_on)
    (refine wpG_op rfl rfl rfl ?_; intro K hK; go_big_quiet_op; go_big_quiet_on)
    (refine wpG_op rfl rfl rfl ?_; intro K hK; go_big_quiet_op; go_big_quiet_on)
    (refine wpG_op rfl rfl rfl ?_; intro K hK; go_big_quiet_op; go_big_quiet_on)
    (refine wpG_val (v := .bool true) rfl rfl (fun u hu => ltZ_op u D4.out rfl rfl) ?_ hw23; intro K hK; go_big_quiet_op; go_big_quiet_on)
    (refine wpG_op rfl rfl rfl ?_; intro K hK; go_big_quiet_op; go_big_quiet_on)
    (refine wpG_op rfl rfl rfl ?_; intro K hK; go_big_quiet_op; go_big_quiet_on)
    (refine wpG_skip rfl rfl ?_ hw23; intro K hK; go_big_quiet_op; go_big_quiet_on)
    (refine wpG_skip rfl rfl ?_ hw23; intro K hK; go_big_quiet_op; go_big_quiet_on)
    (refine wpG_skip rfl rfl ?_ hw23; intro K hK; go_big_quiet_op; go_big_quiet_on)
    (refine wpG_skip rfl rfl ?_ hw23; intro K hK; go_big_quiet_op; go_big_quiet_on)
    (refine wpG_op rfl rfl rfl ?_; intro K hK; go_big_quiet_op; go_big_quiet_on)
    clear hone hw23
    refine wpG_nil ?_
    intro u25 E2'
    have EX24 := Lib.hid E2'
    clear E2'
    have HBE := Lib.hid (HB2.out.trans ((EnvX.bel EX24.out).mono HB2.out.size))
    go_wp2
    go_ret
    exact ⟨rfl, HBE.out⟩
  have D4 : Hid (decide (q < 0) = false) := decide_eq_false d4
  by_cases d9 : (np : Int) ≤ q
  · have D9 : Hid (decide ((np : Int) ≤ q) = true) := decide_eq_true d9
    clear d4 d9
    go_upto_region 9 with (fail)
    refine wp_region_Hx (w0 := w2) [0, 1, 2, 3, 4, 5, 6, 7, 8, 9, 10, 11] [(g12, Obj.cells (hdA noHd) 29 (0, 0)), (gl, Obj.cells curgl 5 (0, 0)), (g10, Obj.cells (hdA X) 29 (0, 0)), (w.heap.size, Obj.cells (hdA h) 29 (0, 0))] rfl EX21.out ?_
    refine lexH_phase [0, 1, 2, 3, 4, 5, 6, 7, 8, 9, 10, 11] [] ?_
    have hw23 : EnvX w2 _ [(g12, Obj.cells (hdA noHd) 29 (0, 0)), (gl, Obj.cells curgl 5 (0, 0)), (g10, Obj.cells (hdA X) 29 (0, 0)), (w.heap.size, Obj.cells (hdA h) 29 (0, 0))] := EX21.out
    have hone := @EnvC.one _ _ _ hw23
    (refine wpG_op rfl rfl rfl ?_; intro K hK; go_big_quiet_op; go_big_quiet_on)
    (refine wpG_op rfl rfl rfl ?_; intro K hK; go_big_quiet_op; go_big_quiet_on)
    (refine wpG_op rfl rfl rfl ?_; intro K hK; go_big_quiet_op; go_big_quiet_on)
    (refine wpG_op rfl rfl rfl ?_; intro K hK; go_big_quiet_op; go_big_quiet_on)
    (refine wpG_val (v := .bool false) rfl rfl (fun u hu => ltZ_op u D4.out rfl rfl) ?_ hw23; intro K hK; go_big_quiet_op; go_big_quiet_on)
    (refine wpG_op rfl rfl rfl ?_; intro K hK; go_big_quiet_op; go_big_quiet_on)
    (refine wpG_op rfl rfl rfl ?_; intro K hK; go_big_quiet_op; go_big_quiet_on)
    (refine wpG_op rfl rfl rfl ?_; intro K hK; go_big_quiet_op; go_big_quiet_on)
    (refine wpG_op rfl rfl rfl ?_; intro K hK; go_big_quiet_op; go_big_quiet_on)
    (refine wpG_val (v := .int .i64 (np : Int)) rfl rfl (fun u hu => len_op Tryd.underlying30 HP63.out u rfl) ?_ hw23; intro K hK; go_big_quiet_op; go_big_quiet_on)
    (refine wpG_val (v := .bool true) rfl rfl (fun u hu => geZ_op u D9.out rfl rfl) ?_ hw23; intro K hK; go_big_quiet_op; go_big_quiet_on)
    (refine wpG_op rfl rfl rfl ?_; intro K hK; go_big_quiet_op; go_big_quiet_on)
    clear hone hw23
    refine wpG_nil ?_
    intro u25 E2'
    have EX24 := Lib.hid E2'
    clear E2'
    have HBE := Lib.hid (HB2.out.trans ((EnvX.bel EX24.out).mono HB2.out.size))
    go_wp2
    go_ret
    exact ⟨rfl, HBE.out⟩
  have D9 : Hid (decide ((np : Int) ≤ q) = false) := decide_eq_false d9
  obtain ⟨j, rfl⟩ := Int.eq_ofNat_of_zero_le (show 0 ≤ q by omega)
  have HJ : Hid (j < 176) := by show _ < _; have := HN1.out; omega
  have HJC : Hid (j ≤ cp) := by show _ ≤ _; have := HPC.out; omega
  have HJL : Hid ((xs.take j).length = j) := by show _ = _; rw [List.length_take, HNP.out]; omega
  clear d4 d9
  go_upto_region 9 with (fail)
  refine wp_region_Hx (w0 := w2) [0, 1, 2, 3, 4, 5, 6, 7, 8, 9, 10, 11] [(g12, Obj.cells (hdA noHd) 29 (0, 0)), (gl, Obj.cells curgl 5 (0, 0)), (g10, Obj.cells (hdA X) 29 (0, 0)), (w.heap.size, Obj.cells (hdA h) 29 (0, 0))] rfl EX21.out ?_
  refine lexH_phase [0, 1, 2, 3, 4, 5, 6, 7, 8, 9, 10, 11] [] ?_
  have hw23 : EnvX w2 _ [(g12, Obj.cells (hdA noHd) 29 (0, 0)), (gl, Obj.cells curgl 5 (0, 0)), (g10, Obj.cells (hdA X) 29 (0, 0)), (w.heap.size, Obj.cells (hdA h) 29 (0, 0))] := EX21.out
  have hone := @EnvC.one _ _ _ hw23
  (refine wpG_op rfl rfl rfl ?_; intro K hK; go_big_quiet_op; go_big_quiet_on)
  (refine wpG_op rfl rfl rfl ?_; intro K hK; go_big_quiet_op; go_big_quiet_on)
  (refine wpG_op rfl rfl rfl ?_; intro K hK; go_big_quiet_op; go_big_quiet_on)
  (refine wpG_op rfl rfl rfl ?_; intro K hK; go_big_quiet_op; go_big_quiet_on)
  (refine wpG_val (v := .bool false) rfl rfl (fun u hu => ltZ_op u D4.out rfl rfl) ?_ hw23; intro K hK; go_big_quiet_op; go_big_quiet_on)
  (refine wpG_op rfl rfl rfl ?_; intro K hK; go_big_quiet_op; go_big_quiet_on)
  (refine wpG_op rfl rfl rfl ?_; intro K hK; go_big_quiet_op; go_big_quiet_on)
  (refine wpG_op rfl rfl rfl ?_; intro K hK; go_big_quiet_op; go_big_quiet_on)
  (refine wpG_op rfl rfl rfl ?_; intro K hK; go_big_quiet_op; go_big_quiet_on)
  (refine wpG_val (v := .int .i64 (np : Int)) rfl rfl (fun u hu => len_op Tryd.underlying30 HP63.out u rfl) ?_ hw23; intro K hK; go_big_quiet_op; go_big_quiet_on)
  (refine wpG_val (v := .bool false) rfl rfl (fun u hu => geZ_op u D9.out rfl rfl) ?_ hw23; intro K hK; go_big_quiet_op; go_big_quiet_on)
  (refine wpG_op rfl rfl rfl ?_; intro K hK; go_big_quiet_op; go_big_quiet_on)
  clear hone hw23
  refine wpG_nil ?_
  intro u25 E2'
  have EX24 := Lib.hid E2'
  clear E2'
  go_upto_region 11 with (fail)
  refine wp_region_Hx (w0 := w2) [0, 1, 2, 3, 4, 5, 6, 7, 8, 9] [(g12, Obj.cells (hdA noHd) 29 (0, 0)), (gl, Obj.cells curgl 5 (0, 0)), (g10, Obj.cells (hdA X) 29 (0, 0)), (w.heap.size, Obj.cells (hdA h) 29 (0, 0))] rfl EX24.out ?_
  refine lexH_phase [0, 1, 2, 3, 4, 5, 6] [7, 8, 9] ?_
  have hw26 : EnvX w2 _ [(g12, Obj.cells (hdA noHd) 29 (0, 0)), (gl, Obj.cells curgl 5 (0, 0)), (g10, Obj.cells (hdA X) 29 (0, 0)), (w.heap.size, Obj.cells (hdA h) 29 (0, 0))] := EX24.out
  have hone := @EnvC.one _ _ _ hw26
  (refine wpG_op rfl rfl rfl ?_; intro K hK; go_big_quiet_op; go_big_quiet_on)
  (refine wpG_op rfl rfl rfl ?_; intro K hK; go_big_quiet_op; go_big_quiet_on)
  (refine wpG_val (v := .slice Ap j cp) rfl rfl (fun u hu => cutXh_op elB u HJC.out rfl rfl) ?_ hw26; intro K hK; go_big_quiet_op; go_big_quiet_on)
  (refine wpG_call (f := 12) (args := #[.slice Ap j cp]) (v := .tuple #[hdV noHd, .bool false]) rfl rfl rfl Tryd.func12 rfl rfl (fun u hu => HRX.out (xs.take j) _ j cp u HJL.out (by have := HJ.out; omega) (by have := HJ.out; omega) HJC.out HPC.out.2 (fun y hy => HNX.out.2 y (List.mem_of_mem_take hy)) ((HPB.out.up (EnvX.bel hu)).take j) (HT2.out.below (EnvX.bel hu))) ?_ hw26; intro K hK; go_big_quiet_op; go_big_quiet_on)
  (refine wpG_op rfl rfl rfl ?_; intro K hK; go_big_quiet_op; go_big_quiet_on)
  (refine wpG_op rfl rfl rfl ?_; intro K hK; go_big_quiet_op; go_big_quiet_on)
  (refine wpG_op rfl rfl rfl ?_; intro K hK; go_big_quiet_op; go_big_quiet_on)
  clear hone hw26
  refine wpG_nil ?_
  refine (hOp_fresh (R := fun x N => ∃ g, x = .pointer (some ⟨g, 0, none⟩) ∧ N = [(g, Obj.cells (hdA noHd) 29 (0, 0))]) (M0 := [(g12, Obj.cells (hdA noHd) 29 (0, 0)), (gl, Obj.cells curgl 5 (0, 0)), (g10, Obj.cells (hdA X) 29 (0, 0)), (w.heap.size, Obj.cells (hdA h) 29 (0, 0))]) rfl rfl (fun _ h => h) (fun u hu => FAt_new (new_hd _) u) ?_)
  rintro _ _ ⟨g14, rfl, rfl⟩ hf he27; intro K' hK'; go_big_quiet_op; go_big_quiet_on
  have HG14 := Lib.hid (hf _ (List.mem_singleton.2 rfl))
  clear hf
  change lexH _ _ _ _ _ _ [(g14, Obj.cells (hdA noHd) 29 (0, 0)), (g12, Obj.cells (hdA noHd) 29 (0, 0)), (gl, Obj.cells curgl 5 (0, 0)), (g10, Obj.cells (hdA X) 29 (0, 0)), (w.heap.size, Obj.cells (hdA h) 29 (0, 0))]
  refine (hOp_store rfl (g14) (hdA noHd) rfl rfl HG14.out.1 29 ((hdA noHd)) (List.Mem.head _) (infoHd _ (hdA_size (show lenH noHd from ⟨rfl, rfl, rfl, rfl⟩))) ((hdA_size (show lenH noHd from ⟨rfl, rfl, rfl, rfl⟩)).trans (hdA_size (show lenH noHd from ⟨rfl, rfl, rfl, rfl⟩)).symm) (hdA_one _) [(g14, Obj.cells (hdA noHd) 29 (0, 0)), (g12, Obj.cells (hdA noHd) 29 (0, 0)), (gl, Obj.cells curgl 5 (0, 0)), (g10, Obj.cells (hdA X) 29 (0, 0)), (w.heap.size, Obj.cells (hdA h) 29 (0, 0))] (List.forall_mem_cons.2 ⟨.inl rfl, fun y hy => .inr ⟨List.mem_cons_of_mem _ hy, HG14.out.2 y hy⟩⟩) ?_)
  intro he28
  refine lexH_phase [9] [] ?_
  have hw29 : EnvX w2 _ [(g14, Obj.cells (hdA noHd) 29 (0, 0)), (g12, Obj.cells (hdA noHd) 29 (0, 0)), (gl, Obj.cells curgl 5 (0, 0)), (g10, Obj.cells (hdA X) 29 (0, 0)), (w.heap.size, Obj.cells (hdA h) 29 (0, 0))] := he28.choose_spec
  have hone := @EnvC.one _ _ _ hw29
  (refine wpG_op rfl rfl rfl ?_; intro K hK; go_big_quiet_op; go_big_quiet_on)
  clear hone hw29
  refine wpG_nil ?_
  intro u31 E2'
  have EX30 := Lib.hid E2'
  clear E2'
  go_upto_region 12 with (fail)
  refine wp_region_Hx (w0 := w2) [0, 1, 2, 3, 4, 5, 6] [(g14, Obj.cells (hdA noHd) 29 (0, 0)), (g12, Obj.cells (hdA noHd) 29 (0, 0)), (gl, Obj.cells curgl 5 (0, 0)), (g10, Obj.cells (hdA X) 29 (0, 0)), (w.heap.size, Obj.cells (hdA h) 29 (0, 0))] rfl EX30.out ?_
  refine lexH_phase [0, 1, 2, 3, 4, 5, 6] [] ?_
  have hw32 : EnvX w2 _ [(g14, Obj.cells (hdA noHd) 29 (0, 0)), (g12, Obj.cells (hdA noHd) 29 (0, 0)), (gl, Obj.cells curgl 5 (0, 0)), (g10, Obj.cells (hdA X) 29 (0, 0)), (w.heap.size, Obj.cells (hdA h) 29 (0, 0))] := EX30.out
  have hone := @EnvC.one _ _ _ hw32
  (refine wpG_op rfl rfl rfl ?_; intro K hK; go_big_quiet_op; go_big_quiet_on)
  (refine wpG_op rfl rfl rfl ?_; intro K hK; go_big_quiet_op; go_big_quiet_on)
  (refine wpG_op rfl rfl rfl ?_; intro K hK; go_big_quiet_op; go_big_quiet_on)
  (refine wpG_op rfl rfl rfl ?_; intro K hK; go_big_quiet_op; go_big_quiet_on)
  (refine wpG_op rfl rfl rfl ?_; intro K hK; go_big_quiet_op; go_big_quiet_on)
  (refine wpG_op rfl rfl rfl ?_; intro K hK; go_big_quiet_op; go_big_quiet_on)
  (refine wpG_op rfl rfl rfl ?_; intro K hK; go_big_quiet_op; go_big_quiet_on)
  clear hone hw32
  refine wpG_nil ?_
  intro u34 E2'
  have EX33 := Lib.hid E2'
  clear E2'
  have HBE := Lib.hid (HB2.out.trans ((EnvX.bel EX33.out).mono HB2.out.size))
  go_wp2
  go_ret
  exact ⟨rfl, HBE.out⟩
theorem law_cutH (H : HeadC) (h : Hd) (q : Int) (b : List Int) (A : Option Addr) (n c : Nat) (w : World) (hh : okHd h) (hq : I64 q) (hl : b.length = n) (hnc : n ≤ c) (hcm : c ≤ maxLen) (hB : isB b) (hx : Bytes w w.heap.size A b) (ht : Tables w) :
    Calls Tryd.prog 8 #[hdV h, .int .i64 q, .slice A n c] w fun e w' => e = .returned (.bool true) ∧ Below w.heap.size w w' := by
  by_cases h4 : 400 < n
  · exact law_cutH_many H h q b A n c w hh hq hl hnc hcm hB hx ht _ rfl h4
  · cases k1 : mayPut h with
    | false =>
      cases k2 : mayRead b with
      | false => exact law_cutH_ff H h q b A n c w hh hq hl hnc hcm hB hx ht k1 k2 h4
      | true => exact law_cutH_ft H h q b A n c w hh hq hl hnc hcm hB hx ht k1 k2 h4
    | true =>
      cases k2 : mayRead b with
      | false => exact law_cutH_tf H h q b A n c w hh hq hl hnc hcm hB hx ht k1 k2 h4
      | true => exact law_cutH_tt H h q b A n c w hh hq hl hnc hcm hB hx ht k1 k2 h4
end Go.Proofs.YtmpjgfecnnefeaaDoor

namespace Go.Proofs.YtmpjgfecnnefeaaDoor.headCut
set_option maxRecDepth 8000
open Go.ChangeShapes Go.WideShapes Go.ChangeAt Go.RowKit

theorem contract (H : Type) (enc : TypeId × Value → H) (W : World) (base : Nat) (args : Array Value) (ds gs : List (DataW H)) (before : List MemPlace)
    (hval : ∀ (j : Nat) t v, Tryd.f8.params[j]? = some t → args[j]? = some v → Value.okWide Tryd.prog W .any base t v)
    (hW : DataW.Whole enc Tryd.prog Tryd.f8.params.toList Rows.headCutSpec.vars false W args.toList ds gs before) (hL : laidMetH Tryd.prog Rows.headCutRow.laid W) :
    Calls Tryd.prog 8 args W fun e W' => ∃ v, e = .returned v ∧ Rows.headCutSpec.post enc Tryd.prog Tryd.f8 false true false false W args v W' := by
  have hW' := hW
  obtain ⟨p, q, hA0, hV, rfl, hfz, hnd⟩ := hW
  have hA : DataW.TrodAll enc Tryd.prog W 0 (fun _ => true) true Tryd.f8.params.toList args.toList ds p := hA0
  rw [Tryd.params8] at hA hval
  obtain ⟨v0, vs0, d0, ds0, p0, q0, hargs, rfl, rfl, h0, r0⟩ := trodAll_cons hA
  obtain ⟨v1, vs1, d1, ds1, p1, q1, rfl, rfl, rfl, h1, r1⟩ := trodAll_cons r0
  obtain ⟨v2, vs2, d2, ds2, p2, q2, rfl, rfl, rfl, h2, r2⟩ := trodAll_cons r1
  obtain ⟨rfl, rfl, rfl⟩ := trodAll_nil r2
  obtain rfl : args = #[v0, v1, v2] := by cases args; simp_all
  obtain ⟨rfl, rfl⟩ := trodVars_none hV
  have lt0 : ∀ x ∈ p0, x.block < W.heap.size := by obtain ⟨m, hm⟩ := h0; exact DataW.trod_lt m _ _ _ hm
  obtain ⟨x0, rfl, kx0⟩ := open_head (hval 0 29 v0 rfl rfl) h0
  obtain ⟨x1, rfl, rfl, rfl, wx1⟩ := open_int Tryd.underlying3 (hval 1 3 v1 rfl rfl) h1
  have lt2 : ∀ x ∈ p2, x.block < W.heap.size := by obtain ⟨m, hm⟩ := h2; exact DataW.trod_lt m _ _ _ hm
  obtain ⟨a2, n2, c2, x2, rfl, lx2, nc2, cm2, bx2, px2⟩ := open_bytes (hval 2 30 v2 rfl rfl) h2
  clear hA0
  refine (law_cutH headC x0 x1 x2 a2 n2 c2 W kx0 (bounds_i64 wx1) lx2 nc2 cm2 bx2 px2 (tables_of_laid hL)).mono fun e W' ⟨he, bel⟩ => ?_
  subst he
  exact ⟨_, rfl, _, _, _, [], _, [], hW', trodAll_mk1 (shut_bool Tryd.underlying4 _), (trodAll_cons_mk (Below.trod laidOut (by kernel_rfl) (of_decide_eq_true (by kernel_rfl)) h0 bel lt0) (trodAll_cons_mk (shut_int Tryd.underlying3 wx1) (trodAll_cons_mk (Below.trod laidOut (by kernel_rfl) (of_decide_eq_true (by kernel_rfl)) h2 bel lt2) trodAll_mk0))), rfl, bel.frame _, fun h => by cases h⟩

def start : Array Value := #[zeroH, .int .i64 0, .slice none 0 0]
theorem reads (os : Os) {H : Type} (enc : TypeId × Value → H) : ∃ places, DataW.whole enc Tryd.prog ((laidWorld os).forCall (fun _ _ => 0) ⟨#[], start, []⟩).memory Tryd.f8.params.toList Rows.headCutSpec.vars false start.toList 8 = some ([zeroHD, .lit (.int .i64 0), .nil], [], places) :=
  ⟨[], by kernel_rfl⟩

set_option maxRecDepth 100000 in
theorem lifted (os : Os) (started : os.Started) (H : Type) (enc : TypeId × Value → H) (F : Stop.Interp) :
    ReturnsInHanded {} Tryd.checked os 8 .any ((OpenSpec.ofChange Rows.headCutSpec).preRow enc Tryd.prog Tryd.f8 Rows.headCutRow.domain false Rows.headCutRow.laid) (((OpenSpec.ofChange Rows.headCutSpec).at F).post enc Tryd.prog Tryd.f8 false true false false) := by
  obtain ⟨places, hx⟩ := reads os enc
  refine returnsInHanded_of_row (C := Tryd.checked) (s := OpenSpec.ofChange Rows.headCutSpec) own started (by kernel_rfl) Tryd.func8
    (witness_row_at (enc := enc) (C := Tryd.checked) false (laidWorld os) start rfl (by kernel_rfl) (by kernel_rfl) (by kernel_rfl)
      (OpenSpec.preRow_of_cond 8 hx (by kernel_rfl) (fun k hk => by cases hk) (by kernel_rfl) (laidMet_of_run' 8 (by kernel_rfl) (by kernel_rfl)))) ?_
  intro W base args ds gs before hval hW _ _ _ hL _ _
  exact contract H enc W base args ds gs before hval hW hL

theorem said : Rows.HeadCutSaid :=
  OpenClaim.holds_of_cond 8 Tryd.f8 rfl rfl rfl rfl rfl rfl rfl ⟨rfl, rfl, rfl, rfl, rfl⟩ rfl rfl rfl rfl rfl (by kernel_rfl) Tryd.func8 (by kernel_rfl)
    (of_decide_eq_true (by kernel_rfl)) (by unfold Func.isWrapper; first | (rw [if_pos (by decide +kernel)]; kernel_rfl) | (rw [if_neg (by decide +kernel)]; exact ⟨rfl, rfl⟩))
    (fun os started H enc _ F => by rw [OpenClaim.pre_eq_preRow]; exact lifted os started H enc F)

theorem plain (f : FuncId) (fn : Func) (hf : Tryd.pinned.checked.prog.funcNamed "stepladder/stepladderlaw08.HeadCut" = some f) (hfn : Tryd.pinned.checked.prog.funcs[f]? = some fn) :
    false = Tryd.pinned.checked.prog.looks [] ∧ ∀ (j : Nat) t, fn.params[j]? = some t → Tryd.pinned.checked.prog.wantsStandIn t = false := by
  obtain rfl : f = 8 := Option.some.inj ((show Tryd.prog.funcNamed "stepladder/stepladderlaw08.HeadCut" = some 8 by kernel_rfl).symm.trans hf) |>.symm
  obtain rfl : fn = Tryd.f8 := (Option.some.inj (Tryd.func8.symm.trans hfn)).symm
  refine ⟨by kernel_rfl, fun j t ht => ?_⟩
  rw [Tryd.params8] at ht
  have hm : t = 29 ∨ t = 3 ∨ t = 30 := by simpa using Array.mem_of_getElem? ht
  rcases hm with rfl | rfl | rfl
  · exact (show Tryd.prog.wantsStandIn 29 = false by kernel_rfl)
  · exact (show Tryd.prog.wantsStandIn 3 = false by kernel_rfl)
  · exact (show Tryd.prog.wantsStandIn 30 = false by kernel_rfl)
theorem card : Rows.HeadCutCardSaid :=
  Claim7.holds_tied_plain_at .later [] _ _ _ _ said (fun _ h => by cases h) (by kernel_rfl) (fun _ h => by cases h) headCut_row_tie rfl ⟨rfl, rfl⟩ (by kernel_rfl) rfl plain (by kernel_rfl)

end Go.Proofs.YtmpjgfecnnefeaaDoor.headCut
