/-
  PROVED: the law stepladderlaw08.HeadMines answers true for every input, and leaves its arguments as they were.
  Conditions: the two package-level tables of package sha hold at the call what their initialisers lay; the card ties that to the text of the program (a pruned copy of the project: the packages that the roots of this seat load).
-/
import Derived.Test.YtmpjgfecnnefeaaDoorCj
namespace Go.Proofs.YtmpjgfecnnefeaaDoor
set_option maxRecDepth 8000
open Go.RowKit

section
variable {a : Act} {dst : Option Tmp} {x y : Operand} {ty : TypeId} {pos : String} {after : Array Edge} {gd : Option (Nat × Bool)}
theorem subU_op {m k r : Int} (u : World) (hr : IntKind.u64.wrap (m - k) = r) (hx : a.eval x = .int .u64 m) (hy : a.eval y = .int .u64 k) :
    (execOp a.eval ⟨dst, .binOp .sub 24 x y 24, ty, pos, after, gd⟩).run Tryd.prog u = .ok (.value (.int .u64 r)) u := by
  subst hr
  unfold execOp
  simp only [hx, hy]
  go_simp
theorem geU_op {m k : Int} {b : Bool} (u : World) (hb : decide (k ≤ m) = b) (hx : a.eval x = .int .u64 m) (hy : a.eval y = .int .u64 k) :
    (execOp a.eval ⟨dst, .binOp .geq 24 x y 24, ty, pos, after, gd⟩).run Tryd.prog u = .ok (.value (.bool b)) u := by
  subst hb
  unfold execOp
  simp only [hx, hy]
  go_simp
theorem convIU_op {m r : Int} (u : World) (h : IntKind.u64.wrap m = r) (hx : a.eval x = .int .i64 m) :
    (execOp a.eval ⟨dst, .convert 3 24 x, ty, pos, after, gd⟩).run Tryd.prog u = .ok (.value (.int .u64 r)) u := by
  rw [← h]
  unfold execOp
  simp only [hx]
  go_simp
end
theorem least_of (p : Nat → Bool) : ∀ N, (∃ k, k < N ∧ p k = true ∧ ∀ j, j < k → p j = false) ∨ (∀ j, j < N → p j = false)
  | 0 => .inr fun j hj => by omega
  | N + 1 => by
    rcases least_of p N with ⟨k, h1, h2, h3⟩ | h
    · exact .inl ⟨k, by omega, h2, h3⟩
    · cases hp : p N with
      | true => exact .inl ⟨N, by omega, hp, h⟩
      | false =>
        refine .inr fun j hj => ?_
        rcases Nat.lt_or_ge j N with h' | h'
        · exact h j h'
        · rw [show j = N by omega]; exact hp
set_option maxRecDepth 20000 in
set_option maxHeartbeats 8000000 in
theorem law_mines_many (H : HeadC) (h : Hd) (tries q : Int) (w : World) (hh : okHd h) (htr : I64 tries) (hq : I64 q) (ht : Tables w) (h30 : 30 < tries) :
    Calls Tryd.prog 6 #[hdV h, .int .i64 tries, .int .i64 q] w fun e w' => e = .returned (.bool true) ∧ Below w.heap.size w w' := by
  have C30 : Hid (decide (30 < tries) = true) := decide_eq_true h30
  clear h30
  have E0 : Hid (EnvX w (w.alloc (.cells (hdA h) 29)) [(w.heap.size, Obj.cells (hdA h) 29 (0, 0))]) := (EnvX.start w).new _
  have HAW := Lib.hid (hawake_any H (w.alloc (.cells (hdA h) 29)) (ht.below (EnvX.bel E0.out)))
  have HT := Lib.hid ht
  have HH := Lib.hid H
  clear ht H hh
  unfold hdV
  go_enter Tryd.func6, Tryd.ntmps6
  go_upto_region 1 with (fail)
  generalize (w.alloc (.cells (hdA h) 29)) = W at *
  go_wp2_with fail
  refine HAW.out.mono ?_
  rintro e w1 ⟨rfl, hb1⟩
  have HB1 := Lib.hid (EnvX.below E0.out hb1).bel
  have E1 : Hid (EnvX w1 w1 [(w.heap.size, Obj.cells (hdA h) 29 (0, 0))]) := ⟨Below.refl _ _, (EnvX.below E0.out hb1).box⟩
  have HT1 := Lib.hid (HT.out.below HB1.out)
  clear hb1 E0 HAW
  go_upto_region 2 with (fail)
  refine wp_region_Hx (w0 := w1) [0, 1, 2, 3, 4, 5] [(w.heap.size, Obj.cells (hdA h) 29 (0, 0))] rfl E1.out ?_
  refine lexH_phase [0, 1, 2, 3, 4, 5] [] ?_
  have hw1 : EnvX w1 _ [(w.heap.size, Obj.cells (hdA h) 29 (0, 0))] := E1.out
  have hone := @EnvC.one _ _ _ hw1
  (refine wpG_op rfl rfl rfl ?_; intro K hK; go_big_quiet_op; go_big_quiet_on)
  (refine wpG_op rfl rfl rfl ?_; intro K hK; go_big_quiet_op; go_big_quiet_on)
  (refine wpG_op rfl rfl rfl ?_; intro K hK; go_big_quiet_op; go_big_quiet_on)
  (refine wpG_op rfl rfl rfl ?_; intro K hK; go_big_quiet_op; go_big_quiet_on)
  (refine wpG_val (v := .bool true) rfl rfl (fun u hu => gtZ_op u C30.out rfl rfl) ?_ hw1; intro K hK; go_big_quiet_op; go_big_quiet_on)
  (refine wpG_op rfl rfl rfl ?_; intro K hK; go_big_quiet_op; go_big_quiet_on)
  clear hone hw1
  refine wpG_nil ?_
  intro u3 E2'
  have EX2 := Lib.hid E2'
  clear E2'
  have HBE := Lib.hid (HB1.out.trans ((EnvX.bel EX2.out).mono HB1.out.size))
  go_wp2
  go_ret
  exact ⟨rfl, HBE.out⟩
set_option maxRecDepth 20000 in
set_option maxHeartbeats 8000000 in
theorem law_mines_yes (H : HeadC) (h : Hd) (tries q : Int) (w : World) (hh : okHd h) (htr : I64 tries) (hq : I64 q) (ht : Tables w) (h30 : ¬ 30 < tries) (k : Nat) (hk : k < (min tries 200).toNat) (h0 : ∀ j, j < k → mayH (nonceAt h j) = false) (h1 : mayH (nonceAt h k) = true) :
    Calls Tryd.prog 6 #[hdV h, .int .i64 tries, .int .i64 q] w fun e w' => e = .returned (.bool true) ∧ Below w.heap.size w w' := by
  have HL := Lib.hid hh.len
  have HLM : Hid (lenH (nonceAt h k)) := hh.len
  have HOK := Lib.hid hh
  have C30 : Hid (decide (30 < tries) = false) := decide_eq_false h30
  have HMI : Hid (∀ u, Tables u → Calls Tryd.prog 14 #[hdV h, .int .i64 tries] u fun e w' => e = .returned (.tuple #[hdV (nonceAt h k), .bool true]) ∧ Below u.heap.size u w') := fun u hu => by
    have h2 := H.mine h tries u hh htr hu
    rwa [mine_some hk h0 h1] at h2
  have HSB : Hid (IntKind.u64.wrap (((nonceAt h k).nonce : Int) - (h.nonce : Int)) = (k : Int)) := by
    show _ = _
    have hn := hh.2.2.2.2.2.2.2
    have e : (nonceAt h k).nonce = (h.nonce + k) % 18446744073709551616 := rfl
    rw [e]
    rw [IntKind.wrap_u64]
    omega
  have HEE : Hid ((!eqH h h) = false) := by show _ = _; simp [eqH]
  have HN0 := Lib.hid (nonce_zero hh)
  have HOM : Hid (okHd (nonceAt h k)) := okHd_nonce hh k
  have HMY : Hid (∀ (g : Hd) (b : Bool) (u : World), okHd g → mayH g = b → Tables u → Calls Tryd.prog 23 #[hdV g] u fun e w' => e = .returned (.bool b) ∧ Below u.heap.size u w') := fun g b u hg e hu => by
    have h2 := H.may g u hg hu
    rwa [e] at h2
  have H0 := Lib.hid h0
  have HTR := Lib.hid (And.intro h30 (And.intro htr hq))
  have H1 := Lib.hid h1
  have HK := Lib.hid hk
  clear hk h1
  have E0 : Hid (EnvX w (w.alloc (.cells (hdA h) 29)) [(w.heap.size, Obj.cells (hdA h) 29 (0, 0))]) := (EnvX.start w).new _
  have HAW := Lib.hid (hawake_any H (w.alloc (.cells (hdA h) 29)) (ht.below (EnvX.bel E0.out)))
  have HT := Lib.hid ht
  have HH := Lib.hid H
  clear ht H hh h0 h30 htr hq
  unfold hdV
  go_enter Tryd.func6, Tryd.ntmps6
  go_upto_region 1 with (fail)
  generalize (w.alloc (.cells (hdA h) 29)) = W at *
  go_wp2_with fail
  refine HAW.out.mono ?_
  rintro e w1 ⟨rfl, hb1⟩
  have HB1 := Lib.hid (EnvX.below E0.out hb1).bel
  have E1 : Hid (EnvX w1 w1 [(w.heap.size, Obj.cells (hdA h) 29 (0, 0))]) := ⟨Below.refl _ _, (EnvX.below E0.out hb1).box⟩
  have HT1 := Lib.hid (HT.out.below HB1.out)
  clear hb1 E0 HAW
  go_upto_region 2 with (fail)
  refine wp_region_Hx (w0 := w1) [0, 1, 2, 3, 4, 5] [(w.heap.size, Obj.cells (hdA h) 29 (0, 0))] rfl E1.out ?_
  refine lexH_phase [0, 1, 2, 3, 4, 5] [] ?_
  have hw1 : EnvX w1 _ [(w.heap.size, Obj.cells (hdA h) 29 (0, 0))] := E1.out
  have hone := @EnvC.one _ _ _ hw1
  (refine wpG_op rfl rfl rfl ?_; intro K hK; go_big_quiet_op; go_big_quiet_on)
  (refine wpG_op rfl rfl rfl ?_; intro K hK; go_big_quiet_op; go_big_quiet_on)
  (refine wpG_op rfl rfl rfl ?_; intro K hK; go_big_quiet_op; go_big_quiet_on)
  (refine wpG_op rfl rfl rfl ?_; intro K hK; go_big_quiet_op; go_big_quiet_on)
  (refine wpG_val (v := .bool false) rfl rfl (fun u hu => gtZ_op u C30.out rfl rfl) ?_ hw1; intro K hK; go_big_quiet_op; go_big_quiet_on)
  (refine wpG_op rfl rfl rfl ?_; intro K hK; go_big_quiet_op; go_big_quiet_on)
  clear hone hw1
  refine wpG_nil ?_
  intro u3 E2'
  have EX2 := Lib.hid E2'
  clear E2'
  go_upto_region 4 with (fail)
  refine wp_region_Hx (w0 := w1) [0, 1, 2, 3, 4, 5, 6, 7, 8] [(w.heap.size, Obj.cells (hdA h) 29 (0, 0))] rfl EX2.out ?_
  refine lexH_phase [0, 1, 2, 3, 4, 5] [6, 7, 8] ?_
  have hw4 : EnvX w1 _ [(w.heap.size, Obj.cells (hdA h) 29 (0, 0))] := EX2.out
  have hone := @EnvC.one _ _ _ hw4
  (refine wpG_val (v := hdV h) rfl rfl (fun u hu => load_any_op u (box_hd hu (List.Mem.head _) HL.out) rfl) ?_ hw4; intro K hK; go_big_quiet_op; go_big_quiet_on)
  (refine wpG_op rfl rfl rfl ?_; intro K hK; go_big_quiet_op; go_big_quiet_on)
  (refine wpG_call (f := 14) (args := #[hdV h, .int .i64 tries]) (v := .tuple #[hdV (nonceAt h k), .bool true]) rfl rfl rfl Tryd.func14 rfl rfl (fun u hu => HMI.out u (HT1.out.below (EnvX.bel hu))) ?_ hw4; intro K hK; go_big_quiet_op; go_big_quiet_on)
  (refine wpG_op rfl rfl rfl ?_; intro K hK; go_big_quiet_op; go_big_quiet_on)
  (refine wpG_op rfl rfl rfl ?_; intro K hK; go_big_quiet_op; go_big_quiet_on)
  (refine wpG_op rfl rfl rfl ?_; intro K hK; go_big_quiet_op; go_big_quiet_on)
  clear hone hw4
  refine wpG_nil ?_
  refine (hOp_fresh (R := fun x N => ∃ g, x = .pointer (some ⟨g, 0, none⟩) ∧ N = [(g, Obj.cells (hdA noHd) 29 (0, 0))]) (M0 := [(w.heap.size, Obj.cells (hdA h) 29 (0, 0))]) rfl rfl (fun _ h => h) (fun u hu => FAt_new (new_hd _) u) ?_)
  rintro _ _ ⟨g8, rfl, rfl⟩ hf he5; intro K' hK'; go_big_quiet_op; go_big_quiet_on
  have HG8 := Lib.hid (hf _ (List.mem_singleton.2 rfl))
  clear hf
  change lexH _ _ _ _ _ _ [(g8, Obj.cells (hdA noHd) 29 (0, 0)), (w.heap.size, Obj.cells (hdA h) 29 (0, 0))]
  refine (hOp_store rfl (g8) (hdA (nonceAt h k)) rfl rfl HG8.out.1 29 ((hdA noHd)) (List.Mem.head _) (infoHd _ (hdA_size HLM.out)) ((hdA_size (show lenH noHd from ⟨rfl, rfl, rfl, rfl⟩)).trans (hdA_size HLM.out).symm) (hdA_one _) [(g8, Obj.cells (hdA (nonceAt h k)) 29 (0, 0)), (w.heap.size, Obj.cells (hdA h) 29 (0, 0))] (List.forall_mem_cons.2 ⟨.inl rfl, fun y hy => .inr ⟨List.mem_cons_of_mem _ hy, HG8.out.2 y hy⟩⟩) ?_)
  intro he6
  refine lexH_phase [8] [] ?_
  have hw7 : EnvX w1 _ [(g8, Obj.cells (hdA (nonceAt h k)) 29 (0, 0)), (w.heap.size, Obj.cells (hdA h) 29 (0, 0))] := he6.choose_spec
  have hone := @EnvC.one _ _ _ hw7
  (refine wpG_op rfl rfl rfl ?_; intro K hK; go_big_quiet_op; go_big_quiet_on)
  clear hone hw7
  refine wpG_nil ?_
  intro u9 E2'
  have EX8 := Lib.hid E2'
  clear E2'
  go_upto_region 5 with (fail)
  refine wp_region_Hx (w0 := w1) [0, 1, 2] [(g8, Obj.cells (hdA (nonceAt h k)) 29 (0, 0)), (w.heap.size, Obj.cells (hdA h) 29 (0, 0))] rfl EX8.out ?_
  refine lexH_phase [0] [1, 2] ?_
  have hw10 : EnvX w1 _ [(g8, Obj.cells (hdA (nonceAt h k)) 29 (0, 0)), (w.heap.size, Obj.cells (hdA h) 29 (0, 0))] := EX8.out
  have hone := @EnvC.one _ _ _ hw10
  (refine wpG_val (v := hdV (nonceAt h k)) rfl rfl (fun u hu => load_any_op u (box_hd hu (List.Mem.head _) HLM.out) rfl) ?_ hw10; intro K hK; go_big_quiet_op; go_big_quiet_on)
  clear hone hw10
  refine wpG_nil ?_
  refine (hOp_fresh (R := fun x N => ∃ g, x = .pointer (some ⟨g, 0, none⟩) ∧ N = [(g, Obj.cells (hdA noHd) 29 (0, 0))]) (M0 := [(g8, Obj.cells (hdA (nonceAt h k)) 29 (0, 0)), (w.heap.size, Obj.cells (hdA h) 29 (0, 0))]) rfl rfl (fun _ h => h) (fun u hu => FAt_new (new_hd _) u) ?_)
  rintro _ _ ⟨g10, rfl, rfl⟩ hf he11; intro K' hK'; go_big_quiet_op; go_big_quiet_on
  have HG10 := Lib.hid (hf _ (List.mem_singleton.2 rfl))
  clear hf
  change lexH _ _ _ _ _ _ [(g10, Obj.cells (hdA noHd) 29 (0, 0)), (g8, Obj.cells (hdA (nonceAt h k)) 29 (0, 0)), (w.heap.size, Obj.cells (hdA h) 29 (0, 0))]
  refine (hOp_store rfl (g10) (hdA (nonceAt h k)) rfl rfl HG10.out.1 29 ((hdA noHd)) (List.Mem.head _) (infoHd _ (hdA_size HLM.out)) ((hdA_size (show lenH noHd from ⟨rfl, rfl, rfl, rfl⟩)).trans (hdA_size HLM.out).symm) (hdA_one _) [(g10, Obj.cells (hdA (nonceAt h k)) 29 (0, 0)), (g8, Obj.cells (hdA (nonceAt h k)) 29 (0, 0)), (w.heap.size, Obj.cells (hdA h) 29 (0, 0))] (List.forall_mem_cons.2 ⟨.inl rfl, fun y hy => .inr ⟨List.mem_cons_of_mem _ hy, HG10.out.2 y hy⟩⟩) ?_)
  intro he12
  intro u14 E2'
  have EX13 := Lib.hid E2'
  clear E2'
  go_upto_region 6 with (fail)
  refine wp_region_Hx (w0 := w1) [0, 1, 2, 3] [(g10, Obj.cells (hdA (nonceAt h k)) 29 (0, 0)), (g8, Obj.cells (hdA (nonceAt h k)) 29 (0, 0)), (w.heap.size, Obj.cells (hdA h) 29 (0, 0))] rfl EX13.out ?_
  refine lexH_phase [0, 1, 2] [3] ?_
  have hw15 : EnvX w1 _ [(g10, Obj.cells (hdA (nonceAt h k)) 29 (0, 0)), (g8, Obj.cells (hdA (nonceAt h k)) 29 (0, 0)), (w.heap.size, Obj.cells (hdA h) 29 (0, 0))] := EX13.out
  have hone := @EnvC.one _ _ _ hw15
  (refine wpG_op rfl rfl rfl ?_; intro K hK; go_big_quiet_op; go_big_quiet_on)
  (refine wpG_val (v := .int .u64 (h.nonce : Int)) rfl rfl (fun u hu => load_any_op u (box_hd_nonce hu (List.Mem.tail _ (List.Mem.tail _ (List.Mem.head _))) HL.out) rfl) ?_ hw15; intro K hK; go_big_quiet_op; go_big_quiet_on)
  (refine wpG_op rfl rfl rfl ?_; intro K hK; go_big_quiet_op; go_big_quiet_on)
  clear hone hw15
  refine wpG_nil ?_
  refine (hOp_putAt rfl (g10) (134) (.int .u64 (h.nonce : Int)) rfl rfl HG10.out.1 29 ((hdA (nonceAt h k))) (hdA h) (List.Mem.head _) infoU64 (by rw [hdA_size HLM.out]; exact Nat.le_refl _) (by simp [Value.cells]; rfl) (put_nonce HLM.out rfl) [(g10, Obj.cells (hdA h) 29 (0, 0)), (g8, Obj.cells (hdA (nonceAt h k)) 29 (0, 0)), (w.heap.size, Obj.cells (hdA h) 29 (0, 0))] (List.forall_mem_cons.2 ⟨.inl rfl, fun y hy => .inr ⟨List.mem_cons_of_mem _ hy, HG10.out.2 y hy⟩⟩) ?_)
  intro he16
  intro u18 E2'
  have EX17 := Lib.hid E2'
  clear E2'
  go_upto_region 7 with (fail)
  refine wp_region_Hx (w0 := w1) [0, 1, 2, 3, 4, 5] [(g10, Obj.cells (hdA h) 29 (0, 0)), (g8, Obj.cells (hdA (nonceAt h k)) 29 (0, 0)), (w.heap.size, Obj.cells (hdA h) 29 (0, 0))] rfl EX17.out ?_
  refine lexH_phase [0, 1, 2, 3, 4, 5] [] ?_
  have hw19 : EnvX w1 _ [(g10, Obj.cells (hdA h) 29 (0, 0)), (g8, Obj.cells (hdA (nonceAt h k)) 29 (0, 0)), (w.heap.size, Obj.cells (hdA h) 29 (0, 0))] := EX17.out
  have hone := @EnvC.one _ _ _ hw19
  (refine wpG_op rfl rfl rfl ?_; intro K hK; go_big_quiet_op; go_big_quiet_on)
  (refine wpG_val (v := .int .u64 ((nonceAt h k).nonce : Int)) rfl rfl (fun u hu => load_any_op u (box_hd_nonce hu (List.Mem.tail _ (List.Mem.head _)) HLM.out) rfl) ?_ hw19; intro K hK; go_big_quiet_op; go_big_quiet_on)
  (refine wpG_op rfl rfl rfl ?_; intro K hK; go_big_quiet_op; go_big_quiet_on)
  (refine wpG_val (v := .int .u64 (h.nonce : Int)) rfl rfl (fun u hu => load_any_op u (box_hd_nonce hu (List.Mem.tail _ (List.Mem.tail _ (List.Mem.head _))) HL.out) rfl) ?_ hw19; intro K hK; go_big_quiet_op; go_big_quiet_on)
  (refine wpG_val (v := .int .u64 (k : Int)) rfl rfl (fun u hu => subU_op u HSB.out rfl rfl) ?_ hw19; intro K hK; go_big_quiet_op; go_big_quiet_on)
  (refine wpG_op rfl rfl rfl ?_; intro K hK; go_big_quiet_op; go_big_quiet_on)
  clear hone hw19
  refine wpG_nil ?_
  intro u21 E2'
  have EX20 := Lib.hid E2'
  clear E2'
  have CTP : Hid (decide (0 < tries) = true) := decide_eq_true (by have := HK.out; omega)
  have CU : Hid (IntKind.u64.wrap tries = tries) := by show _ = _; have := HTR.out; unfold I64 at this; have := HK.out; rw [IntKind.wrap_u64]; omega
  have CGE : Hid (decide (tries ≤ (k : Int)) = false) := decide_eq_false (by have := HK.out; omega)
  cases hmh : mayH h with
  | true =>
    have HMH := Lib.hid hmh
    have hk0 : k = 0 := by
      rcases Nat.eq_zero_or_pos k with e | e
      · exact e
      · have := H0.out 0 e
        rw [HN0.out, hmh] at this
        cases this
    have HMM : Hid ((!eqH (nonceAt h k) h) = false) := by show _ = _; rw [hk0, HN0.out]; simp [eqH]
    clear hk0 hmh
    go_upto_region 8 with (fail)
    refine wp_region_Hx (w0 := w1) [0, 1, 2, 3, 4, 5, 6, 7, 8, 9, 10, 11, 12, 13, 14, 15, 16, 17, 18, 19, 20, 21, 22, 23, 24, 25, 26, 27, 28, 29, 30, 31, 32, 33, 34, 35, 36, 37, 38, 39, 40, 41, 42] [(g10, Obj.cells (hdA h) 29 (0, 0)), (g8, Obj.cells (hdA (nonceAt h k)) 29 (0, 0)), (w.heap.size, Obj.cells (hdA h) 29 (0, 0))] rfl EX20.out ?_
    refine lexH_phase [0, 1, 2, 3, 4, 5, 6, 7, 8, 9, 10, 11, 12, 13, 14, 15, 16, 17, 18, 19, 20, 21, 22, 23, 24, 25, 26, 27, 28, 29, 30, 31, 32, 33, 34, 35, 36, 37, 38, 39, 40, 41, 42] [] ?_
    have hw22 : EnvX w1 _ [(g10, Obj.cells (hdA h) 29 (0, 0)), (g8, Obj.cells (hdA (nonceAt h k)) 29 (0, 0)), (w.heap.size, Obj.cells (hdA h) 29 (0, 0))] := EX20.out
    have hone := @EnvC.one _ _ _ hw22
    (refine wpG_val (v := hdV h) rfl rfl (fun u hu => load_any_op u (box_hd hu (List.Mem.head _) HL.out) rfl) ?_ hw22; intro K hK; go_big_quiet_op; go_big_quiet_on)
    (refine wpG_val (v := hdV h) rfl rfl (fun u hu => load_any_op u (box_hd hu (List.Mem.tail _ (List.Mem.tail _ (List.Mem.head _))) HL.out) rfl) ?_ hw22; intro K hK; go_big_quiet_op; go_big_quiet_on)
    (refine wpG_val (v := .bool false) rfl rfl (fun u hu => neqHd_op HOK.out HOK.out HEE.out u rfl rfl) ?_ hw22; intro K hK; go_big_quiet_op; go_big_quiet_on)
    (refine wpG_op rfl rfl rfl ?_; intro K hK; go_big_quiet_op; go_big_quiet_on)
    (refine wpG_op rfl rfl rfl ?_; intro K hK; go_big_quiet_op; go_big_quiet_on)
    (refine wpG_op rfl rfl rfl ?_; intro K hK; go_big_quiet_op; go_big_quiet_on)
    (refine wpG_val (v := hdV (nonceAt h k)) rfl rfl (fun u hu => load_any_op u (box_hd hu (List.Mem.tail _ (List.Mem.head _)) HLM.out) rfl) ?_ hw22; intro K hK; go_big_quiet_op; go_big_quiet_on)
    (refine wpG_call (f := 23) (args := #[hdV (nonceAt h k)]) (v := .bool true) rfl rfl rfl Tryd.func23 rfl rfl (fun u hu => HMY.out _ true u HOM.out H1.out (HT1.out.below (EnvX.bel hu))) ?_ hw22; intro K hK; go_big_quiet_op; go_big_quiet_on)
    (refine wpG_op rfl rfl rfl ?_; intro K hK; go_big_quiet_op; go_big_quiet_on)
    (refine wpG_op rfl rfl rfl ?_; intro K hK; go_big_quiet_op; go_big_quiet_on)
    (refine wpG_op rfl rfl rfl ?_; intro K hK; go_big_quiet_op; go_big_quiet_on)
    (refine wpG_op rfl rfl rfl ?_; intro K hK; go_big_quiet_op; go_big_quiet_on)
    (refine wpG_val (v := .int .u64 tries) rfl rfl (fun u hu => convIU_op u CU.out rfl) ?_ hw22; intro K hK; go_big_quiet_op; go_big_quiet_on)
    (refine wpG_val (v := .bool false) rfl rfl (fun u hu => geU_op u CGE.out rfl rfl) ?_ hw22; intro K hK; go_big_quiet_op; go_big_quiet_on)
    (refine wpG_op rfl rfl rfl ?_; intro K hK; go_big_quiet_op; go_big_quiet_on)
    (refine wpG_op rfl rfl rfl ?_; intro K hK; go_big_quiet_op; go_big_quiet_on)
    (refine wpG_op rfl rfl rfl ?_; intro K hK; go_big_quiet_op; go_big_quiet_on)
    (refine wpG_op rfl rfl rfl ?_; intro K hK; go_big_quiet_op; go_big_quiet_on)
    (refine wpG_op rfl rfl rfl ?_; intro K hK; go_big_quiet_op; go_big_quiet_on)
    (refine wpG_op rfl rfl rfl ?_; intro K hK; go_big_quiet_op; go_big_quiet_on)
    (refine wpG_op rfl rfl rfl ?_; intro K hK; go_big_quiet_op; go_big_quiet_on)
    (refine wpG_skip rfl rfl ?_ hw22; intro K hK; go_big_quiet_op; go_big_quiet_on)
    (refine wpG_skip rfl rfl ?_ hw22; intro K hK; go_big_quiet_op; go_big_quiet_on)
    (refine wpG_skip rfl rfl ?_ hw22; intro K hK; go_big_quiet_op; go_big_quiet_on)
    (refine wpG_op rfl rfl rfl ?_; intro K hK; go_big_quiet_op; go_big_quiet_on)
    (refine wpG_op rfl rfl rfl ?_; intro K hK; go_big_quiet_op; go_big_quiet_on)
    (refine wpG_op rfl rfl rfl ?_; intro K hK; go_big_quiet_op; go_big_quiet_on)
    (refine wpG_op rfl rfl rfl ?_; intro K hK; go_big_quiet_op; go_big_quiet_on)
    (refine wpG_val (v := .bool true) rfl rfl (fun u hu => gtZ_op u CTP.out rfl rfl) ?_ hw22; intro K hK; go_big_quiet_op; go_big_quiet_on)
    (refine wpG_op rfl rfl rfl ?_; intro K hK; go_big_quiet_op; go_big_quiet_on)
    (refine wpG_val (v := hdV h) rfl rfl (fun u hu => load_any_op u (box_hd hu (List.Mem.tail _ (List.Mem.tail _ (List.Mem.head _))) HL.out) rfl) ?_ hw22; intro K hK; go_big_quiet_op; go_big_quiet_on)
    (refine wpG_call (f := 23) (args := #[hdV h]) (v := .bool true) rfl rfl rfl Tryd.func23 rfl rfl (fun u hu => HMY.out _ true u HOK.out HMH.out (HT1.out.below (EnvX.bel hu))) ?_ hw22; intro K hK; go_big_quiet_op; go_big_quiet_on)
    (refine wpG_op rfl rfl rfl ?_; intro K hK; go_big_quiet_op; go_big_quiet_on)
    (refine wpG_op rfl rfl rfl ?_; intro K hK; go_big_quiet_op; go_big_quiet_on)
    (refine wpG_op rfl rfl rfl ?_; intro K hK; go_big_quiet_op; go_big_quiet_on)
    (refine wpG_op rfl rfl rfl ?_; intro K hK; go_big_quiet_op; go_big_quiet_on)
    (refine wpG_op rfl rfl rfl ?_; intro K hK; go_big_quiet_op; go_big_quiet_on)
    (refine wpG_val (v := hdV (nonceAt h k)) rfl rfl (fun u hu => load_any_op u (box_hd hu (List.Mem.tail _ (List.Mem.head _)) HLM.out) rfl) ?_ hw22; intro K hK; go_big_quiet_op; go_big_quiet_on)
    (refine wpG_val (v := hdV h) rfl rfl (fun u hu => load_any_op u (box_hd hu (List.Mem.tail _ (List.Mem.tail _ (List.Mem.head _))) HL.out) rfl) ?_ hw22; intro K hK; go_big_quiet_op; go_big_quiet_on)
    (refine wpG_val (v := .bool false) rfl rfl (fun u hu => neqHd_op HOM.out HOK.out HMM.out u rfl rfl) ?_ hw22; intro K hK; go_big_quiet_op; go_big_quiet_on)
    (refine wpG_op rfl rfl rfl ?_; intro K hK; go_big_quiet_op; go_big_quiet_on)
    (refine wpG_op rfl rfl rfl ?_; intro K hK; go_big_quiet_op; go_big_quiet_on)
    (refine wpG_op rfl rfl rfl ?_; intro K hK; go_big_quiet_op; go_big_quiet_on)
    clear hone hw22
    refine wpG_nil ?_
    intro u24 E2'
    have EX23 := Lib.hid E2'
    clear E2'
    by_cases c1 : q < 0
    · have C1 : Hid (decide (q < 0) = true) := decide_eq_true c1
      clear c1
      go_upto_region 10 with (fail)
      refine wp_region_Hx (w0 := w1) [0, 1, 2, 3, 4, 5, 6, 7, 8, 9, 10, 11, 12, 13, 14, 15] [(g10, Obj.cells (hdA h) 29 (0, 0)), (g8, Obj.cells (hdA (nonceAt h k)) 29 (0, 0)), (w.heap.size, Obj.cells (hdA h) 29 (0, 0))] rfl EX23.out ?_
      refine lexH_phase [0, 1, 2, 3, 4, 5, 6, 7, 8, 9, 10, 11, 12, 13, 14, 15] [] ?_
      have hw25 : EnvX w1 _ [(g10, Obj.cells (hdA h) 29 (0, 0)), (g8, Obj.cells (hdA (nonceAt h k)) 29 (0, 0)), (w.heap.size, Obj.cells (hdA h) 29 (0, 0))] := EX23.out
      have hone := @EnvC.one _ _ _ hw25
      (refine wpG_op rfl rfl rfl ?_; intro K hK; go_big_quiet_op; go_big_quiet_on)
      (refine wpG_val (v := .bool true) rfl rfl (fun u hu => ltZ_op u C1.out rfl rfl) ?_ hw25; intro K hK; go_big_quiet_op; go_big_quiet_on)
      (refine wpG_op rfl rfl rfl ?_; intro K hK; go_big_quiet_op; go_big_quiet_on)
      (refine wpG_skip rfl rfl ?_ hw25; intro K hK; go_big_quiet_op; go_big_quiet_on)
      (refine wpG_skip rfl rfl ?_ hw25; intro K hK; go_big_quiet_op; go_big_quiet_on)
      (refine wpG_skip rfl rfl ?_ hw25; intro K hK; go_big_quiet_op; go_big_quiet_on)
      (refine wpG_op rfl rfl rfl ?_; intro K hK; go_big_quiet_op; go_big_quiet_on)
      (refine wpG_op rfl rfl rfl ?_; intro K hK; go_big_quiet_op; go_big_quiet_on)
      (refine wpG_skip rfl rfl ?_ hw25; intro K hK; go_big_quiet_op; go_big_quiet_on)
      (refine wpG_skip rfl rfl ?_ hw25; intro K hK; go_big_quiet_op; go_big_quiet_on)
      (refine wpG_skip rfl rfl ?_ hw25; intro K hK; go_big_quiet_op; go_big_quiet_on)
      (refine wpG_skip rfl rfl ?_ hw25; intro K hK; go_big_quiet_op; go_big_quiet_on)
      (refine wpG_skip rfl rfl ?_ hw25; intro K hK; go_big_quiet_op; go_big_quiet_on)
      (refine wpG_skip rfl rfl ?_ hw25; intro K hK; go_big_quiet_op; go_big_quiet_on)
      (refine wpG_skip rfl rfl ?_ hw25; intro K hK; go_big_quiet_op; go_big_quiet_on)
      (refine wpG_op rfl rfl rfl ?_; intro K hK; go_big_quiet_op; go_big_quiet_on)
      clear hone hw25
      refine wpG_nil ?_
      intro u27 E2'
      have EX26 := Lib.hid E2'
      clear E2'
      have HBE := Lib.hid (HB1.out.trans ((EnvX.bel EX26.out).mono HB1.out.size))
      go_wp2
      go_ret
      exact ⟨rfl, HBE.out⟩
    have C1 : Hid (decide (q < 0) = false) := decide_eq_false c1
    by_cases c5 : tries ≤ q
    · have C5 : Hid (decide (tries ≤ q) = true) := decide_eq_true c5
      clear c1 c5
      go_upto_region 10 with (fail)
      refine wp_region_Hx (w0 := w1) [0, 1, 2, 3, 4, 5, 6, 7, 8, 9, 10, 11, 12, 13, 14, 15] [(g10, Obj.cells (hdA h) 29 (0, 0)), (g8, Obj.cells (hdA (nonceAt h k)) 29 (0, 0)), (w.heap.size, Obj.cells (hdA h) 29 (0, 0))] rfl EX23.out ?_
      refine lexH_phase [0, 1, 2, 3, 4, 5, 6, 7, 8, 9, 10, 11, 12, 13, 14, 15] [] ?_
      have hw25 : EnvX w1 _ [(g10, Obj.cells (hdA h) 29 (0, 0)), (g8, Obj.cells (hdA (nonceAt h k)) 29 (0, 0)), (w.heap.size, Obj.cells (hdA h) 29 (0, 0))] := EX23.out
      have hone := @EnvC.one _ _ _ hw25
      (refine wpG_op rfl rfl rfl ?_; intro K hK; go_big_quiet_op; go_big_quiet_on)
      (refine wpG_val (v := .bool false) rfl rfl (fun u hu => ltZ_op u C1.out rfl rfl) ?_ hw25; intro K hK; go_big_quiet_op; go_big_quiet_on)
      (refine wpG_op rfl rfl rfl ?_; intro K hK; go_big_quiet_op; go_big_quiet_on)
      (refine wpG_op rfl rfl rfl ?_; intro K hK; go_big_quiet_op; go_big_quiet_on)
      (refine wpG_op rfl rfl rfl ?_; intro K hK; go_big_quiet_op; go_big_quiet_on)
      (refine wpG_val (v := .bool true) rfl rfl (fun u hu => geZ_op u C5.out rfl rfl) ?_ hw25; intro K hK; go_big_quiet_op; go_big_quiet_on)
      (refine wpG_op rfl rfl rfl ?_; intro K hK; go_big_quiet_op; go_big_quiet_on)
      (refine wpG_op rfl rfl rfl ?_; intro K hK; go_big_quiet_op; go_big_quiet_on)
      (refine wpG_skip rfl rfl ?_ hw25; intro K hK; go_big_quiet_op; go_big_quiet_on)
      (refine wpG_skip rfl rfl ?_ hw25; intro K hK; go_big_quiet_op; go_big_quiet_on)
      (refine wpG_skip rfl rfl ?_ hw25; intro K hK; go_big_quiet_op; go_big_quiet_on)
      (refine wpG_skip rfl rfl ?_ hw25; intro K hK; go_big_quiet_op; go_big_quiet_on)
      (refine wpG_skip rfl rfl ?_ hw25; intro K hK; go_big_quiet_op; go_big_quiet_on)
      (refine wpG_skip rfl rfl ?_ hw25; intro K hK; go_big_quiet_op; go_big_quiet_on)
      (refine wpG_skip rfl rfl ?_ hw25; intro K hK; go_big_quiet_op; go_big_quiet_on)
      (refine wpG_op rfl rfl rfl ?_; intro K hK; go_big_quiet_op; go_big_quiet_on)
      clear hone hw25
      refine wpG_nil ?_
      intro u27 E2'
      have EX26 := Lib.hid E2'
      clear E2'
      have HBE := Lib.hid (HB1.out.trans ((EnvX.bel EX26.out).mono HB1.out.size))
      go_wp2
      go_ret
      exact ⟨rfl, HBE.out⟩
    have C5 : Hid (decide (tries ≤ q) = false) := decide_eq_false c5
    have CQ : Hid (IntKind.u64.wrap q = q) := by show _ = _; have := HTR.out; unfold I64 at this; rw [IntKind.wrap_u64]; omega
    by_cases c13 : (k : Int) ≤ q
    · have C13 : Hid (decide ((k : Int) ≤ q) = true) := decide_eq_true c13
      clear c1 c5 c13
      go_upto_region 10 with (fail)
      refine wp_region_Hx (w0 := w1) [0, 1, 2, 3, 4, 5, 6, 7, 8, 9, 10, 11, 12, 13, 14, 15] [(g10, Obj.cells (hdA h) 29 (0, 0)), (g8, Obj.cells (hdA (nonceAt h k)) 29 (0, 0)), (w.heap.size, Obj.cells (hdA h) 29 (0, 0))] rfl EX23.out ?_
      refine lexH_phase [0, 1, 2, 3, 4, 5, 6, 7, 8, 9, 10, 11, 12, 13, 14, 15] [] ?_
      have hw25 : EnvX w1 _ [(g10, Obj.cells (hdA h) 29 (0, 0)), (g8, Obj.cells (hdA (nonceAt h k)) 29 (0, 0)), (w.heap.size, Obj.cells (hdA h) 29 (0, 0))] := EX23.out
      have hone := @EnvC.one _ _ _ hw25
      (refine wpG_op rfl rfl rfl ?_; intro K hK; go_big_quiet_op; go_big_quiet_on)
      (refine wpG_val (v := .bool false) rfl rfl (fun u hu => ltZ_op u C1.out rfl rfl) ?_ hw25; intro K hK; go_big_quiet_op; go_big_quiet_on)
      (refine wpG_op rfl rfl rfl ?_; intro K hK; go_big_quiet_op; go_big_quiet_on)
      (refine wpG_op rfl rfl rfl ?_; intro K hK; go_big_quiet_op; go_big_quiet_on)
      (refine wpG_op rfl rfl rfl ?_; intro K hK; go_big_quiet_op; go_big_quiet_on)
      (refine wpG_val (v := .bool false) rfl rfl (fun u hu => geZ_op u C5.out rfl rfl) ?_ hw25; intro K hK; go_big_quiet_op; go_big_quiet_on)
      (refine wpG_op rfl rfl rfl ?_; intro K hK; go_big_quiet_op; go_big_quiet_on)
      (refine wpG_op rfl rfl rfl ?_; intro K hK; go_big_quiet_op; go_big_quiet_on)
      (refine wpG_op rfl rfl rfl ?_; intro K hK; go_big_quiet_op; go_big_quiet_on)
      (refine wpG_op rfl rfl rfl ?_; intro K hK; go_big_quiet_op; go_big_quiet_on)
      (refine wpG_op rfl rfl rfl ?_; intro K hK; go_big_quiet_op; go_big_quiet_on)
      (refine wpG_val (v := .int .u64 q) rfl rfl (fun u hu => convIU_op u CQ.out rfl) ?_ hw25; intro K hK; go_big_quiet_op; go_big_quiet_on)
      (refine wpG_op rfl rfl rfl ?_; intro K hK; go_big_quiet_op; go_big_quiet_on)
      (refine wpG_val (v := .bool true) rfl rfl (fun u hu => geU_op u C13.out rfl rfl) ?_ hw25; intro K hK; go_big_quiet_op; go_big_quiet_on)
      (refine wpG_op rfl rfl rfl ?_; intro K hK; go_big_quiet_op; go_big_quiet_on)
      (refine wpG_op rfl rfl rfl ?_; intro K hK; go_big_quiet_op; go_big_quiet_on)
      clear hone hw25
      refine wpG_nil ?_
      intro u27 E2'
      have EX26 := Lib.hid E2'
      clear E2'
      have HBE := Lib.hid (HB1.out.trans ((EnvX.bel EX26.out).mono HB1.out.size))
      go_wp2
      go_ret
      exact ⟨rfl, HBE.out⟩
    have C13 : Hid (decide ((k : Int) ≤ q) = false) := decide_eq_false c13
    obtain ⟨n, rfl⟩ := Int.eq_ofNat_of_zero_le (show 0 ≤ q by omega)
    have HMF : Hid (mayH (nonceAt h n) = false) := H0.out n (by omega)
    have HADD : Hid (IntKind.u64.wrap ((h.nonce : Int) + (n : Int)) = ((nonceAt h n).nonce : Int)) := by
      show _ = _
      have e : (nonceAt h n).nonce = (h.nonce + n) % 18446744073709551616 := rfl
      rw [e, IntKind.wrap_u64]
      omega
    have HLN : Hid (lenH (nonceAt h n)) := HL.out
    clear c1 c5 c13
    go_upto_region 10 with (fail)
    refine wp_region_Hx (w0 := w1) [0, 1, 2, 3, 4, 5, 6, 7, 8, 9, 10, 11, 12, 13, 14, 15] [(g10, Obj.cells (hdA h) 29 (0, 0)), (g8, Obj.cells (hdA (nonceAt h k)) 29 (0, 0)), (w.heap.size, Obj.cells (hdA h) 29 (0, 0))] rfl EX23.out ?_
    refine lexH_phase [0, 1, 2, 3, 4, 5, 6, 7, 8, 9, 10, 11, 12, 13, 14, 15] [] ?_
    have hw25 : EnvX w1 _ [(g10, Obj.cells (hdA h) 29 (0, 0)), (g8, Obj.cells (hdA (nonceAt h k)) 29 (0, 0)), (w.heap.size, Obj.cells (hdA h) 29 (0, 0))] := EX23.out
    have hone := @EnvC.one _ _ _ hw25
    (refine wpG_op rfl rfl rfl ?_; intro K hK; go_big_quiet_op; go_big_quiet_on)
    (refine wpG_val (v := .bool false) rfl rfl (fun u hu => ltZ_op u C1.out rfl rfl) ?_ hw25; intro K hK; go_big_quiet_op; go_big_quiet_on)
    (refine wpG_op rfl rfl rfl ?_; intro K hK; go_big_quiet_op; go_big_quiet_on)
    (refine wpG_op rfl rfl rfl ?_; intro K hK; go_big_quiet_op; go_big_quiet_on)
    (refine wpG_op rfl rfl rfl ?_; intro K hK; go_big_quiet_op; go_big_quiet_on)
    (refine wpG_val (v := .bool false) rfl rfl (fun u hu => geZ_op u C5.out rfl rfl) ?_ hw25; intro K hK; go_big_quiet_op; go_big_quiet_on)
    (refine wpG_op rfl rfl rfl ?_; intro K hK; go_big_quiet_op; go_big_quiet_on)
    (refine wpG_op rfl rfl rfl ?_; intro K hK; go_big_quiet_op; go_big_quiet_on)
    (refine wpG_op rfl rfl rfl ?_; intro K hK; go_big_quiet_op; go_big_quiet_on)
    (refine wpG_op rfl rfl rfl ?_; intro K hK; go_big_quiet_op; go_big_quiet_on)
    (refine wpG_op rfl rfl rfl ?_; intro K hK; go_big_quiet_op; go_big_quiet_on)
    (refine wpG_val (v := .int .u64 (n : Int)) rfl rfl (fun u hu => convIU_op u CQ.out rfl) ?_ hw25; intro K hK; go_big_quiet_op; go_big_quiet_on)
    (refine wpG_op rfl rfl rfl ?_; intro K hK; go_big_quiet_op; go_big_quiet_on)
    (refine wpG_val (v := .bool false) rfl rfl (fun u hu => geU_op u C13.out rfl rfl) ?_ hw25; intro K hK; go_big_quiet_op; go_big_quiet_on)
    (refine wpG_op rfl rfl rfl ?_; intro K hK; go_big_quiet_op; go_big_quiet_on)
    (refine wpG_op rfl rfl rfl ?_; intro K hK; go_big_quiet_op; go_big_quiet_on)
    clear hone hw25
    refine wpG_nil ?_
    intro u27 E2'
    have EX26 := Lib.hid E2'
    clear E2'
    go_upto_region 12 with (fail)
    refine wp_region_Hx (w0 := w1) [0, 1, 2, 3, 4, 5, 6] [(g10, Obj.cells (hdA h) 29 (0, 0)), (g8, Obj.cells (hdA (nonceAt h k)) 29 (0, 0)), (w.heap.size, Obj.cells (hdA h) 29 (0, 0))] rfl EX26.out ?_
    refine lexH_phase [0, 1, 2, 3, 4, 5] [6] ?_
    have hw28 : EnvX w1 _ [(g10, Obj.cells (hdA h) 29 (0, 0)), (g8, Obj.cells (hdA (nonceAt h k)) 29 (0, 0)), (w.heap.size, Obj.cells (hdA h) 29 (0, 0))] := EX26.out
    have hone := @EnvC.one _ _ _ hw28
    (refine wpG_op rfl rfl rfl ?_; intro K hK; go_big_quiet_op; go_big_quiet_on)
    (refine wpG_val (v := .int .u64 (h.nonce : Int)) rfl rfl (fun u hu => load_any_op u (box_hd_nonce hu (List.Mem.tail _ (List.Mem.tail _ (List.Mem.head _))) HL.out) rfl) ?_ hw28; intro K hK; go_big_quiet_op; go_big_quiet_on)
    (refine wpG_op rfl rfl rfl ?_; intro K hK; go_big_quiet_op; go_big_quiet_on)
    (refine wpG_val (v := .int .u64 (n : Int)) rfl rfl (fun u hu => convIU_op u CQ.out rfl) ?_ hw28; intro K hK; go_big_quiet_op; go_big_quiet_on)
    (refine wpG_val (v := .int .u64 ((nonceAt h n).nonce : Int)) rfl rfl (fun u hu => addU_op u HADD.out rfl rfl) ?_ hw28; intro K hK; go_big_quiet_op; go_big_quiet_on)
    (refine wpG_op rfl rfl rfl ?_; intro K hK; go_big_quiet_op; go_big_quiet_on)
    clear hone hw28
    refine wpG_nil ?_
    refine (hOp_putAt rfl (g10) (134) (.int .u64 ((nonceAt h n).nonce : Int)) rfl rfl HG10.out.1 29 ((hdA h)) (hdA (nonceAt h n)) (List.Mem.head _) infoU64 (by rw [hdA_size HL.out]; exact Nat.le_refl _) (by simp [Value.cells]; rfl) (put_nonce HL.out rfl) [(g10, Obj.cells (hdA (nonceAt h n)) 29 (0, 0)), (g8, Obj.cells (hdA (nonceAt h k)) 29 (0, 0)), (w.heap.size, Obj.cells (hdA h) 29 (0, 0))] (List.forall_mem_cons.2 ⟨.inl rfl, fun y hy => .inr ⟨List.mem_cons_of_mem _ hy, HG10.out.2 y hy⟩⟩) ?_)
    intro he29
    intro u31 E2'
    have EX30 := Lib.hid E2'
    clear E2'
    go_upto_region 13 with (fail)
    refine wp_region_Hx (w0 := w1) [0, 1, 2, 3] [(g10, Obj.cells (hdA (nonceAt h n)) 29 (0, 0)), (g8, Obj.cells (hdA (nonceAt h k)) 29 (0, 0)), (w.heap.size, Obj.cells (hdA h) 29 (0, 0))] rfl EX30.out ?_
    refine lexH_phase [0, 1, 2, 3] [] ?_
    have hw32 : EnvX w1 _ [(g10, Obj.cells (hdA (nonceAt h n)) 29 (0, 0)), (g8, Obj.cells (hdA (nonceAt h k)) 29 (0, 0)), (w.heap.size, Obj.cells (hdA h) 29 (0, 0))] := EX30.out
    have hone := @EnvC.one _ _ _ hw32
    (refine wpG_val (v := hdV (nonceAt h n)) rfl rfl (fun u hu => load_any_op u (box_hd hu (List.Mem.head _) HLN.out) rfl) ?_ hw32; intro K hK; go_big_quiet_op; go_big_quiet_on)
    (refine wpG_call (f := 23) (args := #[hdV (nonceAt h n)]) (v := .bool false) rfl rfl rfl Tryd.func23 rfl rfl (fun u hu => HMY.out _ false u (okHd_nonce HOK.out n) HMF.out (HT1.out.below (EnvX.bel hu))) ?_ hw32; intro K hK; go_big_quiet_op; go_big_quiet_on)
    (refine wpG_op rfl rfl rfl ?_; intro K hK; go_big_quiet_op; go_big_quiet_on)
    (refine wpG_op rfl rfl rfl ?_; intro K hK; go_big_quiet_op; go_big_quiet_on)
    clear hone hw32
    refine wpG_nil ?_
    intro u34 E2'
    have EX33 := Lib.hid E2'
    clear E2'
    have HBE := Lib.hid (HB1.out.trans ((EnvX.bel EX33.out).mono HB1.out.size))
    go_wp2
    go_ret
    exact ⟨rfl, HBE.out⟩
  | false =>
    have HMH := Lib.hid hmh
    clear hmh
    go_upto_region 8 with (fail)
    refine wp_region_Hx (w0 := w1) [0, 1, 2, 3, 4, 5, 6, 7, 8, 9, 10, 11, 12, 13, 14, 15, 16, 17, 18, 19, 20, 21, 22, 23, 24, 25, 26, 27, 28, 29, 30, 31, 32, 33, 34, 35, 36, 37, 38, 39, 40, 41, 42] [(g10, Obj.cells (hdA h) 29 (0, 0)), (g8, Obj.cells (hdA (nonceAt h k)) 29 (0, 0)), (w.heap.size, Obj.cells (hdA h) 29 (0, 0))] rfl EX20.out ?_
    refine lexH_phase [0, 1, 2, 3, 4, 5, 6, 7, 8, 9, 10, 11, 12, 13, 14, 15, 16, 17, 18, 19, 20, 21, 22, 23, 24, 25, 26, 27, 28, 29, 30, 31, 32, 33, 34, 35, 36, 37, 38, 39, 40, 41, 42] [] ?_
    have hw22 : EnvX w1 _ [(g10, Obj.cells (hdA h) 29 (0, 0)), (g8, Obj.cells (hdA (nonceAt h k)) 29 (0, 0)), (w.heap.size, Obj.cells (hdA h) 29 (0, 0))] := EX20.out
    have hone := @EnvC.one _ _ _ hw22
    (refine wpG_val (v := hdV h) rfl rfl (fun u hu => load_any_op u (box_hd hu (List.Mem.head _) HL.out) rfl) ?_ hw22; intro K hK; go_big_quiet_op; go_big_quiet_on)
    (refine wpG_val (v := hdV h) rfl rfl (fun u hu => load_any_op u (box_hd hu (List.Mem.tail _ (List.Mem.tail _ (List.Mem.head _))) HL.out) rfl) ?_ hw22; intro K hK; go_big_quiet_op; go_big_quiet_on)
    (refine wpG_val (v := .bool false) rfl rfl (fun u hu => neqHd_op HOK.out HOK.out HEE.out u rfl rfl) ?_ hw22; intro K hK; go_big_quiet_op; go_big_quiet_on)
    (refine wpG_op rfl rfl rfl ?_; intro K hK; go_big_quiet_op; go_big_quiet_on)
    (refine wpG_op rfl rfl rfl ?_; intro K hK; go_big_quiet_op; go_big_quiet_on)
    (refine wpG_op rfl rfl rfl ?_; intro K hK; go_big_quiet_op; go_big_quiet_on)
    (refine wpG_val (v := hdV (nonceAt h k)) rfl rfl (fun u hu => load_any_op u (box_hd hu (List.Mem.tail _ (List.Mem.head _)) HLM.out) rfl) ?_ hw22; intro K hK; go_big_quiet_op; go_big_quiet_on)
    (refine wpG_call (f := 23) (args := #[hdV (nonceAt h k)]) (v := .bool true) rfl rfl rfl Tryd.func23 rfl rfl (fun u hu => HMY.out _ true u HOM.out H1.out (HT1.out.below (EnvX.bel hu))) ?_ hw22; intro K hK; go_big_quiet_op; go_big_quiet_on)
    (refine wpG_op rfl rfl rfl ?_; intro K hK; go_big_quiet_op; go_big_quiet_on)
    (refine wpG_op rfl rfl rfl ?_; intro K hK; go_big_quiet_op; go_big_quiet_on)
    (refine wpG_op rfl rfl rfl ?_; intro K hK; go_big_quiet_op; go_big_quiet_on)
    (refine wpG_op rfl rfl rfl ?_; intro K hK; go_big_quiet_op; go_big_quiet_on)
    (refine wpG_val (v := .int .u64 tries) rfl rfl (fun u hu => convIU_op u CU.out rfl) ?_ hw22; intro K hK; go_big_quiet_op; go_big_quiet_on)
    (refine wpG_val (v := .bool false) rfl rfl (fun u hu => geU_op u CGE.out rfl rfl) ?_ hw22; intro K hK; go_big_quiet_op; go_big_quiet_on)
    (refine wpG_op rfl rfl rfl ?_; intro K hK; go_big_quiet_op; go_big_quiet_on)
    (refine wpG_op rfl rfl rfl ?_; intro K hK; go_big_quiet_op; go_big_quiet_on)
    (refine wpG_op rfl rfl rfl ?_; intro K hK; go_big_quiet_op; go_big_quiet_on)
    (refine wpG_op rfl rfl rfl ?_; intro K hK; go_big_quiet_op; go_big_quiet_on)
    (refine wpG_op rfl rfl rfl ?_; intro K hK; go_big_quiet_op; go_big_quiet_on)
    (refine wpG_op rfl rfl rfl ?_; intro K hK; go_big_quiet_op; go_big_quiet_on)
    (refine wpG_op rfl rfl rfl ?_; intro K hK; go_big_quiet_op; go_big_quiet_on)
    (refine wpG_skip rfl rfl ?_ hw22; intro K hK; go_big_quiet_op; go_big_quiet_on)
    (refine wpG_skip rfl rfl ?_ hw22; intro K hK; go_big_quiet_op; go_big_quiet_on)
    (refine wpG_skip rfl rfl ?_ hw22; intro K hK; go_big_quiet_op; go_big_quiet_on)
    (refine wpG_op rfl rfl rfl ?_; intro K hK; go_big_quiet_op; go_big_quiet_on)
    (refine wpG_op rfl rfl rfl ?_; intro K hK; go_big_quiet_op; go_big_quiet_on)
    (refine wpG_op rfl rfl rfl ?_; intro K hK; go_big_quiet_op; go_big_quiet_on)
    (refine wpG_op rfl rfl rfl ?_; intro K hK; go_big_quiet_op; go_big_quiet_on)
    (refine wpG_val (v := .bool true) rfl rfl (fun u hu => gtZ_op u CTP.out rfl rfl) ?_ hw22; intro K hK; go_big_quiet_op; go_big_quiet_on)
    (refine wpG_op rfl rfl rfl ?_; intro K hK; go_big_quiet_op; go_big_quiet_on)
    (refine wpG_val (v := hdV h) rfl rfl (fun u hu => load_any_op u (box_hd hu (List.Mem.tail _ (List.Mem.tail _ (List.Mem.head _))) HL.out) rfl) ?_ hw22; intro K hK; go_big_quiet_op; go_big_quiet_on)
    (refine wpG_call (f := 23) (args := #[hdV h]) (v := .bool false) rfl rfl rfl Tryd.func23 rfl rfl (fun u hu => HMY.out _ false u HOK.out HMH.out (HT1.out.below (EnvX.bel hu))) ?_ hw22; intro K hK; go_big_quiet_op; go_big_quiet_on)
    (refine wpG_op rfl rfl rfl ?_; intro K hK; go_big_quiet_op; go_big_quiet_on)
    (refine wpG_op rfl rfl rfl ?_; intro K hK; go_big_quiet_op; go_big_quiet_on)
    (refine wpG_skip rfl rfl ?_ hw22; intro K hK; go_big_quiet_op; go_big_quiet_on)
    (refine wpG_skip rfl rfl ?_ hw22; intro K hK; go_big_quiet_op; go_big_quiet_on)
    (refine wpG_skip rfl rfl ?_ hw22; intro K hK; go_big_quiet_op; go_big_quiet_on)
    (refine wpG_skip rfl rfl ?_ hw22; intro K hK; go_big_quiet_op; go_big_quiet_on)
    (refine wpG_skip rfl rfl ?_ hw22; intro K hK; go_big_quiet_op; go_big_quiet_on)
    (refine wpG_skip rfl rfl ?_ hw22; intro K hK; go_big_quiet_op; go_big_quiet_on)
    (refine wpG_skip rfl rfl ?_ hw22; intro K hK; go_big_quiet_op; go_big_quiet_on)
    (refine wpG_op rfl rfl rfl ?_; intro K hK; go_big_quiet_op; go_big_quiet_on)
    (refine wpG_op rfl rfl rfl ?_; intro K hK; go_big_quiet_op; go_big_quiet_on)
    clear hone hw22
    refine wpG_nil ?_
    intro u24 E2'
    have EX23 := Lib.hid E2'
    clear E2'
    by_cases c1 : q < 0
    · have C1 : Hid (decide (q < 0) = true) := decide_eq_true c1
      clear c1
      go_upto_region 10 with (fail)
      refine wp_region_Hx (w0 := w1) [0, 1, 2, 3, 4, 5, 6, 7, 8, 9, 10, 11, 12, 13, 14, 15] [(g10, Obj.cells (hdA h) 29 (0, 0)), (g8, Obj.cells (hdA (nonceAt h k)) 29 (0, 0)), (w.heap.size, Obj.cells (hdA h) 29 (0, 0))] rfl EX23.out ?_
      refine lexH_phase [0, 1, 2, 3, 4, 5, 6, 7, 8, 9, 10, 11, 12, 13, 14, 15] [] ?_
      have hw25 : EnvX w1 _ [(g10, Obj.cells (hdA h) 29 (0, 0)), (g8, Obj.cells (hdA (nonceAt h k)) 29 (0, 0)), (w.heap.size, Obj.cells (hdA h) 29 (0, 0))] := EX23.out
      have hone := @EnvC.one _ _ _ hw25
      (refine wpG_op rfl rfl rfl ?_; intro K hK; go_big_quiet_op; go_big_quiet_on)
      (refine wpG_val (v := .bool true) rfl rfl (fun u hu => ltZ_op u C1.out rfl rfl) ?_ hw25; intro K hK; go_big_quiet_op; go_big_quiet_on)
      (refine wpG_op rfl rfl rfl ?_; intro K hK; go_big_quiet_op; go_big_quiet_on)
      (refine wpG_skip rfl rfl ?_ hw25; intro K hK; go_big_quiet_op; go_big_quiet_on)
      (refine wpG_skip rfl rfl ?_ hw25; intro K hK; go_big_quiet_op; go_big_quiet_on)
      (refine wpG_skip rfl rfl ?_ hw25; intro K hK; go_big_quiet_op; go_big_quiet_on)
      (refine wpG_op rfl rfl rfl ?_; intro K hK; go_big_quiet_op; go_big_quiet_on)
      (refine wpG_op rfl rfl rfl ?_; intro K hK; go_big_quiet_op; go_big_quiet_on)
      (refine wpG_skip rfl rfl ?_ hw25; intro K hK; go_big_quiet_op; go_big_quiet_on)
      (refine wpG_skip rfl rfl ?_ hw25; intro K hK; go_big_quiet_op; go_big_quiet_on)
      (refine wpG_skip rfl rfl ?_ hw25; intro K hK; go_big_quiet_op; go_big_quiet_on)
      (refine wpG_skip rfl rfl ?_ hw25; intro K hK; go_big_quiet_op; go_big_quiet_on)
      (refine wpG_skip rfl rfl ?_ hw25; intro K hK; go_big_quiet_op; go_big_quiet_on)
      (refine wpG_skip rfl rfl ?_ hw25; intro K hK; go_big_quiet_op; go_big_quiet_on)
      (refine wpG_skip rfl rfl ?_ hw25; intro K hK; go_big_quiet_op; go_big_quiet_on)
      (refine wpG_op rfl rfl rfl ?_; intro K hK; go_big_quiet_op; go_big_quiet_on)
      clear hone hw25
      refine wpG_nil ?_
      intro u27 E2'
      have EX26 := Lib.hid E2'
      clear E2'
      have HBE := Lib.hid (HB1.out.trans ((EnvX.bel EX26.out).mono HB1.out.size))
      go_wp2
      go_ret
      exact ⟨rfl, HBE.out⟩
    have C1 : Hid (decide (q < 0) = false) := decide_eq_false c1
    by_cases c5 : tries ≤ q
    · have C5 : Hid (decide (tries ≤ q) = true) := decide_eq_true c5
      clear c1 c5
      go_upto_region 10 with (fail)
      refine wp_region_Hx (w0 := w1) [0, 1, 2, 3, 4, 5, 6, 7, 8, 9, 10, 11, 12, 13, 14, 15] [(g10, Obj.cells (hdA h) 29 (0, 0)), (g8, Obj.cells (hdA (nonceAt h k)) 29 (0, 0)), (w.heap.size, Obj.cells (hdA h) 29 (0, 0))] rfl EX23.out ?_
      refine lexH_phase [0, 1, 2, 3, 4, 5, 6, 7, 8, 9, 10, 11, 12, 13, 14, 15] [] ?_
      have hw25 : EnvX w1 _ [(g10, Obj.cells (hdA h) 29 (0, 0)), (g8, Obj.cells (hdA (nonceAt h k)) 29 (0, 0)), (w.heap.size, Obj.cells (hdA h) 29 (0, 0))] := EX23.out
      have hone := @EnvC.one _ _ _ hw25
      (refine wpG_op rfl rfl rfl ?_; intro K hK; go_big_quiet_op; go_big_quiet_on)
      (refine wpG_val (v := .bool false) rfl rfl (fun u hu => ltZ_op u C1.out rfl rfl) ?_ hw25; intro K hK; go_big_quiet_op; go_big_quiet_on)
      (refine wpG_op rfl rfl rfl ?_; intro K hK; go_big_quiet_op; go_big_quiet_on)
      (refine wpG_op rfl rfl rfl ?_; intro K hK; go_big_quiet_op; go_big_quiet_on)
      (refine wpG_op rfl rfl rfl ?_; intro K hK; go_big_quiet_op; go_big_quiet_on)
      (refine wpG_val (v := .bool true) rfl rfl (fun u hu => geZ_op u C5.out rfl rfl) ?_ hw25; intro K hK; go_big_quiet_op; go_big_quiet_on)
      (refine wpG_op rfl rfl rfl ?_; intro K hK; go_big_quiet_op; go_big_quiet_on)
      (refine wpG_op rfl rfl rfl ?_; intro K hK; go_big_quiet_op; go_big_quiet_on)
      (refine wpG_skip rfl rfl ?_ hw25; intro K hK; go_big_quiet_op; go_big_quiet_on)
      (refine wpG_skip rfl rfl ?_ hw25; intro K hK; go_big_quiet_op; go_big_quiet_on)
      (refine wpG_skip rfl rfl ?_ hw25; intro K hK; go_big_quiet_op; go_big_quiet_on)
      (refine wpG_skip rfl rfl ?_ hw25; intro K hK; go_big_quiet_op; go_big_quiet_on)
      (refine wpG_skip rfl rfl ?_ hw25; intro K hK; go_big_quiet_op; go_big_quiet_on)
      (refine wpG_skip rfl rfl ?_ hw25; intro K hK; go_big_quiet_op; go_big_quiet_on)
      (refine wpG_skip rfl rfl ?_ hw25; intro K hK; go_big_quiet_op; go_big_quiet_on)
      (refine wpG_op rfl rfl rfl ?_; intro K hK; go_big_quiet_op; go_big_quiet_on)
      clear hone hw25
      refine wpG_nil ?_
      intro u27 E2'
      have EX26 := Lib.hid E2'
      clear E2'
      have HBE := Lib.hid (HB1.out.trans ((EnvX.bel EX26.out).mono HB1.out.size))
      go_wp2
      go_ret
      exact ⟨rfl, HBE.out⟩
    have C5 : Hid (decide (tries ≤ q) = false) := decide_eq_false c5
    have CQ : Hid (IntKind.u64.wrap q = q) := by show _ = _; have := HTR.out; unfold I64 at this; rw [IntKind.wrap_u64]; omega
    by_cases c13 : (k : Int) ≤ q
    · have C13 : Hid (decide ((k : Int) ≤ q) = true) := decide_eq_true c13
      clear c1 c5 c13
      go_upto_region 10 with (fail)
      refine wp_region_Hx (w0 := w1) [0, 1, 2, 3, 4, 5, 6, 7, 8, 9, 10, 11, 12, 13, 14, 15] [(g10, Obj.cells (hdA h) 29 (0, 0)), (g8, Obj.cells (hdA (nonceAt h k)) 29 (0, 0)), (w.heap.size, Obj.cells (hdA h) 29 (0, 0))] rfl EX23.out ?_
      refine lexH_phase [0, 1, 2, 3, 4, 5, 6, 7, 8, 9, 10, 11, 12, 13, 14, 15] [] ?_
      have hw25 : EnvX w1 _ [(g10, Obj.cells (hdA h) 29 (0, 0)), (g8, Obj.cells (hdA (nonceAt h k)) 29 (0, 0)), (w.heap.size, Obj.cells (hdA h) 29 (0, 0))] := EX23.out
      have hone := @EnvC.one _ _ _ hw25
      (refine wpG_op rfl rfl rfl ?_; intro K hK; go_big_quiet_op; go_big_quiet_on)
      (refine wpG_val (v := .bool false) rfl rfl (fun u hu => ltZ_op u C1.out rfl rfl) ?_ hw25; intro K hK; go_big_quiet_op; go_big_quiet_on)
      (refine wpG_op rfl rfl rfl ?_; intro K hK; go_big_quiet_op; go_big_quiet_on)
      (refine wpG_op rfl rfl rfl ?_; intro K hK; go_big_quiet_op; go_big_quiet_on)
      (refine wpG_op rfl rfl rfl ?_; intro K hK; go_big_quiet_op; go_big_quiet_on)
      (refine wpG_val (v := .bool false) rfl rfl (fun u hu => geZ_op u C5.out rfl rfl) ?_ hw25; intro K hK; go_big_quiet_op; go_big_quiet_on)
      (refine wpG_op rfl rfl rfl ?_; intro K hK; go_big_quiet_op; go_big_quiet_on)
      (refine wpG_op rfl rfl rfl ?_; intro K hK; go_big_quiet_op; go_big_quiet_on)
      (refine wpG_op rfl rfl rfl ?_; intro K hK; go_big_quiet_op; go_big_quiet_on)
      (refine wpG_op rfl rfl rfl ?_; intro K hK; go_big_quiet_op; go_big_quiet_on)
      (refine wpG_op rfl rfl rfl ?_; intro K hK; go_big_quiet_op; go_big_quiet_on)
      (refine wpG_val (v := .int .u64 q) rfl rfl (fun u hu => convIU_op u CQ.out rfl) ?_ hw25; intro K hK; go_big_quiet_op; go_big_quiet_on)
      (refine wpG_op rfl rfl rfl ?_; intro K hK; go_big_quiet_op; go_big_quiet_on)
      (refine wpG_val (v := .bool true) rfl rfl (fun u hu => geU_op u C13.out rfl rfl) ?_ hw25; intro K hK; go_big_quiet_op; go_big_quiet_on)
      (refine wpG_op rfl rfl rfl ?_; intro K hK; go_big_quiet_op; go_big_quiet_on)
      (refine wpG_op rfl rfl rfl ?_; intro K hK; go_big_quiet_op; go_big_quiet_on)
      clear hone hw25
      refine wpG_nil ?_
      intro u27 E2'
      have EX26 := Lib.hid E2'
      clear E2'
      have HBE := Lib.hid (HB1.out.trans ((EnvX.bel EX26.out).mono HB1.out.size))
      go_wp2
      go_ret
      exact ⟨rfl, HBE.out⟩
    have C13 : Hid (decide ((k : Int) ≤ q) = false) := decide_eq_false c13
    obtain ⟨n, rfl⟩ := Int.eq_ofNat_of_zero_le (show 0 ≤ q by omega)
    have HMF : Hid (mayH (nonceAt h n) = false) := H0.out n (by omega)
    have HADD : Hid (IntKind.u64.wrap ((h.nonce : Int) + (n : Int)) = ((nonceAt h n).nonce : Int)) := by
      show _ = _
      have e : (nonceAt h n).nonce = (h.nonce + n) % 18446744073709551616 := rfl
      rw [e, IntKind.wrap_u64]
      omega
    have HLN : Hid (lenH (nonceAt h n)) := HL.out
    clear c1 c5 c13
    go_upto_region 10 with (fail)
    refine wp_region_Hx (w0 := w1) [0, 1, 2, 3, 4, 5, 6, 7, 8, 9, 10, 11, 12, 13, 14, 15] [(g10, Obj.cells (hdA h) 29 (0, 0)), (g8, Obj.cells (hdA (nonceAt h k)) 29 (0, 0)), (w.heap.size, Obj.cells (hdA h) 29 (0, 0))] rfl EX23.out ?_
    refine lexH_phase [0, 1, 2, 3, 4, 5, 6, 7, 8, 9, 10, 11, 12, 13, 14, 15] [] ?_
    have hw25 : EnvX w1 _ [(g10, Obj.cells (hdA h) 29 (0, 0)), (g8, Obj.cells (hdA (nonceAt h k)) 29 (0, 0)), (w.heap.size, Obj.cells (hdA h) 29 (0, 0))] := EX23.out
    have hone := @EnvC.one _ _ _ hw25
    (refine wpG_op rfl rfl rfl ?_; intro K hK; go_big_quiet_op; go_big_quiet_on)
    (refine wpG_val (v := .bool false) rfl rfl (fun u hu => ltZ_op u C1.out rfl rfl) ?_ hw25; intro K hK; go_big_quiet_op; go_big_quiet_on)
    (refine wpG_op rfl rfl rfl ?_; intro K hK; go_big_quiet_op; go_big_quiet_on)
    (refine wpG_op rfl rfl rfl ?_; intro K hK; go_big_quiet_op; go_big_quiet_on)
    (refine wpG_op rfl rfl rfl ?_; intro K hK; go_big_quiet_op; go_big_quiet_on)
    (refine wpG_val (v := .bool false) rfl rfl (fun u hu => geZ_op u C5.out rfl rfl) ?_ hw25; intro K hK; go_big_quiet_op; go_big_quiet_on)
    (refine wpG_op rfl rfl rfl ?_; intro K hK; go_big_quiet_op; go_big_quiet_on)
    (refine wpG_op rfl rfl rfl ?_; intro K hK; go_big_quiet_op; go_big_quiet_on)
    (refine wpG_op rfl rfl rfl ?_; intro K hK; go_big_quiet_op; go_big_quiet_on)
    (refine wpG_op rfl rfl rfl ?_; intro K hK; go_big_quiet_op; go_big_quiet_on)
    (refine wpG_op rfl rfl rfl ?_; intro K hK; go_big_quiet_op; go_big_quiet_on)
    (refine wpG_val (v := .int .u64 (n : Int)) rfl rfl (fun u hu => convIU_op u CQ.out rfl) ?_ hw25; intro K hK; go_big_quiet_op; go_big_quiet_on)
    (refine wpG_op rfl rfl rfl ?_; intro K hK; go_big_quiet_op; go_big_quiet_on)
    (refine wpG_val (v := .bool false) rfl rfl (fun u hu => geU_op u C13.out rfl rfl) ?_ hw25; intro K hK; go_big_quiet_op; go_big_quiet_on)
    (refine wpG_op rfl rfl rfl ?_; intro K hK; go_big_quiet_op; go_big_quiet_on)
    (refine wpG_op rfl rfl rfl ?_; intro K hK; go_big_quiet_op; go_big_quiet_on)
    clear hone hw25
    refine wpG_nil ?_
    intro u27 E2'
    have EX26 := Lib.hid E2'
    clear E2'
    go_upto_region 12 with (fail)
    refine wp_region_Hx (w0 := w1) [0, 1, 2, 3, 4, 5, 6] [(g10, Obj.cells (hdA h) 29 (0, 0)), (g8, Obj.cells (hdA (nonceAt h k)) 29 (0, 0)), (w.heap.size, Obj.cells (hdA h) 29 (0, 0))] rfl EX26.out ?_
    refine lexH_phase [0, 1, 2, 3, 4, 5] [6] ?_
    have hw28 : EnvX w1 _ [(g10, Obj.cells (hdA h) 29 (0, 0)), (g8, Obj.cells (hdA (nonceAt h k)) 29 (0, 0)), (w.heap.size, Obj.cells (hdA h) 29 (0, 0))] := EX26.out
    have hone := @EnvC.one _ _ _ hw28
    (refine wpG_op rfl rfl rfl ?_; intro K hK; go_big_quiet_op; go_big_quiet_on)
    (refine wpG_val (v := .int .u64 (h.nonce : Int)) rfl rfl (fun u hu => load_any_op u (box_hd_nonce hu (List.Mem.tail _ (List.Mem.tail _ (List.Mem.head _))) HL.out) rfl) ?_ hw28; intro K hK; go_big_quiet_op; go_big_quiet_on)
    (refine wpG_op rfl rfl rfl ?_; intro K hK; go_big_quiet_op; go_big_quiet_on)
    (refine wpG_val (v := .int .u64 (n : Int)) rfl rfl (fun u hu => convIU_op u CQ.out rfl) ?_ hw28; intro K hK; go_big_quiet_op; go_big_quiet_on)
    (refine wpG_val (v := .int .u64 ((nonceAt h n).nonce : Int)) rfl rfl (fun u hu => addU_op u HADD.out rfl rfl) ?_ hw28; intro K hK; go_big_quiet_op; go_big_quiet_on)
    (refine wpG_op rfl rfl rfl ?_; intro K hK; go_big_quiet_op; go_big_quiet_on)
    clear hone hw28
    refine wpG_nil ?_
    refine (hOp_putAt rfl (g10) (134) (.int .u64 ((nonceAt h n).nonce : Int)) rfl rfl HG10.out.1 29 ((hdA h)) (hdA (nonceAt h n)) (List.Mem.head _) infoU64 (by rw [hdA_size HL.out]; exact Nat.le_refl _) (by simp [Value.cells]; rfl) (put_nonce HL.out rfl) [(g10, Obj.cells (hdA (nonceAt h n)) 29 (0, 0)), (g8, Obj.cells (hdA (nonceAt h k)) 29 (0, 0)), (w.heap.size, Obj.cells (hdA h) 29 (0, 0))] (List.forall_mem_cons.2 ⟨.inl rfl, fun y hy => .inr ⟨List.mem_cons_of_mem _ hy, HG10.out.2 y hy⟩⟩) ?_)
    intro he29
    intro u31 E2'
    have EX30 := Lib.hid E2'
    clear E2'
    go_upto_region 13 with (fail)
    refine wp_region_Hx (w0 := w1) [0, 1, 2, 3] [(g10, Obj.cells (hdA (nonceAt h n)) 29 (0, 0)), (g8, Obj.cells (hdA (nonceAt h k)) 29 (0, 0)), (w.heap.size, Obj.cells (hdA h) 29 (0, 0))] rfl EX30.out ?_
    refine lexH_phase [0, 1, 2, 3] [] ?_
    have hw32 : EnvX w1 _ [(g10, Obj.cells (hdA (nonceAt h n)) 29 (0, 0)), (g8, Obj.cells (hdA (nonceAt h k)) 29 (0, 0)), (w.heap.size, Obj.cells (hdA h) 29 (0, 0))] := EX30.out
    have hone := @EnvC.one _ _ _ hw32
    (refine wpG_val (v := hdV (nonceAt h n)) rfl rfl (fun u hu => load_any_op u (box_hd hu (List.Mem.head _) HLN.out) rfl) ?_ hw32; intro K hK; go_big_quiet_op; go_big_quiet_on)
    (refine wpG_call (f := 23) (args := #[hdV (nonceAt h n)]) (v := .bool false) rfl rfl rfl Tryd.func23 rfl rfl (fun u hu => HMY.out _ false u (okHd_nonce HOK.out n) HMF.out (HT1.out.below (EnvX.bel hu))) ?_ hw32; intro K hK; go_big_quiet_op; go_big_quiet_on)
    (refine wpG_op rfl rfl rfl ?_; intro K hK; go_big_quiet_op; go_big_quiet_on)
    (refine wpG_op rfl rfl rfl ?_; intro K hK; go_big_quiet_op; go_big_quiet_on)
    clear hone hw32
    refine wpG_nil ?_
    intro u34 E2'
    have EX33 := Lib.hid E2'
    clear E2'
    have HBE := Lib.hid (HB1.out.trans ((EnvX.bel EX33.out).mono HB1.out.size))
    go_wp2
    go_ret
    exact ⟨rfl, HBE.out⟩
set_option maxRecDepth 20000 in
set_option maxHeartbeats 8000000 in
theorem law_mines_no (H : HeadC) (h : Hd) (tries q : Int) (w : World) (hh : okHd h) (htr : I64 tries) (hq : I64 q) (ht : Tables w) (h30 : ¬ 30 < tries) (h0 : ∀ j, j < (min tries 200).toNat → mayH (nonceAt h j) = false) :
    Calls Tryd.prog 6 #[hdV h, .int .i64 tries, .int .i64 q] w fun e w' => e = .returned (.bool true) ∧ Below w.heap.size w w' := by
  obtain ⟨k, hk0⟩ : ∃ k : Nat, k = 0 := ⟨0, rfl⟩
  have HL := Lib.hid hh.len
  have HLM : Hid (lenH h) := hh.len
  have HOK := Lib.hid hh
  have C30 : Hid (decide (30 < tries) = false) := decide_eq_false h30
  have HMI : Hid (∀ u, Tables u → Calls Tryd.prog 14 #[hdV h, .int .i64 tries] u fun e w' => e = .returned (.tuple #[hdV h, .bool false]) ∧ Below u.heap.size u w') := fun u hu => by
    have h2 := H.mine h tries u hh htr hu
    rwa [mine_none h0] at h2
  have HSB : Hid (IntKind.u64.wrap ((h.nonce : Int) - (h.nonce : Int)) = (k : Int)) := by
    show _ = _
    have hn := hh.2.2.2.2.2.2.2
    rw [hk0]
    rw [IntKind.wrap_u64]
    omega
  have HEE : Hid ((!eqH h h) = false) := by show _ = _; simp [eqH]
  have HN0 := Lib.hid (nonce_zero hh)
  have HOM : Hid (okHd h) := hh
  have HMY : Hid (∀ (g : Hd) (b : Bool) (u : World), okHd g → mayH g = b → Tables u → Calls Tryd.prog 23 #[hdV g] u fun e w' => e = .returned (.bool b) ∧ Below u.heap.size u w') := fun g b u hg e hu => by
    have h2 := H.may g u hg hu
    rwa [e] at h2
  have H0 := Lib.hid h0
  have HTR := Lib.hid (And.intro h30 (And.intro htr hq))
  have HK0 := Lib.hid hk0
  clear hk0
  have E0 : Hid (EnvX w (w.alloc (.cells (hdA h) 29)) [(w.heap.size, Obj.cells (hdA h) 29 (0, 0))]) := (EnvX.start w).new _
  have HAW := Lib.hid (hawake_any H (w.alloc (.cells (hdA h) 29)) (ht.below (EnvX.bel E0.out)))
  have HT := Lib.hid ht
  have HH := Lib.hid H
  clear ht H hh h0 h30 htr hq
  unfold hdV
  go_enter Tryd.func6, Tryd.ntmps6
  go_upto_region 1 with (fail)
  generalize (w.alloc (.cells (hdA h) 29)) = W at *
  go_wp2_with fail
  refine HAW.out.mono ?_
  rintro e w1 ⟨rfl, hb1⟩
  have HB1 := Lib.hid (EnvX.below E0.out hb1).bel
  have E1 : Hid (EnvX w1 w1 [(w.heap.size, Obj.cells (hdA h) 29 (0, 0))]) := ⟨Below.refl _ _, (EnvX.below E0.out hb1).box⟩
  have HT1 := Lib.hid (HT.out.below HB1.out)
  clear hb1 E0 HAW
  go_upto_region 2 with (fail)
  refine wp_region_Hx (w0 := w1) [0, 1, 2, 3, 4, 5] [(w.heap.size, Obj.cells (hdA h) 29 (0, 0))] rfl E1.out ?_
  refine lexH_phase [0, 1, 2, 3, 4, 5] [] ?_
  have hw1 : EnvX w1 _ [(w.heap.size, Obj.cells (hdA h) 29 (0, 0))] := E1.out
  have hone := @EnvC.one _ _ _ hw1
  (refine wpG_op rfl rfl rfl ?_; intro K hK; go_big_quiet_op; go_big_quiet_on)
  (refine wpG_op rfl rfl rfl ?_; intro K hK; go_big_quiet_op; go_big_quiet_on)
  (refine wpG_op rfl rfl rfl ?_; intro K hK; go_big_quiet_op; go_big_quiet_on)
  (refine wpG_op rfl rfl rfl ?_; intro K hK; go_big_quiet_op; go_big_quiet_on)
  (refine wpG_val (v := .bool false) rfl rfl (fun u hu => gtZ_op u C30.out rfl rfl) ?_ hw1; intro K hK; go_big_quiet_op; go_big_quiet_on)
  (refine wpG_op rfl rfl rfl ?_; intro K hK; go_big_quiet_op; go_big_quiet_on)
  clear hone hw1
  refine wpG_nil ?_
  intro u3 E2'
  have EX2 := Lib.hid E2'
  clear E2'
  go_upto_region 4 with (fail)
  refine wp_region_Hx (w0 := w1) [0, 1, 2, 3, 4, 5, 6, 7, 8] [(w.heap.size, Obj.cells (hdA h) 29 (0, 0))] rfl EX2.out ?_
  refine lexH_phase [0, 1, 2, 3, 4, 5] [6, 7, 8] ?_
  have hw4 : EnvX w1 _ [(w.heap.size, Obj.cells (hdA h) 29 (0, 0))] := EX2.out
  have hone := @EnvC.one _ _ _ hw4
  (refine wpG_val (v := hdV h) rfl rfl (fun u hu => load_any_op u (box_hd hu (List.Mem.head _) HL.out) rfl) ?_ hw4; intro K hK; go_big_quiet_op; go_big_quiet_on)
  (refine wpG_op rfl rfl rfl ?_; intro K hK; go_big_quiet_op; go_big_quiet_on)
  (refine wpG_call (f := 14) (args := #[hdV h, .int .i64 tries]) (v := .tuple #[hdV h, .bool false]) rfl rfl rfl Tryd.func14 rfl rfl (fun u hu => HMI.out u (HT1.out.below (EnvX.bel hu))) ?_ hw4; intro K hK; go_big_quiet_op; go_big_quiet_on)
  (refine wpG_op rfl rfl rfl ?_; intro K hK; go_big_quiet_op; go_big_quiet_on)
  (refine wpG_op rfl rfl rfl ?_; intro K hK; go_big_quiet_op; go_big_quiet_on)
  (refine wpG_op rfl rfl rfl ?_; intro K hK; go_big_quiet_op; go_big_quiet_on)
  clear hone hw4
  refine wpG_nil ?_
  refine (hOp_fresh (R := fun x N => ∃ g, x = .pointer (some ⟨g, 0, none⟩) ∧ N = [(g, Obj.cells (hdA noHd) 29 (0, 0))]) (M0 := [(w.heap.size, Obj.cells (hdA h) 29 (0, 0))]) rfl rfl (fun _ h => h) (fun u hu => FAt_new (new_hd _) u) ?_)
  rintro _ _ ⟨g8, rfl, rfl⟩ hf he5; intro K' hK'; go_big_quiet_op; go_big_quiet_on
  have HG8 := Lib.hid (hf _ (List.mem_singleton.2 rfl))
  clear hf
  change lexH _ _ _ _ _ _ [(g8, Obj.cells (hdA noHd) 29 (0, 0)), (w.heap.size, Obj.cells (hdA h) 29 (0, 0))]
  refine (hOp_store rfl (g8) (hdA h) rfl rfl HG8.out.1 29 ((hdA noHd)) (List.Mem.head _) (infoHd _ (hdA_size HLM.out)) ((hdA_size (show lenH noHd from ⟨rfl, rfl, rfl, rfl⟩)).trans (hdA_size HLM.out).symm) (hdA_one _) [(g8, Obj.cells (hdA h) 29 (0, 0)), (w.heap.size, Obj.cells (hdA h) 29 (0, 0))] (List.forall_mem_cons.2 ⟨.inl rfl, fun y hy => .inr ⟨List.mem_cons_of_mem _ hy, HG8.out.2 y hy⟩⟩) ?_)
  intro he6
  refine lexH_phase [8] [] ?_
  have hw7 : EnvX w1 _ [(g8, Obj.cells (hdA h) 29 (0, 0)), (w.heap.size, Obj.cells (hdA h) 29 (0, 0))] := he6.choose_spec
  have hone := @EnvC.one _ _ _ hw7
  (refine wpG_op rfl rfl rfl ?_; intro K hK; go_big_quiet_op; go_big_quiet_on)
  clear hone hw7
  refine wpG_nil ?_
  intro u9 E2'
  have EX8 := Lib.hid E2'
  clear E2'
  go_upto_region 5 with (fail)
  refine wp_region_Hx (w0 := w1) [0, 1, 2] [(g8, Obj.cells (hdA h) 29 (0, 0)), (w.heap.size, Obj.cells (hdA h) 29 (0, 0))] rfl EX8.out ?_
  refine lexH_phase [0] [1, 2] ?_
  have hw10 : EnvX w1 _ [(g8, Obj.cells (hdA h) 29 (0, 0)), (w.heap.size, Obj.cells (hdA h) 29 (0, 0))] := EX8.out
  have hone := @EnvC.one _ _ _ hw10
  (refine wpG_val (v := hdV h) rfl rfl (fun u hu => load_any_op u (box_hd hu (List.Mem.head _) HLM.out) rfl) ?_ hw10; intro K hK; go_big_quiet_op; go_big_quiet_on)
  clear hone hw10
  refine wpG_nil ?_
  refine (hOp_fresh (R := fun x N => ∃ g, x = .pointer (some ⟨g, 0, none⟩) ∧ N = [(g, Obj.cells (hdA noHd) 29 (0, 0))]) (M0 := [(g8, Obj.cells (hdA h) 29 (0, 0)), (w.heap.size, Obj.cells (hdA h) 29 (0, 0))]) rfl rfl (fun _ h => h) (fun u hu => FAt_new (new_hd _) u) ?_)
  rintro _ _ ⟨g10, rfl, rfl⟩ hf he11; intro K' hK'; go_big_quiet_op; go_big_quiet_on
  have HG10 := Lib.hid (hf _ (List.mem_singleton.2 rfl))
  clear hf
  change lexH _ _ _ _ _ _ [(g10, Obj.cells (hdA noHd) 29 (0, 0)), (g8, Obj.cells (hdA h) 29 (0, 0)), (w.heap.size, Obj.cells (hdA h) 29 (0, 0))]
  refine (hOp_store rfl (g10) (hdA h) rfl rfl HG10.out.1 29 ((hdA noHd)) (List.Mem.head _) (infoHd _ (hdA_size HLM.out)) ((hdA_size (show lenH noHd from ⟨rfl, rfl, rfl, rfl⟩)).trans (hdA_size HLM.out).symm) (hdA_one _) [(g10, Obj.cells (hdA h) 29 (0, 0)), (g8, Obj.cells (hdA h) 29 (0, 0)), (w.heap.size, Obj.cells (hdA h) 29 (0, 0))] (List.forall_mem_cons.2 ⟨.inl rfl, fun y hy => .inr ⟨List.mem_cons_of_mem _ hy, HG10.out.2 y hy⟩⟩) ?_)
  intro he12
  intro u14 E2'
  have EX13 := Lib.hid E2'
  clear E2'
  go_upto_region 6 with (fail)
  refine wp_region_Hx (w0 := w1) [0, 1, 2, 3] [(g10, Obj.cells (hdA h) 29 (0, 0)), (g8, Obj.cells (hdA h) 29 (0, 0)), (w.heap.size, Obj.cells (hdA h) 29 (0, 0))] rfl EX13.out ?_
  refine lexH_phase [0, 1, 2] [3] ?_
  have hw15 : EnvX w1 _ [(g10, Obj.cells (hdA h) 29 (0, 0)), (g8, Obj.cells (hdA h) 29 (0, 0)), (w.heap.size, Obj.cells (hdA h) 29 (0, 0))] := EX13.out
  have hone := @EnvC.one _ _ _ hw15
  (refine wpG_op rfl rfl rfl ?_; intro K hK; go_big_quiet_op; go_big_quiet_on)
  (refine wpG_val (v := .int .u64 (h.nonce : Int)) rfl rfl (fun u hu => load_any_op u (box_hd_nonce hu (List.Mem.tail _ (List.Mem.tail _ (List.Mem.head _))) HL.out) rfl) ?_ hw15; intro K hK; go_big_quiet_op; go_big_quiet_on)
  (refine wpG_op rfl rfl rfl ?_; intro K hK; go_big_quiet_op; go_big_quiet_on)
  clear hone hw15
  refine wpG_nil ?_
  refine (hOp_putAt rfl (g10) (134) (.int .u64 (h.nonce : Int)) rfl rfl HG10.out.1 29 ((hdA h)) (hdA h) (List.Mem.head _) infoU64 (by rw [hdA_size HLM.out]; exact Nat.le_refl _) (by simp [Value.cells]; rfl) (put_nonce HLM.out rfl) [(g10, Obj.cells (hdA h) 29 (0, 0)), (g8, Obj.cells (hdA h) 29 (0, 0)), (w.heap.size, Obj.cells (hdA h) 29 (0, 0))] (List.forall_mem_cons.2 ⟨.inl rfl, fun y hy => .inr ⟨List.mem_cons_of_mem _ hy, HG10.out.2 y hy⟩⟩) ?_)
  intro he16
  intro u18 E2'
  have EX17 := Lib.hid E2'
  clear E2'
  go_upto_region 7 with (fail)
  refine wp_region_Hx (w0 := w1) [0, 1, 2, 3, 4, 5] [(g10, Obj.cells (hdA h) 29 (0, 0)), (g8, Obj.cells (hdA h) 29 (0, 0)), (w.heap.size, Obj.cells (hdA h) 29 (0, 0))] rfl EX17.out ?_
  refine lexH_phase [0, 1, 2, 3, 4, 5] [] ?_
  have hw19 : EnvX w1 _ [(g10, Obj.cells (hdA h) 29 (0, 0)), (g8, Obj.cells (hdA h) 29 (0, 0)), (w.heap.size, Obj.cells (hdA h) 29 (0, 0))] := EX17.out
  have hone := @EnvC.one _ _ _ hw19
  (refine wpG_op rfl rfl rfl ?_; intro K hK; go_big_quiet_op; go_big_quiet_on)
  (refine wpG_val (v := .int .u64 (h.nonce : Int)) rfl rfl (fun u hu => load_any_op u (box_hd_nonce hu (List.Mem.tail _ (List.Mem.head _)) HLM.out) rfl) ?_ hw19; intro K hK; go_big_quiet_op; go_big_quiet_on)
  (refine wpG_op rfl rfl rfl ?_; intro K hK; go_big_quiet_op; go_big_quiet_on)
  (refine wpG_val (v := .int .u64 (h.nonce : Int)) rfl rfl (fun u hu => load_any_op u (box_hd_nonce hu (List.Mem.tail _ (List.Mem.tail _ (List.Mem.head _))) HL.out) rfl) ?_ hw19; intro K hK; go_big_quiet_op; go_big_quiet_on)
  (refine wpG_val (v := .int .u64 (k : Int)) rfl rfl (fun u hu => subU_op u HSB.out rfl rfl) ?_ hw19; intro K hK; go_big_quiet_op; go_big_quiet_on)
  (refine wpG_op rfl rfl rfl ?_; intro K hK; go_big_quiet_op; go_big_quiet_on)
  clear hone hw19
  refine wpG_nil ?_
  intro u21 E2'
  have EX20 := Lib.hid E2'
  clear E2'
  by_cases ctp : 0 < tries
  · have CTP : Hid (decide (0 < tries) = true) := decide_eq_true ctp
    have HMH : Hid (mayH h = false) := by
      have := H0.out 0 (by omega)
      rwa [HN0.out] at this
    clear ctp
    go_upto_region 8 with (fail)
    refine wp_region_Hx (w0 := w1) [0, 1, 2, 3, 4, 5, 6, 7, 8, 9, 10, 11, 12, 13, 14, 15, 16, 17, 18, 19, 20, 21, 22, 23, 24, 25, 26, 27, 28, 29, 30, 31, 32, 33, 34, 35, 36, 37, 38, 39, 40, 41, 42] [(g10, Obj.cells (hdA h) 29 (0, 0)), (g8, Obj.cells (hdA h) 29 (0, 0)), (w.heap.size, Obj.cells (hdA h) 29 (0, 0))] rfl EX20.out ?_
    refine lexH_phase [0, 1, 2, 3, 4, 5, 6, 7, 8, 9, 10, 11, 12, 13, 14, 15, 16, 17, 18, 19, 20, 21, 22, 23, 24, 25, 26, 27, 28, 29, 30, 31, 32, 33, 34, 35, 36, 37, 38, 39, 40, 41, 42] [] ?_
    have hw22 : EnvX w1 _ [(g10, Obj.cells (hdA h) 29 (0, 0)), (g8, Obj.cells (hdA h) 29 (0, 0)), (w.heap.size, Obj.cells (hdA h) 29 (0, 0))] := EX20.out
    have hone := @EnvC.one _ _ _ hw22
    (refine wpG_val (v := hdV h) rfl rfl (fun u hu => load_any_op u (box_hd hu (List.Mem.head _) HL.out) rfl) ?_ hw22; intro K hK; go_big_quiet_op; go_big_quiet_on)
    (refine wpG_val (v := hdV h) rfl rfl (fun u hu => load_any_op u (box_hd hu (List.Mem.tail _ (List.Mem.tail _ (List.Mem.head _))) HL.out) rfl) ?_ hw22; intro K hK; go_big_quiet_op; go_big_quiet_on)
    (refine wpG_val (v := .bool false) rfl rfl (fun u hu => neqHd_op HOK.out HOK.out HEE.out u rfl rfl) ?_ hw22; intro K hK; go_big_quiet_op; go_big_quiet_on)
    (refine wpG_op rfl rfl rfl ?_; intro K hK; go_big_quiet_op; go_big_quiet_on)
    (refine wpG_op rfl rfl rfl ?_; intro K hK; go_big_quiet_op; go_big_quiet_on)
    (refine wpG_op rfl rfl rfl ?_; intro K hK; go_big_quiet_op; go_big_quiet_on)
    (refine wpG_skip rfl rfl ?_ hw22; intro K hK; go_big_quiet_op; go_big_quiet_on)
    (refine wpG_skip rfl rfl ?_ hw22; intro K hK; go_big_quiet_op; go_big_quiet_on)
    (refine wpG_skip rfl rfl ?_ hw22; intro K hK; go_big_quiet_op; go_big_quiet_on)
    (refine wpG_skip rfl rfl ?_ hw22; intro K hK; go_big_quiet_op; go_big_quiet_on)
    (refine wpG_skip rfl rfl ?_ hw22; intro K hK; go_big_quiet_op; go_big_quiet_on)
    (refine wpG_skip rfl rfl ?_ hw22; intro K hK; go_big_quiet_op; go_big_quiet_on)
    (refine wpG_skip rfl rfl ?_ hw22; intro K hK; go_big_quiet_op; go_big_quiet_on)
    (refine wpG_skip rfl rfl ?_ hw22; intro K hK; go_big_quiet_op; go_big_quiet_on)
    (refine wpG_skip rfl rfl ?_ hw22; intro K hK; go_big_quiet_op; go_big_quiet_on)
    (refine wpG_op rfl rfl rfl ?_; intro K hK; go_big_quiet_op; go_big_quiet_on)
    (refine wpG_op rfl rfl rfl ?_; intro K hK; go_big_quiet_op; go_big_quiet_on)
    (refine wpG_op rfl rfl rfl ?_; intro K hK; go_big_quiet_op; go_big_quiet_on)
    (refine wpG_op rfl rfl rfl ?_; intro K hK; go_big_quiet_op; go_big_quiet_on)
    (refine wpG_op rfl rfl rfl ?_; intro K hK; go_big_quiet_op; go_big_quiet_on)
    (refine wpG_op rfl rfl rfl ?_; intro K hK; go_big_quiet_op; go_big_quiet_on)
    (refine wpG_val (v := hdV h) rfl rfl (fun u hu => load_any_op u (box_hd hu (List.Mem.tail _ (List.Mem.head _)) HL.out) rfl) ?_ hw22; intro K hK; go_big_quiet_op; go_big_quiet_on)
    (refine wpG_val (v := hdV h) rfl rfl (fun u hu => load_any_op u (box_hd hu (List.Mem.tail _ (List.Mem.tail _ (List.Mem.head _))) HL.out) rfl) ?_ hw22; intro K hK; go_big_quiet_op; go_big_quiet_on)
    (refine wpG_val (v := .bool false) rfl rfl (fun u hu => neqHd_op HOK.out HOK.out HEE.out u rfl rfl) ?_ hw22; intro K hK; go_big_quiet_op; go_big_quiet_on)
    (refine wpG_op rfl rfl rfl ?_; intro K hK; go_big_quiet_op; go_big_quiet_on)
    (refine wpG_op rfl rfl rfl ?_; intro K hK; go_big_quiet_op; go_big_quiet_on)
    (refine wpG_op rfl rfl rfl ?_; intro K hK; go_big_quiet_op; go_big_quiet_on)
    (refine wpG_op rfl rfl rfl ?_; intro K hK; go_big_quiet_op; go_big_quiet_on)
    (refine wpG_val (v := .bool true) rfl rfl (fun u hu => gtZ_op u CTP.out rfl rfl) ?_ hw22; intro K hK; go_big_quiet_op; go_big_quiet_on)
    (refine wpG_op rfl rfl rfl ?_; intro K hK; go_big_quiet_op; go_big_quiet_on)
    (refine wpG_val (v := hdV h) rfl rfl (fun u hu => load_any_op u (box_hd hu (List.Mem.tail _ (List.Mem.tail _ (List.Mem.head _))) HL.out) rfl) ?_ hw22; intro K hK; go_big_quiet_op; go_big_quiet_on)
    (refine wpG_call (f := 23) (args := #[hdV h]) (v := .bool false) rfl rfl rfl Tryd.func23 rfl rfl (fun u hu => HMY.out _ false u HOK.out HMH.out (HT1.out.below (EnvX.bel hu))) ?_ hw22; intro K hK; go_big_quiet_op; go_big_quiet_on)
    (refine wpG_op rfl rfl rfl ?_; intro K hK; go_big_quiet_op; go_big_quiet_on)
    (refine wpG_op rfl rfl rfl ?_; intro K hK; go_big_quiet_op; go_big_quiet_on)
    (refine wpG_skip rfl rfl ?_ hw22; intro K hK; go_big_quiet_op; go_big_quiet_on)
    (refine wpG_skip rfl rfl ?_ hw22; intro K hK; go_big_quiet_op; go_big_quiet_on)
    (refine wpG_skip rfl rfl ?_ hw22; intro K hK; go_big_quiet_op; go_big_quiet_on)
    (refine wpG_skip rfl rfl ?_ hw22; intro K hK; go_big_quiet_op; go_big_quiet_on)
    (refine wpG_skip rfl rfl ?_ hw22; intro K hK; go_big_quiet_op; go_big_quiet_on)
    (refine wpG_skip rfl rfl ?_ hw22; intro K hK; go_big_quiet_op; go_big_quiet_on)
    (refine wpG_skip rfl rfl ?_ hw22; intro K hK; go_big_quiet_op; go_big_quiet_on)
    (refine wpG_op rfl rfl rfl ?_; intro K hK; go_big_quiet_op; go_big_quiet_on)
    (refine wpG_op rfl rfl rfl ?_; intro K hK; go_big_quiet_op; go_big_quiet_on)
    clear hone hw22
    refine wpG_nil ?_
    intro u24 E2'
    have EX23 := Lib.hid E2'
    clear E2'
    by_cases c1 : q < 0
    · have C1 : Hid (decide (q < 0) = true) := decide_eq_true c1
      clear c1
      go_upto_region 10 with (fail)
      refine wp_region_Hx (w0 := w1) [0, 1, 2, 3, 4, 5, 6, 7, 8, 9, 10, 11, 12, 13, 14, 15] [(g10, Obj.cells (hdA h) 29 (0, 0)), (g8, Obj.cells (hdA h) 29 (0, 0)), (w.heap.size, Obj.cells (hdA h) 29 (0, 0))] rfl EX23.out ?_
      refine lexH_phase [0, 1, 2, 3, 4, 5, 6, 7, 8, 9, 10, 11, 12, 13, 14, 15] [] ?_
      have hw25 : EnvX w1 _ [(g10, Obj.cells (hdA h) 29 (0, 0)), (g8, Obj.cells (hdA h) 29 (0, 0)), (w.heap.size, Obj.cells (hdA h) 29 (0, 0))] := EX23.out
      have hone := @EnvC.one _ _ _ hw25
      (refine wpG_op rfl rfl rfl ?_; intro K hK; go_big_quiet_op; go_big_quiet_on)
      (refine wpG_val (v := .bool true) rfl rfl (fun u hu => ltZ_op u C1.out rfl rfl) ?_ hw25; intro K hK; go_big_quiet_op; go_big_quiet_on)
      (refine wpG_op rfl rfl rfl ?_; intro K hK; go_big_quiet_op; go_big_quiet_on)
      (refine wpG_skip rfl rfl ?_ hw25; intro K hK; go_big_quiet_op; go_big_quiet_on)
      (refine wpG_skip rfl rfl ?_ hw25; intro K hK; go_big_quiet_op; go_big_quiet_on)
      (refine wpG_skip rfl rfl ?_ hw25; intro K hK; go_big_quiet_op; go_big_quiet_on)
      (refine wpG_op rfl rfl rfl ?_; intro K hK; go_big_quiet_op; go_big_quiet_on)
      (refine wpG_op rfl rfl rfl ?_; intro K hK; go_big_quiet_op; go_big_quiet_on)
      (refine wpG_skip rfl rfl ?_ hw25; intro K hK; go_big_quiet_op; go_big_quiet_on)
      (refine wpG_skip rfl rfl ?_ hw25; intro K hK; go_big_quiet_op; go_big_quiet_on)
      (refine wpG_skip rfl rfl ?_ hw25; intro K hK; go_big_quiet_op; go_big_quiet_on)
      (refine wpG_skip rfl rfl ?_ hw25; intro K hK; go_big_quiet_op; go_big_quiet_on)
      (refine wpG_skip rfl rfl ?_ hw25; intro K hK; go_big_quiet_op; go_big_quiet_on)
      (refine wpG_skip rfl rfl ?_ hw25; intro K hK; go_big_quiet_op; go_big_quiet_on)
      (refine wpG_skip rfl rfl ?_ hw25; intro K hK; go_big_quiet_op; go_big_quiet_on)
      (refine wpG_op rfl rfl rfl ?_; intro K hK; go_big_quiet_op; go_big_quiet_on)
      clear hone hw25
      refine wpG_nil ?_
      intro u27 E2'
      have EX26 := Lib.hid E2'
      clear E2'
      have HBE := Lib.hid (HB1.out.trans ((EnvX.bel EX26.out).mono HB1.out.size))
      go_wp2
      go_ret
      exact ⟨rfl, HBE.out⟩
    have C1 : Hid (decide (q < 0) = false) := decide_eq_false c1
    by_cases c5 : tries ≤ q
    · have C5 : Hid (decide (tries ≤ q) = true) := decide_eq_true c5
      clear c1 c5
      go_upto_region 10 with (fail)
      refine wp_region_Hx (w0 := w1) [0, 1, 2, 3, 4, 5, 6, 7, 8, 9, 10, 11, 12, 13, 14, 15] [(g10, Obj.cells (hdA h) 29 (0, 0)), (g8, Obj.cells (hdA h) 29 (0, 0)), (w.heap.size, Obj.cells (hdA h) 29 (0, 0))] rfl EX23.out ?_
      refine lexH_phase [0, 1, 2, 3, 4, 5, 6, 7, 8, 9, 10, 11, 12, 13, 14, 15] [] ?_
      have hw25 : EnvX w1 _ [(g10, Obj.cells (hdA h) 29 (0, 0)), (g8, Obj.cells (hdA h) 29 (0, 0)), (w.heap.size, Obj.cells (hdA h) 29 (0, 0))] := EX23.out
      have hone := @EnvC.one _ _ _ hw25
      (refine wpG_op rfl rfl rfl ?_; intro K hK; go_big_quiet_op; go_big_quiet_on)
      (refine wpG_val (v := .bool false) rfl rfl (fun u hu => ltZ_op u C1.out rfl rfl) ?_ hw25; intro K hK; go_big_quiet_op; go_big_quiet_on)
      (refine wpG_op rfl rfl rfl ?_; intro K hK; go_big_quiet_op; go_big_quiet_on)
      (refine wpG_op rfl rfl rfl ?_; intro K hK; go_big_quiet_op; go_big_quiet_on)
      (refine wpG_op rfl rfl rfl ?_; intro K hK; go_big_quiet_op; go_big_quiet_on)
      (refine wpG_val (v := .bool true) rfl rfl (fun u hu => geZ_op u C5.out rfl rfl) ?_ hw25; intro K hK; go_big_quiet_op; go_big_quiet_on)
      (refine wpG_op rfl rfl rfl ?_; intro K hK; go_big_quiet_op; go_big_quiet_on)
      (refine wpG_op rfl rfl rfl ?_; intro K hK; go_big_quiet_op; go_big_quiet_on)
      (refine wpG_skip rfl rfl ?_ hw25; intro K hK; go_big_quiet_op; go_big_quiet_on)
      (refine wpG_skip rfl rfl ?_ hw25; intro K hK; go_big_quiet_op; go_big_quiet_on)
      (refine wpG_skip rfl rfl ?_ hw25; intro K hK; go_big_quiet_op; go_big_quiet_on)
      (refine wpG_skip rfl rfl ?_ hw25; intro K hK; go_big_quiet_op; go_big_quiet_on)
      (refine wpG_skip rfl rfl ?_ hw25; intro K hK; go_big_quiet_op; go_big_quiet_on)
      (refine wpG_skip rfl rfl ?_ hw25; intro K hK; go_big_quiet_op; go_big_quiet_on)
      (refine wpG_skip rfl rfl ?_ hw25; intro K hK; go_big_quiet_op; go_big_quiet_on)
      (refine wpG_op rfl rfl rfl ?_; intro K hK; go_big_quiet_op; go_big_quiet_on)
      clear hone hw25
      refine wpG_nil ?_
      intro u27 E2'
      have EX26 := Lib.hid E2'
      clear E2'
      have HBE := Lib.hid (HB1.out.trans ((EnvX.bel EX26.out).mono HB1.out.size))
      go_wp2
      go_ret
      exact ⟨rfl, HBE.out⟩
    have C5 : Hid (decide (tries ≤ q) = false) := decide_eq_false c5
    have CQ : Hid (IntKind.u64.wrap q = q) := by show _ = _; have := HTR.out; unfold I64 at this; rw [IntKind.wrap_u64]; omega
    obtain ⟨n, rfl⟩ := Int.eq_ofNat_of_zero_le (show 0 ≤ q by omega)
    have HMF : Hid (mayH (nonceAt h n) = false) := H0.out n (by have := HTR.out.1; omega)
    have HADD : Hid (IntKind.u64.wrap ((h.nonce : Int) + (n : Int)) = ((nonceAt h n).nonce : Int)) := by
      show _ = _
      have e : (nonceAt h n).nonce = (h.nonce + n) % 18446744073709551616 := rfl
      rw [e, IntKind.wrap_u64]
      omega
    have HLN : Hid (lenH (nonceAt h n)) := HL.out
    clear c1 c5
    go_upto_region 10 with (fail)
    refine wp_region_Hx (w0 := w1) [0, 1, 2, 3, 4, 5, 6, 7, 8, 9, 10, 11, 12, 13, 14, 15] [(g10, Obj.cells (hdA h) 29 (0, 0)), (g8, Obj.cells (hdA h) 29 (0, 0)), (w.heap.size, Obj.cells (hdA h) 29 (0, 0))] rfl EX23.out ?_
    refine lexH_phase [0, 1, 2, 3, 4, 5, 6, 7, 8, 9, 10, 11, 12, 13, 14, 15] [] ?_
    have hw25 : EnvX w1 _ [(g10, Obj.cells (hdA h) 29 (0, 0)), (g8, Obj.cells (hdA h) 29 (0, 0)), (w.heap.size, Obj.cells (hdA h) 29 (0, 0))] := EX23.out
    have hone := @EnvC.one _ _ _ hw25
    (refine wpG_op rfl rfl rfl ?_; intro K hK; go_big_quiet_op; go_big_quiet_on)
    (refine wpG_val (v := .bool false) rfl rfl (fun u hu => ltZ_op u C1.out rfl rfl) ?_ hw25; intro K hK; go_big_quiet_op; go_big_quiet_on)
    (refine wpG_op rfl rfl rfl ?_; intro K hK; go_big_quiet_op; go_big_quiet_on)
    (refine wpG_op rfl rfl rfl ?_; intro K hK; go_big_quiet_op; go_big_quiet_on)
    (refine wpG_op rfl rfl rfl ?_; intro K hK; go_big_quiet_op; go_big_quiet_on)
    (refine wpG_val (v := .bool false) rfl rfl (fun u hu => geZ_op u C5.out rfl rfl) ?_ hw25; intro K hK; go_big_quiet_op; go_big_quiet_on)
    (refine wpG_op rfl rfl rfl ?_; intro K hK; go_big_quiet_op; go_big_quiet_on)
    (refine wpG_op rfl rfl rfl ?_; intro K hK; go_big_quiet_op; go_big_quiet_on)
    (refine wpG_op rfl rfl rfl ?_; intro K hK; go_big_quiet_op; go_big_quiet_on)
    (refine wpG_op rfl rfl rfl ?_; intro K hK; go_big_quiet_op; go_big_quiet_on)
    (refine wpG_skip rfl rfl ?_ hw25; intro K hK; go_big_quiet_op; go_big_quiet_on)
    (refine wpG_skip rfl rfl ?_ hw25; intro K hK; go_big_quiet_op; go_big_quiet_on)
    (refine wpG_skip rfl rfl ?_ hw25; intro K hK; go_big_quiet_op; go_big_quiet_on)
    (refine wpG_skip rfl rfl ?_ hw25; intro K hK; go_big_quiet_op; go_big_quiet_on)
    (refine wpG_op rfl rfl rfl ?_; intro K hK; go_big_quiet_op; go_big_quiet_on)
    (refine wpG_op rfl rfl rfl ?_; intro K hK; go_big_quiet_op; go_big_quiet_on)
    clear hone hw25
    refine wpG_nil ?_
    intro u27 E2'
    have EX26 := Lib.hid E2'
    clear E2'
    go_upto_region 12 with (fail)
    refine wp_region_Hx (w0 := w1) [0, 1, 2, 3, 4, 5, 6] [(g10, Obj.cells (hdA h) 29 (0, 0)), (g8, Obj.cells (hdA h) 29 (0, 0)), (w.heap.size, Obj.cells (hdA h) 29 (0, 0))] rfl EX26.out ?_
    refine lexH_phase [0, 1, 2, 3, 4, 5] [6] ?_
    have hw28 : EnvX w1 _ [(g10, Obj.cells (hdA h) 29 (0, 0)), (g8, Obj.cells (hdA h) 29 (0, 0)), (w.heap.size, Obj.cells (hdA h) 29 (0, 0))] := EX26.out
    have hone := @EnvC.one _ _ _ hw28
    (refine wpG_op rfl rfl rfl ?_; intro K hK; go_big_quiet_op; go_big_quiet_on)
    (refine wpG_val (v := .int .u64 (h.nonce : Int)) rfl rfl (fun u hu => load_any_op u (box_hd_nonce hu (List.Mem.tail _ (List.Mem.tail _ (List.Mem.head _))) HL.out) rfl) ?_ hw28; intro K hK; go_big_quiet_op; go_big_quiet_on)
    (refine wpG_op rfl rfl rfl ?_; intro K hK; go_big_quiet_op; go_big_quiet_on)
    (refine wpG_val (v := .int .u64 (n : Int)) rfl rfl (fun u hu => convIU_op u CQ.out rfl) ?_ hw28; intro K hK; go_big_quiet_op; go_big_quiet_on)
    (refine wpG_val (v := .int .u64 ((nonceAt h n).nonce : Int)) rfl rfl (fun u hu => addU_op u HADD.out rfl rfl) ?_ hw28; intro K hK; go_big_quiet_op; go_big_quiet_on)
    (refine wpG_op rfl rfl rfl ?_; intro K hK; go_big_quiet_op; go_big_quiet_on)
    clear hone hw28
    refine wpG_nil ?_
    refine (hOp_putAt rfl (g10) (134) (.int .u64 ((nonceAt h n).nonce : Int)) rfl rfl HG10.out.1 29 ((hdA h)) (hdA (nonceAt h n)) (List.Mem.head _) infoU64 (by rw [hdA_size HL.out]; exact Nat.le_refl _) (by simp [Value.cells]; rfl) (put_nonce HL.out rfl) [(g10, Obj.cells (hdA (nonceAt h n)) 29 (0, 0)), (g8, Obj.cells (hdA h) 29 (0, 0)), (w.heap.size, Obj.cells (hdA h) 29 (0, 0))] (List.forall_mem_cons.2 ⟨.inl rfl, fun y hy => .inr ⟨List.mem_cons_of_mem _ hy, HG10.out.2 y hy⟩⟩) ?_)
    intro he29
    intro u31 E2'
    have EX30 := Lib.hid E2'
    clear E2'
    go_upto_region 13 with (fail)
    refine wp_region_Hx (w0 := w1) [0, 1, 2, 3] [(g10, Obj.cells (hdA (nonceAt h n)) 29 (0, 0)), (g8, Obj.cells (hdA h) 29 (0, 0)), (w.heap.size, Obj.cells (hdA h) 29 (0, 0))] rfl EX30.out ?_
    refine lexH_phase [0, 1, 2, 3] [] ?_
    have hw32 : EnvX w1 _ [(g10, Obj.cells (hdA (nonceAt h n)) 29 (0, 0)), (g8, Obj.cells (hdA h) 29 (0, 0)), (w.heap.size, Obj.cells (hdA h) 29 (0, 0))] := EX30.out
    have hone := @EnvC.one _ _ _ hw32
    (refine wpG_val (v := hdV (nonceAt h n)) rfl rfl (fun u hu => load_any_op u (box_hd hu (List.Mem.head _) HLN.out) rfl) ?_ hw32; intro K hK; go_big_quiet_op; go_big_quiet_on)
    (refine wpG_call (f := 23) (args := #[hdV (nonceAt h n)]) (v := .bool false) rfl rfl rfl Tryd.func23 rfl rfl (fun u hu => HMY.out _ false u (okHd_nonce HOK.out n) HMF.out (HT1.out.below (EnvX.bel hu))) ?_ hw32; intro K hK; go_big_quiet_op; go_big_quiet_on)
    (refine wpG_op rfl rfl rfl ?_; intro K hK; go_big_quiet_op; go_big_quiet_on)
    (refine wpG_op rfl rfl rfl ?_; intro K hK; go_big_quiet_op; go_big_quiet_on)
    clear hone hw32
    refine wpG_nil ?_
    intro u34 E2'
    have EX33 := Lib.hid E2'
    clear E2'
    have HBE := Lib.hid (HB1.out.trans ((EnvX.bel EX33.out).mono HB1.out.size))
    go_wp2
    go_ret
    exact ⟨rfl, HBE.out⟩
  · have CTP : Hid (decide (0 < tries) = false) := decide_eq_false ctp
    clear ctp
    go_upto_region 8 with (fail)
    refine wp_region_Hx (w0 := w1) [0, 1, 2, 3, 4, 5, 6, 7, 8, 9, 10, 11, 12, 13, 14, 15, 16, 17, 18, 19, 20, 21, 22, 23, 24, 25, 26, 27, 28, 29, 30, 31, 32, 33, 34, 35, 36, 37, 38, 39, 40, 41, 42] [(g10, Obj.cells (hdA h) 29 (0, 0)), (g8, Obj.cells (hdA h) 29 (0, 0)), (w.heap.size, Obj.cells (hdA h) 29 (0, 0))] rfl EX20.out ?_
    refine lexH_phase [0, 1, 2, 3, 4, 5, 6, 7, 8, 9, 10, 11, 12, 13, 14, 15, 16, 17, 18, 19, 20, 21, 22, 23, 24, 25, 26, 27, 28, 29, 30, 31, 32, 33, 34, 35, 36, 37, 38, 39, 40, 41, 42] [] ?_
    have hw22 : EnvX w1 _ [(g10, Obj.cells (hdA h) 29 (0, 0)), (g8, Obj.cells (hdA h) 29 (0, 0)), (w.heap.size, Obj.cells (hdA h) 29 (0, 0))] := EX20.out
    have hone := @EnvC.one _ _ _ hw22
    (refine wpG_val (v := hdV h) rfl rfl (fun u hu => load_any_op u (box_hd hu (List.Mem.head _) HL.out) rfl) ?_ hw22; intro K hK; go_big_quiet_op; go_big_quiet_on)
    (refine wpG_val (v := hdV h) rfl rfl (fun u hu => load_any_op u (box_hd hu (List.Mem.tail _ (List.Mem.tail _ (List.Mem.head _))) HL.out) rfl) ?_ hw22; intro K hK; go_big_quiet_op; go_big_quiet_on)
    (refine wpG_val (v := .bool false) rfl rfl (fun u hu => neqHd_op HOK.out HOK.out HEE.out u rfl rfl) ?_ hw22; intro K hK; go_big_quiet_op; go_big_quiet_on)
    (refine wpG_op rfl rfl rfl ?_; intro K hK; go_big_quiet_op; go_big_quiet_on)
    (refine wpG_op rfl rfl rfl ?_; intro K hK; go_big_quiet_op; go_big_quiet_on)
    (refine wpG_op rfl rfl rfl ?_; intro K hK; go_big_quiet_op; go_big_quiet_on)
    (refine wpG_skip rfl rfl ?_ hw22; intro K hK; go_big_quiet_op; go_big_quiet_on)
    (refine wpG_skip rfl rfl ?_ hw22; intro K hK; go_big_quiet_op; go_big_quiet_on)
    (refine wpG_skip rfl rfl ?_ hw22; intro K hK; go_big_quiet_op; go_big_quiet_on)
    (refine wpG_skip rfl rfl ?_ hw22; intro K hK; go_big_quiet_op; go_big_quiet_on)
    (refine wpG_skip rfl rfl ?_ hw22; intro K hK; go_big_quiet_op; go_big_quiet_on)
    (refine wpG_skip rfl rfl ?_ hw22; intro K hK; go_big_quiet_op; go_big_quiet_on)
    (refine wpG_skip rfl rfl ?_ hw22; intro K hK; go_big_quiet_op; go_big_quiet_on)
    (refine wpG_skip rfl rfl ?_ hw22; intro K hK; go_big_quiet_op; go_big_quiet_on)
    (refine wpG_skip rfl rfl ?_ hw22; intro K hK; go_big_quiet_op; go_big_quiet_on)
    (refine wpG_op rfl rfl rfl ?_; intro K hK; go_big_quiet_op; go_big_quiet_on)
    (refine wpG_op rfl rfl rfl ?_; intro K hK; go_big_quiet_op; go_big_quiet_on)
    (refine wpG_op rfl rfl rfl ?_; intro K hK; go_big_quiet_op; go_big_quiet_on)
    (refine wpG_op rfl rfl rfl ?_; intro K hK; go_big_quiet_op; go_big_quiet_on)
    (refine wpG_op rfl rfl rfl ?_; intro K hK; go_big_quiet_op; go_big_quiet_on)
    (refine wpG_op rfl rfl rfl ?_; intro K hK; go_big_quiet_op; go_big_quiet_on)
    (refine wpG_val (v := hdV h) rfl rfl (fun u hu => load_any_op u (box_hd hu (List.Mem.tail _ (List.Mem.head _)) HL.out) rfl) ?_ hw22; intro K hK; go_big_quiet_op; go_big_quiet_on)
    (refine wpG_val (v := hdV h) rfl rfl (fun u hu => load_any_op u (box_hd hu (List.Mem.tail _ (List.Mem.tail _ (List.Mem.head _))) HL.out) rfl) ?_ hw22; intro K hK; go_big_quiet_op; go_big_quiet_on)
    (refine wpG_val (v := .bool false) rfl rfl (fun u hu => neqHd_op HOK.out HOK.out HEE.out u rfl rfl) ?_ hw22; intro K hK; go_big_quiet_op; go_big_quiet_on)
    (refine wpG_op rfl rfl rfl ?_; intro K hK; go_big_quiet_op; go_big_quiet_on)
    (refine wpG_op rfl rfl rfl ?_; intro K hK; go_big_quiet_op; go_big_quiet_on)
    (refine wpG_op rfl rfl rfl ?_; intro K hK; go_big_quiet_op; go_big_quiet_on)
    (refine wpG_op rfl rfl rfl ?_; intro K hK; go_big_quiet_op; go_big_quiet_on)
    (refine wpG_val (v := .bool false) rfl rfl (fun u hu => gtZ_op u CTP.out rfl rfl) ?_ hw22; intro K hK; go_big_quiet_op; go_big_quiet_on)
    (refine wpG_op rfl rfl rfl ?_; intro K hK; go_big_quiet_op; go_big_quiet_on)
    (refine wpG_skip rfl rfl ?_ hw22; intro K hK; go_big_quiet_op; go_big_quiet_on)
    (refine wpG_skip rfl rfl ?_ hw22; intro K hK; go_big_quiet_op; go_big_quiet_on)
    (refine wpG_op rfl rfl rfl ?_; intro K hK; go_big_quiet_op; go_big_quiet_on)
    (refine wpG_op rfl rfl rfl ?_; intro K hK; go_big_quiet_op; go_big_quiet_on)
    (refine wpG_skip rfl rfl ?_ hw22; intro K hK; go_big_quiet_op; go_big_quiet_on)
    (refine wpG_skip rfl rfl ?_ hw22; intro K hK; go_big_quiet_op; go_big_quiet_on)
    (refine wpG_skip rfl rfl ?_ hw22; intro K hK; go_big_quiet_op; go_big_quiet_on)
    (refine wpG_skip rfl rfl ?_ hw22; intro K hK; go_big_quiet_op; go_big_quiet_on)
    (refine wpG_skip rfl rfl ?_ hw22; intro K hK; go_big_quiet_op; go_big_quiet_on)
    (refine wpG_skip rfl rfl ?_ hw22; intro K hK; go_big_quiet_op; go_big_quiet_on)
    (refine wpG_skip rfl rfl ?_ hw22; intro K hK; go_big_quiet_op; go_big_quiet_on)
    (refine wpG_op rfl rfl rfl ?_; intro K hK; go_big_quiet_op; go_big_quiet_on)
    (refine wpG_op rfl rfl rfl ?_; intro K hK; go_big_quiet_op; go_big_quiet_on)
    clear hone hw22
    refine wpG_nil ?_
    intro u24 E2'
    have EX23 := Lib.hid E2'
    clear E2'
    by_cases c1 : q < 0
    · have C1 : Hid (decide (q < 0) = true) := decide_eq_true c1
      clear c1
      go_upto_region 10 with (fail)
      refine wp_region_Hx (w0 := w1) [0, 1, 2, 3, 4, 5, 6, 7, 8, 9, 10, 11, 12, 13, 14, 15] [(g10, Obj.cells (hdA h) 29 (0, 0)), (g8, Obj.cells (hdA h) 29 (0, 0)), (w.heap.size, Obj.cells (hdA h) 29 (0, 0))] rfl EX23.out ?_
      refine lexH_phase [0, 1, 2, 3, 4, 5, 6, 7, 8, 9, 10, 11, 12, 13, 14, 15] [] ?_
      have hw25 : EnvX w1 _ [(g10, Obj.cells (hdA h) 29 (0, 0)), (g8, Obj.cells (hdA h) 29 (0, 0)), (w.heap.size, Obj.cells (hdA h) 29 (0, 0))] := EX23.out
      have hone := @EnvC.one _ _ _ hw25
      (refine wpG_op rfl rfl rfl ?_; intro K hK; go_big_quiet_op; go_big_quiet_on)
      (refine wpG_val (v := .bool true) rfl rfl (fun u hu => ltZ_op u C1.out rfl rfl) ?_ hw25; intro K hK; go_big_quiet_op; go_big_quiet_on)
      (refine wpG_op rfl rfl rfl ?_; intro K hK; go_big_quiet_op; go_big_quiet_on)
      (refine wpG_skip rfl rfl ?_ hw25; intro K hK; go_big_quiet_op; go_big_quiet_on)
      (refine wpG_skip rfl rfl ?_ hw25; intro K hK; go_big_quiet_op; go_big_quiet_on)
      (refine wpG_skip rfl rfl ?_ hw25; intro K hK; go_big_quiet_op; go_big_quiet_on)
      (refine wpG_op rfl rfl rfl ?_; intro K hK; go_big_quiet_op; go_big_quiet_on)
      (refine wpG_op rfl rfl rfl ?_; intro K hK; go_big_quiet_op; go_big_quiet_on)
      (refine wpG_skip rfl rfl ?_ hw25; intro K hK; go_big_quiet_op; go_big_quiet_on)
      (refine wpG_skip rfl rfl ?_ hw25; intro K hK; go_big_quiet_op; go_big_quiet_on)
      (refine wpG_skip rfl rfl ?_ hw25; intro K hK; go_big_quiet_op; go_big_quiet_on)
      (refine wpG_skip rfl rfl ?_ hw25; intro K hK; go_big_quiet_op; go_big_quiet_on)
      (refine wpG_skip rfl rfl ?_ hw25; intro K hK; go_big_quiet_op; go_big_quiet_on)
      (refine wpG_skip rfl rfl ?_ hw25; intro K hK; go_big_quiet_op; go_big_quiet_on)
      (refine wpG_skip rfl rfl ?_ hw25; intro K hK; go_big_quiet_op; go_big_quiet_on)
      (refine wpG_op rfl rfl rfl ?_; intro K hK; go_big_quiet_op; go_big_quiet_on)
      clear hone hw25
      refine wpG_nil ?_
      intro u27 E2'
      have EX26 := Lib.hid E2'
      clear E2'
      have HBE := Lib.hid (HB1.out.trans ((EnvX.bel EX26.out).mono HB1.out.size))
      go_wp2
      go_ret
      exact ⟨rfl, HBE.out⟩
    have C1 : Hid (decide (q < 0) = false) := decide_eq_false c1
    by_cases c5 : tries ≤ q
    · have C5 : Hid (decide (tries ≤ q) = true) := decide_eq_true c5
      clear c1 c5
      go_upto_region 10 with (fail)
      refine wp_region_Hx (w0 := w1) [0, 1, 2, 3, 4, 5, 6, 7, 8, 9, 10, 11, 12, 13, 14, 15] [(g10, Obj.cells (hdA h) 29 (0, 0)), (g8, Obj.cells (hdA h) 29 (0, 0)), (w.heap.size, Obj.cells (hdA h) 29 (0, 0))] rfl EX23.out ?_
      refine lexH_phase [0, 1, 2, 3, 4, 5, 6, 7, 8, 9, 10, 11, 12, 13, 14, 15] [] ?_
      have hw25 : EnvX w1 _ [(g10, Obj.cells (hdA h) 29 (0, 0)), (g8, Obj.cells (hdA h) 29 (0, 0)), (w.heap.size, Obj.cells (hdA h) 29 (0, 0))] := EX23.out
      have hone := @EnvC.one _ _ _ hw25
      (refine wpG_op rfl rfl rfl ?_; intro K hK; go_big_quiet_op; go_big_quiet_on)
      (refine wpG_val (v := .bool false) rfl rfl (fun u hu => ltZ_op u C1.out rfl rfl) ?_ hw25; intro K hK; go_big_quiet_op; go_big_quiet_on)
      (refine wpG_op rfl rfl rfl ?_; intro K hK; go_big_quiet_op; go_big_quiet_on)
      (refine wpG_op rfl rfl rfl ?_; intro K hK; go_big_quiet_op; go_big_quiet_on)
      (refine wpG_op rfl rfl rfl ?_; intro K hK; go_big_quiet_op; go_big_quiet_on)
      (refine wpG_val (v := .bool true) rfl rfl (fun u hu => geZ_op u C5.out rfl rfl) ?_ hw25; intro K hK; go_big_quiet_op; go_big_quiet_on)
      (refine wpG_op rfl rfl rfl ?_; intro K hK; go_big_quiet_op; go_big_quiet_on)
      (refine wpG_op rfl rfl rfl ?_; intro K hK; go_big_quiet_op; go_big_quiet_on)
      (refine wpG_skip rfl rfl ?_ hw25; intro K hK; go_big_quiet_op; go_big_quiet_on)
      (refine wpG_skip rfl rfl ?_ hw25; intro K hK; go_big_quiet_op; go_big_quiet_on)
      (refine wpG_skip rfl rfl ?_ hw25; intro K hK; go_big_quiet_op; go_big_quiet_on)
      (refine wpG_skip rfl rfl ?_ hw25; intro K hK; go_big_quiet_op; go_big_quiet_on)
      (refine wpG_skip rfl rfl ?_ hw25; intro K hK; go_big_quiet_op; go_big_quiet_on)
      (refine wpG_skip rfl rfl ?_ hw25; intro K hK; go_big_quiet_op; go_big_quiet_on)
      (refine wpG_skip rfl rfl ?_ hw25; intro K hK; go_big_quiet_op; go_big_quiet_on)
      (refine wpG_op rfl rfl rfl ?_; intro K hK; go_big_quiet_op; go_big_quiet_on)
      clear hone hw25
      refine wpG_nil ?_
      intro u27 E2'
      have EX26 := Lib.hid E2'
      clear E2'
      have HBE := Lib.hid (HB1.out.trans ((EnvX.bel EX26.out).mono HB1.out.size))
      go_wp2
      go_ret
      exact ⟨rfl, HBE.out⟩
    have C5 : Hid (decide (tries ≤ q) = false) := decide_eq_false c5
    have CQ : Hid (IntKind.u64.wrap q = q) := by show _ = _; have := HTR.out; unfold I64 at this; rw [IntKind.wrap_u64]; omega
    obtain ⟨n, rfl⟩ := Int.eq_ofNat_of_zero_le (show 0 ≤ q by omega)
    have HMF : Hid (mayH (nonceAt h n) = false) := H0.out n (by have := HTR.out.1; omega)
    have HADD : Hid (IntKind.u64.wrap ((h.nonce : Int) + (n : Int)) = ((nonceAt h n).nonce : Int)) := by
      show _ = _
      have e : (nonceAt h n).nonce = (h.nonce + n) % 18446744073709551616 := rfl
      rw [e, IntKind.wrap_u64]
      omega
    have HLN : Hid (lenH (nonceAt h n)) := HL.out
    clear c1 c5
    go_upto_region 10 with (fail)
    refine wp_region_Hx (w0 := w1) [0, 1, 2, 3, 4, 5, 6, 7, 8, 9, 10, 11, 12, 13, 14, 15] [(g10, Obj.cells (hdA h) 29 (0, 0)), (g8, Obj.cells (hdA h) 29 (0, 0)), (w.heap.size, Obj.cells (hdA h) 29 (0, 0))] rfl EX23.out ?_
    refine lexH_phase [0, 1, 2, 3, 4, 5, 6, 7, 8, 9, 10, 11, 12, 13, 14, 15] [] ?_
    have hw25 : EnvX w1 _ [(g10, Obj.cells (hdA h) 29 (0, 0)), (g8, Obj.cells (hdA h) 29 (0, 0)), (w.heap.size, Obj.cells (hdA h) 29 (0, 0))] := EX23.out
    have hone := @EnvC.one _ _ _ hw25
    (refine wpG_op rfl rfl rfl ?_; intro K hK; go_big_quiet_op; go_big_quiet_on)
    (refine wpG_val (v := .bool false) rfl rfl (fun u hu => ltZ_op u C1.out rfl rfl) ?_ hw25; intro K hK; go_big_quiet_op; go_big_quiet_on)
    (refine wpG_op rfl rfl rfl ?_; intro K hK; go_big_quiet_op; go_big_quiet_on)
    (refine wpG_op rfl rfl rfl ?_; intro K hK; go_big_quiet_op; go_big_quiet_on)
    (refine wpG_op rfl rfl rfl ?_; intro K hK; go_big_quiet_op; go_big_quiet_on)
    (refine wpG_val (v := .bool false) rfl rfl (fun u hu => geZ_op u C5.out rfl rfl) ?_ hw25; intro K hK; go_big_quiet_op; go_big_quiet_on)
    (refine wpG_op rfl rfl rfl ?_; intro K hK; go_big_quiet_op; go_big_quiet_on)
    (refine wpG_op rfl rfl rfl ?_; intro K hK; go_big_quiet_op; go_big_quiet_on)
    (refine wpG_op rfl rfl rfl ?_; intro K hK; go_big_quiet_op; go_big_quiet_on)
    (refine wpG_op rfl rfl rfl ?_; intro K hK; go_big_quiet_op; go_big_quiet_on)
    (refine wpG_skip rfl rfl ?_ hw25; intro K hK; go_big_quiet_op; go_big_quiet_on)
    (refine wpG_skip rfl rfl ?_ hw25; intro K hK; go_big_quiet_op; go_big_quiet_on)
    (refine wpG_skip rfl rfl ?_ hw25; intro K hK; go_big_quiet_op; go_big_quiet_on)
    (refine wpG_skip rfl rfl ?_ hw25; intro K hK; go_big_quiet_op; go_big_quiet_on)
    (refine wpG_op rfl rfl rfl ?_; intro K hK; go_big_quiet_op; go_big_quiet_on)
    (refine wpG_op rfl rfl rfl ?_; intro K hK; go_big_quiet_op; go_big_quiet_on)
    clear hone hw25
    refine wpG_nil ?_
    intro u27 E2'
    have EX26 := Lib.hid E2'
    clear E2'
    go_upto_region 12 with (fail)
    refine wp_region_Hx (w0 := w1) [0, 1, 2, 3, 4, 5, 6] [(g10, Obj.cells (hdA h) 29 (0, 0)), (g8, Obj.cells (hdA h) 29 (0, 0)), (w.heap.size, Obj.cells (hdA h) 29 (0, 0))] rfl EX26.out ?_
    refine lexH_phase [0, 1, 2, 3, 4, 5] [6] ?_
    have hw28 : EnvX w1 _ [(g10, Obj.cells (hdA h) 29 (0, 0)), (g8, Obj.cells (hdA h) 29 (0, 0)), (w.heap.size, Obj.cells (hdA h) 29 (0, 0))] := EX26.out
    have hone := @EnvC.one _ _ _ hw28
    (refine wpG_op rfl rfl rfl ?_; intro K hK; go_big_quiet_op; go_big_quiet_on)
    (refine wpG_val (v := .int .u64 (h.nonce : Int)) rfl rfl (fun u hu => load_any_op u (box_hd_nonce hu (List.Mem.tail _ (List.Mem.tail _ (List.Mem.head _))) HL.out) rfl) ?_ hw28; intro K hK; go_big_quiet_op; go_big_quiet_on)
    (refine wpG_op rfl rfl rfl ?_; intro K hK; go_big_quiet_op; go_big_quiet_on)
    (refine wpG_val (v := .int .u64 (n : Int)) rfl rfl (fun u hu => convIU_op u CQ.out rfl) ?_ hw28; intro K hK; go_big_quiet_op; go_big_quiet_on)
    (refine wpG_val (v := .int .u64 ((nonceAt h n).nonce : Int)) rfl rfl (fun u hu => addU_op u HADD.out rfl rfl) ?_ hw28; intro K hK; go_big_quiet_op; go_big_quiet_on)
    (refine wpG_op rfl rfl rfl ?_; intro K hK; go_big_quiet_op; go_big_quiet_on)
    clear hone hw28
    refine wpG_nil ?_
    refine (hOp_putAt rfl (g10) (134) (.int .u64 ((nonceAt h n).nonce : Int)) rfl rfl HG10.out.1 29 ((hdA h)) (hdA (nonceAt h n)) (List.Mem.head _) infoU64 (by rw [hdA_size HL.out]; exact Nat.le_refl _) (by simp [Value.cells]; rfl) (put_nonce HL.out rfl) [(g10, Obj.cells (hdA (nonceAt h n)) 29 (0, 0)), (g8, Obj.cells (hdA h) 29 (0, 0)), (w.heap.size, Obj.cells (hdA h) 29 (0, 0))] (List.forall_mem_cons.2 ⟨.inl rfl, fun y hy => .inr ⟨List.mem_cons_of_mem _ hy, HG10.out.2 y hy⟩⟩) ?_)
    intro he29
    intro u31 E2'
    have EX30 := Lib.hid E2'
    clear E2'
    go_upto_region 13 with (fail)
    refine wp_region_Hx (w0 := w1) [0, 1, 2, 3] [(g10, Obj.cells (hdA (nonceAt h n)) 29 (0, 0)), (g8, Obj.cells (hdA h) 29 (0, 0)), (w.heap.size, Obj.cells (hdA h) 29 (0, 0))] rfl EX30.out ?_
    refine lexH_phase [0, 1, 2, 3] [] ?_
    have hw32 : EnvX w1 _ [(g10, Obj.cells (hdA (nonceAt h n)) 29 (0, 0)), (g8, Obj.cells (hdA h) 29 (0, 0)), (w.heap.size, Obj.cells (hdA h) 29 (0, 0))] := EX30.out
    have hone := @EnvC.one _ _ _ hw32
    (refine wpG_val (v := hdV (nonceAt h n)) rfl rfl (fun u hu => load_any_op u (box_hd hu (List.Mem.head _) HLN.out) rfl) ?_ hw32; intro K hK; go_big_quiet_op; go_big_quiet_on)
    (refine wpG_call (f := 23) (args := #[hdV (nonceAt h n)]) (v := .bool false) rfl rfl rfl Tryd.func23 rfl rfl (fun u hu => HMY.out _ false u (okHd_nonce HOK.out n) HMF.out (HT1.out.below (EnvX.bel hu))) ?_ hw32; intro K hK; go_big_quiet_op; go_big_quiet_on)
    (refine wpG_op rfl rfl rfl ?_; intro K hK; go_big_quiet_op; go_big_quiet_on)
    (refine wpG_op rfl rfl rfl ?_; intro K hK; go_big_quiet_op; go_big_quiet_on)
    clear hone hw32
    refine wpG_nil ?_
    intro u34 E2'
    have EX33 := Lib.hid E2'
    clear E2'
    have HBE := Lib.hid (HB1.out.trans ((EnvX.bel EX33.out).mono HB1.out.size))
    go_wp2
    go_ret
    exact ⟨rfl, HBE.out⟩
theorem law_mines (H : HeadC) (h : Hd) (tries q : Int) (w : World) (hh : okHd h) (htr : I64 tries) (hq : I64 q) (ht : Tables w) :
    Calls Tryd.prog 6 #[hdV h, .int .i64 tries, .int .i64 q] w fun e w' => e = .returned (.bool true) ∧ Below w.heap.size w w' := by
  by_cases h30 : 30 < tries
  · exact law_mines_many H h tries q w hh htr hq ht h30
  · rcases least_of (fun k => mayH (nonceAt h k)) (min tries 200).toNat with ⟨k, hk, h1, h0⟩ | h0
    · exact law_mines_yes H h tries q w hh htr hq ht h30 k hk h0 h1
    · exact law_mines_no H h tries q w hh htr hq ht h30 h0
end Go.Proofs.YtmpjgfecnnefeaaDoor

namespace Go.Proofs.YtmpjgfecnnefeaaDoor.headMines
set_option maxRecDepth 8000
open Go.ChangeShapes Go.WideShapes Go.ChangeAt Go.RowKit

theorem contract (H : Type) (enc : TypeId × Value → H) (W : World) (base : Nat) (args : Array Value) (ds gs : List (DataW H)) (before : List MemPlace)
    (hval : ∀ (j : Nat) t v, Tryd.f6.params[j]? = some t → args[j]? = some v → Value.okWide Tryd.prog W .any base t v)
    (hW : DataW.Whole enc Tryd.prog Tryd.f6.params.toList Rows.headMinesSpec.vars false W args.toList ds gs before) (hL : laidMetH Tryd.prog Rows.headMinesRow.laid W) :
    Calls Tryd.prog 6 args W fun e W' => ∃ v, e = .returned v ∧ Rows.headMinesSpec.post enc Tryd.prog Tryd.f6 false true false false W args v W' := by
  have hW' := hW
  obtain ⟨p, q, hA0, hV, rfl, hfz, hnd⟩ := hW
  have hA : DataW.TrodAll enc Tryd.prog W 0 (fun _ => true) true Tryd.f6.params.toList args.toList ds p := hA0
  rw [Tryd.params6] at hA hval
  obtain ⟨v0, vs0, d0, ds0, p0, q0, hargs, rfl, rfl, h0, r0⟩ := trodAll_cons hA
  obtain ⟨v1, vs1, d1, ds1, p1, q1, rfl, rfl, rfl, h1, r1⟩ := trodAll_cons r0
  obtain ⟨v2, vs2, d2, ds2, p2, q2, rfl, rfl, rfl, h2, r2⟩ := trodAll_cons r1
  obtain ⟨rfl, rfl, rfl⟩ := trodAll_nil r2
  obtain rfl : args = #[v0, v1, v2] := by cases args; simp_all
  obtain ⟨rfl, rfl⟩ := trodVars_none hV
  have lt0 : ∀ x ∈ p0, x.block < W.heap.size := by obtain ⟨m, hm⟩ := h0; exact DataW.trod_lt m _ _ _ hm
  obtain ⟨x0, rfl, kx0⟩ := open_head (hval 0 29 v0 rfl rfl) h0
  obtain ⟨x1, rfl, rfl, rfl, wx1⟩ := open_int Tryd.underlying3 (hval 1 3 v1 rfl rfl) h1
  obtain ⟨x2, rfl, rfl, rfl, wx2⟩ := open_int Tryd.underlying3 (hval 2 3 v2 rfl rfl) h2
  clear hA0
  refine (law_mines headC x0 x1 x2 W kx0 (bounds_i64 wx1) (bounds_i64 wx2) (tables_of_laid hL)).mono fun e W' ⟨he, bel⟩ => ?_
  subst he
  exact ⟨_, rfl, _, _, _, [], _, [], hW', trodAll_mk1 (shut_bool Tryd.underlying4 _), (trodAll_cons_mk (Below.trod laidOut (by kernel_rfl) (of_decide_eq_true (by kernel_rfl)) h0 bel lt0) (trodAll_cons_mk (shut_int Tryd.underlying3 wx1) (trodAll_cons_mk (shut_int Tryd.underlying3 wx2) trodAll_mk0))), rfl, bel.frame _, fun h => by cases h⟩

def start : Array Value := #[zeroH, .int .i64 0, .int .i64 0]
theorem reads (os : Os) {H : Type} (enc : TypeId × Value → H) : ∃ places, DataW.whole enc Tryd.prog ((laidWorld os).forCall (fun _ _ => 0) ⟨#[], start, []⟩).memory Tryd.f6.params.toList Rows.headMinesSpec.vars false start.toList 8 = some ([zeroHD, .lit (.int .i64 0), .lit (.int .i64 0)], [], places) :=
  ⟨[], by kernel_rfl⟩

set_option maxRecDepth 100000 in
theorem lifted (os : Os) (started : os.Started) (H : Type) (enc : TypeId × Value → H) (F : Stop.Interp) :
    ReturnsInHanded {} Tryd.checked os 6 .any ((OpenSpec.ofChange Rows.headMinesSpec).preRow enc Tryd.prog Tryd.f6 Rows.headMinesRow.domain false Rows.headMinesRow.laid) (((OpenSpec.ofChange Rows.headMinesSpec).at F).post enc Tryd.prog Tryd.f6 false true false false) := by
  obtain ⟨places, hx⟩ := reads os enc
  refine returnsInHanded_of_row (C := Tryd.checked) (s := OpenSpec.ofChange Rows.headMinesSpec) own started (by kernel_rfl) Tryd.func6
    (witness_row_at (enc := enc) (C := Tryd.checked) false (laidWorld os) start rfl (by kernel_rfl) (by kernel_rfl) (by kernel_rfl)
      (OpenSpec.preRow_of_cond 8 hx (by kernel_rfl) (fun k hk => by cases hk) (by kernel_rfl) (laidMet_of_run' 8 (by kernel_rfl) (by kernel_rfl)))) ?_
  intro W base args ds gs before hval hW _ _ _ hL _ _
  exact contract H enc W base args ds gs before hval hW hL

theorem said : Rows.HeadMinesSaid :=
  OpenClaim.holds_of_cond 6 Tryd.f6 rfl rfl rfl rfl rfl rfl rfl ⟨rfl, rfl, rfl, rfl, rfl⟩ rfl rfl rfl rfl rfl (by kernel_rfl) Tryd.func6 (by kernel_rfl)
    (of_decide_eq_true (by kernel_rfl)) (by unfold Func.isWrapper; first | (rw [if_pos (by decide +kernel)]; kernel_rfl) | (rw [if_neg (by decide +kernel)]; exact ⟨rfl, rfl⟩))
    (fun os started H enc _ F => by rw [OpenClaim.pre_eq_preRow]; exact lifted os started H enc F)

theorem plain (f : FuncId) (fn : Func) (hf : Tryd.pinned.checked.prog.funcNamed "stepladder/stepladderlaw08.HeadMines" = some f) (hfn : Tryd.pinned.checked.prog.funcs[f]? = some fn) :
    false = Tryd.pinned.checked.prog.looks [] ∧ ∀ (j : Nat) t, fn.params[j]? = some t → Tryd.pinned.checked.prog.wantsStandIn t = false := by
  obtain rfl : f = 6 := Option.some.inj ((show Tryd.prog.funcNamed "stepladder/stepladderlaw08.HeadMines" = some 6 by kernel_rfl).symm.trans hf) |>.symm
  obtain rfl : fn = Tryd.f6 := (Option.some.inj (Tryd.func6.symm.trans hfn)).symm
  refine ⟨by kernel_rfl, fun j t ht => ?_⟩
  rw [Tryd.params6] at ht
  have hm : t = 29 ∨ t = 3 ∨ t = 3 := by simpa using Array.mem_of_getElem? ht
  rcases hm with rfl | rfl | rfl
  · exact (show Tryd.prog.wantsStandIn 29 = false by kernel_rfl)
  · exact (show Tryd.prog.wantsStandIn 3 = false by kernel_rfl)
  · exact (show Tryd.prog.wantsStandIn 3 = false by kernel_rfl)
theorem card : Rows.HeadMinesCardSaid :=
  Claim7.holds_tied_plain_at .later [] _ _ _ _ said (fun _ h => by cases h) (by kernel_rfl) (fun _ h => by cases h) headMines_row_tie rfl ⟨rfl, rfl⟩ (by kernel_rfl) rfl plain (by kernel_rfl)

end Go.Proofs.YtmpjgfecnnefeaaDoor.headMines
