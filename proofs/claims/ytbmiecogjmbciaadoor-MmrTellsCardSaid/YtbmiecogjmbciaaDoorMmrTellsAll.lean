/-
  PROVED: the law stepladderlaw06.MmrTells answers true for every input, and leaves its arguments as they were.
  Conditions: the two package-level tables of package sha hold at the call what their initialisers lay; the card ties that to the text of the program (a pruned copy of the project: the packages that the roots of this seat load).
-/
import Derived.Test.YtbmiecogjmbciaaDoorCq
import Derived.Great.BuildSlice
import Derived.Maps.AppendAt
import Derived.Laws.MakeOwn
import Derived.Laws.Cells
import Derived.Laws.StructEq
namespace Go.Proofs.YtbmiecogjmbciaaDoor
set_option maxRecDepth 8000
open Go.RowKit

section
variable {a : Act} {dst : Option Tmp} {x : Operand} {ty ty' : TypeId} {pos : String} {after : Array Edge} {gd : Option (Nat × Bool)}
end
section
variable {st e : TypeId} {z bytes : Nat} {zero : Value}
theorem appR_op (T : ElemT st e z bytes zero) {w0 u : World} {M : Boxes} (M0 : Boxes) {N : Boxes} {n m c : Nat} {xs : List Value} {v : Value} {ys : List Value} {g : Nat} {t : TypeId} {a : Act} {dst : Option Tmp} {y x : Operand} {pos : String} {after : Array Edge} {gd : Option (Nat × Bool)}
    (hu : EnvX w0 u M) (hl : xs.length = n * z) (hy : ys.length = m * z) (h1 : ∀ u ∈ ys, u.oneCell' = true) (hF : FreshR e z n xs v N) (hN : ∀ y ∈ N, y ∈ M ∧ w0.heap.size ≤ y.1) (hg : (g, Obj.cells ys.toArray t (0, 0)) ∈ M) (hM0 : ∀ z ∈ M0, z ∈ M ∧ ∀ y ∈ N, z.1 ≠ y.1) (hs : n + m ≤ 2000000)
    (hyv : a.eval y = v) (hx : a.eval x = .slice (some ⟨g, 0, none⟩) m c) :
    ∃ v' u' M', (execOp a.eval ⟨dst, .call { callee := .builtin .append, args := #[y, x], argTypes := #[st, st] }, st, pos, after, gd⟩).run Tryd.prog u = .ok (.value v') u' ∧ EnvX w0 u' M' ∧ GrownR w0 e z (n + m) (xs ++ ys) M0 v' M' := by
  have hown : u.ownsRow w0.heap.size e z v n xs := hF.own hl (fun y hy => ⟨(hN y hy).2, hu.box _ _ (hN y hy).1⟩)
  have hcell : ∀ j c, ys[j]? = some c → u.cell? ((⟨g, 0, none⟩ : Addr).add j) = some c := by
    intro j c hc
    rw [Addr.add_mid, Nat.zero_add]
    exact box_cell hu hg (by simpa using hc)
  obtain ⟨v', u', hrun, hown', hgr, hob⟩ := appendR T (c := c) hown hy hcell h1 hs hu.bel.size
  obtain ⟨N', hF', hN'⟩ := fresh_of_own hown'
  refine ⟨v', u', N' ++ M0, ?_, ?_, N', rfl, hF', ?_⟩
  · unfold execOp
    simp only [resolve, invoke, builtin, Sem.run_bind, Sem.run_pure, Result.andThen_ok, List.map_toArray, List.map_cons, List.map_nil, hyv, hx, hrun]
  · have hbel : Below w0.heap.size u u' := below_of_grown hgr (fun r hr => (hown.lt r hr).1) hu.bel.size
    refine ⟨hu.bel.trans hbel, fun g' o hm => ?_⟩
    rcases List.mem_append.1 hm with e | e
    · exact (hN' _ e).2.1
    · have hin := hM0 _ e
      rw [hgr.block g' (hu.lt hin.1) (fun e2 => by
        obtain ⟨o2, ho2⟩ := hF.block g' e2.symm
        exact hin.2 _ ho2 rfl)]
      exact hu.box _ _ hin.1
  · intro y hy
    refine ⟨(hN' y hy).1, fun z hz e => ?_⟩
    have hb := (hN' y hy).2.2
    have hin := hM0 z hz
    rcases hob with h | h
    · obtain ⟨o2, ho2⟩ := hF.block y.1 (h.symm.trans hb)
      exact hin.2 _ ho2 e
    · have h1 := hu.lt (g := z.1) (o := z.2) hin.1
      have h2 : u.heap.size = y.1 := Option.some.inj (h.symm.trans hb)
      omega
end
end Go.Proofs.YtbmiecogjmbciaaDoor

namespace Go.Proofs.YtbmiecogjmbciaaDoor
set_option maxRecDepth 8000
open Go.RowKit

section
variable {w0 u : World} {M : Boxes} {g : Nat} {ty : TypeId} {t : Tot}
theorem box_totH (hu : EnvC w0 M u) (hm : (g, Obj.cells (totA t) ty (0, 0)) ∈ M) (h : len32 t) : (loadVar 24 ⟨g, 0, none⟩).run Tryd.prog u = .ok (idv t.h) u := by
  have := box_agg aggIdT (k := 0) hu hm _ (idA_list h) (totC_H h)
  rwa [agg_list] at this
end
end Go.Proofs.YtbmiecogjmbciaaDoor

namespace Go.Proofs.YtbmiecogjmbciaaDoor
set_option maxRecDepth 8000
open Go.RowKit

set_option maxRecDepth 20000 in
set_option maxHeartbeats 1000000 in
theorem rsides_any : ∀ (n i : Nat) (w : World), 1 ≤ n → n ≤ 1000000 → i < n →
    Calls Tryd.prog 40 #[.int .i64 n, .int .i64 i] w fun e w' => (∃ v, e = .returned v ∧ OwnF w' w.heap.size v (sidesT n i)) ∧ Below w.heap.size w w' := by
  intro n
  induction n using Nat.strongRecOn with
  | _ n ih =>
    intro i w h1 hn hi
    by_cases hone : n = 1
    · subst hone
      go_enter Tryd.func40, Tryd.ntmps40
      go_wp2
      go_ret
      exact ⟨⟨_, rfl, OwnF.nil _ _⟩, Below.refl _ _⟩
    · have h2 : 2 ≤ n := by omega
      have hne : ¬ (n : Int) = 1 := by omega
      obtain ⟨a, b, c, -⟩ := half_spec h2
      have HH := Lib.hid (rhalf_any n w h2 (by omega))
      by_cases hlow : i < halfT n
      · have HI := Lib.hid (ih (halfT n) b i w a (by omega) hlow)
        have hsl := Lib.hid (sides_low h2 hlow)
        have hlen : (sidesT (halfT n) i).length ≤ 1000000 := by
          have := sides_le (halfT n) (halfT n) i (Nat.le_of_lt Nat.lt_two_pow_self)
          omega
        generalize halfT n = k at *
        have hlow2 : (i : Int) < (k : Int) := by omega
        clear ih
        go_enter Tryd.func40, Tryd.ntmps40
        go_wp2_with fail
        refine HH.out.mono ?_
        rintro e w1 ⟨rfl, rfl⟩
        go_wp2_with fail
        refine HI.out.mono ?_
        rintro e w2 ⟨⟨v, rfl, hv⟩, hb⟩
        obtain ⟨v', w', hrun, hown, hb2⟩ := hv.append true hlen hb.size
        have HRUN := Lib.hid hrun
        have HO := Lib.hid hown
        have HB := Lib.hid (hb.trans hb2)
        clear hrun hown hb hb2 hv HH HI
        go_wp2_with (at_builtin; (with_reducible refine wpList_append_run (o := ⟨some 17, _, _, _, _, _⟩) ?_ (.tmp 15) (.tmp 16) ?_ ?_ ?_ ?_ HRUN.out ?_); (rfl); (rfl); (rfl); (rfl); (rfl))
        go_ret
        exact ⟨⟨_, rfl, by rw [hsl.out]; exact HO.out⟩, HB.out⟩
      · have HI := Lib.hid (ih (n - halfT n) (by omega) (i - halfT n) w (by omega) (by omega) (by omega))
        have hsl := Lib.hid (sides_high h2 hlow)
        have hlen : (sidesT (n - halfT n) (i - halfT n)).length ≤ 1000000 := by
          have := sides_le (n - halfT n) (n - halfT n) (i - halfT n) (Nat.le_of_lt Nat.lt_two_pow_self)
          omega
        generalize halfT n = k at *
        have hlow2 : ¬ (i : Int) < (k : Int) := by omega
        have e1 : ((n - k : Nat) : Int) = (n : Int) - (k : Int) := by omega
        have e2 : ((i - k : Nat) : Int) = (i : Int) - (k : Int) := by omega
        rw [e1, e2] at HI
        clear ih e1 e2
        go_enter Tryd.func40, Tryd.ntmps40
        go_wp2_with fail
        refine HH.out.mono ?_
        rintro e w1 ⟨rfl, rfl⟩
        go_wp2_with fail
        refine HI.out.mono ?_
        rintro e w2 ⟨⟨v, rfl, hv⟩, hb⟩
        obtain ⟨v', w', hrun, hown, hb2⟩ := hv.append false hlen hb.size
        have HRUN := Lib.hid hrun
        have HO := Lib.hid hown
        have HB := Lib.hid (hb.trans hb2)
        clear hrun hown hb hb2 hv HH HI
        go_wp2_with (at_builtin; (with_reducible refine wpList_append_run (o := ⟨some 26, _, _, _, _, _⟩) ?_ (.tmp 24) (.tmp 25) ?_ ?_ ?_ ?_ HRUN.out ?_); (rfl); (rfl); (rfl); (rfl); (rfl))
        go_ret
        exact ⟨⟨_, rfl, by rw [hsl.out]; exact HO.out⟩, HB.out⟩
end Go.Proofs.YtbmiecogjmbciaaDoor

namespace Go.Proofs.YtbmiecogjmbciaaDoor
set_option maxRecDepth 8000
open Go.RowKit

set_option maxRecDepth 20000 in
set_option maxHeartbeats 4000000 in
theorem rmroot_any (p : List Tot) (A : Option Addr) (n c : Nat) (w : World) (hl : p.length = n) (hn : n ≤ 1000000) (hc : n ≤ c) (hcm : c ≤ maxLen) (hI : okTs p) (hA : TotsIn w w.heap.size A p) :
    Calls Tryd.prog 19 #[.slice A n c] w fun e w' => e = .returned (totV (rootP p)) ∧ Below w.heap.size w w' := by
  unfold totV
  have E1 : Hid (EnvX w (w.alloc (.cells (totA zTot) 29)) [(w.heap.size, Obj.cells (totA zTot) 29 (0, 0))]) := (EnvX.start w).new _
  by_cases h0 : n = 0
  · subst h0
    obtain rfl := List.eq_nil_of_length_eq_zero hl
    rw [show rootP [] = noTot from rfl]
    have HALL : Hid (∀ u, Calls Tryd.prog 28 #[.slice none 0 0] u fun e w' => e = .returned (.agg (totA noTot)) ∧ Below u.heap.size u w') := fun u => rmall_any 0 [] none 0 u rfl (by omega) (by omega) (by decide) (fun _ h => by cases h) (TotsIn.nil _ _ _)
    clear hI hA hl
    go_enter Tryd.func19, Tryd.ntmps19
    go_upto_region 2 with (fail)
    rw [zero_totA]
    generalize w.alloc (.cells (totA zTot) 29) = W at *
    refine wp_region_Hx (w0 := w) [0, 1] [(w.heap.size, Obj.cells (totA zTot) 29 (0, 0))] rfl E1.out ?_
    refine lexH_phase [0] [1] ?_
    have hw1 : EnvX w _ [(w.heap.size, Obj.cells (totA zTot) 29 (0, 0))] := E1.out
    have hone := @EnvC.one _ _ _ hw1
    (refine wpG_call (f := 28) (args := #[.slice none 0 0]) (v := .agg (totA noTot)) rfl rfl rfl Tryd.func28 rfl rfl (fun u hu => HALL.out u) ?_ hw1; intro K hK; go_big_quiet_op; go_big_quiet_on)
    clear hone hw1
    refine wpG_nil ?_
    refine (hOp_store rfl (w.heap.size) (totA (noTot)) rfl rfl (Nat.le_refl _) 29 ((totA zTot)) (List.Mem.head _) (infoTot _ (totA_size noTot_ok.len)) (zTot_size.trans (totA_size noTot_ok.len).symm) (totA_one _) [(w.heap.size, Obj.cells (totA (noTot)) 29 (0, 0))] (List.forall_mem_cons.2 ⟨.inl rfl, (fun _ h => by cases h)⟩) ?_)
    intro he2
    intro u4 E2'
    have EX3 := Lib.hid E2'
    clear E2'
    have Q0 := Lib.hid (EnvX.box EX3.out _ _ (List.Mem.head _))
    have HBEL := Lib.hid EX3.out.bel
    clear EX3
    go_wp2_with ((with_reducible refine bodyPost_ret (v := .agg (totA (noTot))) ?_ ?_ ?_); (exact results_cell_row (p := 2) (ty := 29) Tryd.results19 _ _ w.heap.size 29 (totA (noTot)) (0, 0) _ rfl Q0.out Tryd.underlying29 rfl (infoTot _ (totA_size noTot_ok.len))); (rfl))
    exact HBEL.out
  · obtain ⟨ad, rfl, -⟩ := hA.loads hI (k := 0) (by omega)
    have HLD : Hid (∀ k, k < n → ∀ u, EnvX w u [] → (loadVar 29 (ad.add (k * 37))).run Tryd.prog u = .ok (totV (p.getD k noTot)) u ∧ True) := fun k hk u hu => by
      obtain ⟨ad', e, h⟩ := hA.loads hI (k := k) (by omega)
      cases e
      exact ⟨(h u hu).1, trivial⟩
    have HOKs : Hid (∀ k, k < n → okT (p.getD k noTot)) := fun k hk => hI.get (by omega)
    have HRC : Hid (∀ k, k + 1 < n → rootP (p.drop k) = joinT (p.getD k noTot) (rootP (p.drop (k + 1)))) := fun k hk => by
      have h1 : k < p.length := by omega
      rw [List.drop_eq_getElem_cons h1, root_cons (fun h => by have := congrArg List.length h; rw [List.length_drop, List.length_nil] at this; omega), List.getD_eq_getElem?_getD, List.getElem?_eq_getElem h1]
      rfl
    have HRL : Hid (rootP (p.drop (n - 1)) = p.getD (n - 1) noTot) := by
      have h1 : n - 1 < p.length := by omega
      show _ = _
      rw [List.drop_eq_getElem_cons h1, List.drop_of_length_le (by omega), List.getD_eq_getElem?_getD, List.getElem?_eq_getElem h1]
      rfl
    have HN1 : Hid ((n : Int) - 1 = ((n - 1 : Nat) : Int) ∧ InI ((n - 1 : Nat) : Int)) := ⟨by omega, by unfold InI; omega⟩
    have HNX : Hid (n - 1 < n) := by show _ < _; omega
    have HNB : Hid (n < 9223372036854775808) := by show _ < _; omega
    have HOK := Lib.hid (HOKs.out (n - 1) (by omega))
    have h0' : ¬ (n : Int) = 0 := by omega
    clear hI hA hl
    go_enter Tryd.func19, Tryd.ntmps19
    go_upto_region 3 with (fail)
    rw [zero_totA]
    generalize w.alloc (.cells (totA zTot) 29) = W at *
    refine wp_region_Hx (w0 := w) [0, 1, 2, 3, 4, 5, 6, 7] [(w.heap.size, Obj.cells (totA zTot) 29 (0, 0))] rfl E1.out ?_
    refine lexH_phase [0, 1, 2, 3, 4, 5] [6, 7] ?_
    have hw1 : EnvX w _ [(w.heap.size, Obj.cells (totA zTot) 29 (0, 0))] := E1.out
    have hone := @EnvC.one _ _ _ hw1
    (refine wpG_op rfl rfl rfl ?_; intro K hK; go_big_quiet_op; go_big_quiet_on)
    (refine wpG_op rfl rfl rfl ?_; intro K hK; go_big_quiet_op; go_big_quiet_on)
    (refine wpG_val (v := .int .i64 n) rfl rfl (fun u hu => len_op Tryd.underlying22 HNB.out u rfl) ?_ hw1; intro K hK; go_big_quiet_op; go_big_quiet_on)
    (refine wpG_val (v := .int .i64 ((n - 1 : Nat) : Int)) rfl rfl (fun u hu => sub_op u HN1.out.1 HN1.out.2 rfl rfl) ?_ hw1; intro K hK; go_big_quiet_op; go_big_quiet_on)
    (refine wpG_val (v := .pointer (some (ad.add ((n - 1) * 37)))) rfl rfl (fun u hu => idxSl_op Tryd.underlying22 aggTot.size HNX.out u rfl rfl) ?_ hw1; intro K hK; go_big_quiet_op; go_big_quiet_on)
    (refine wpG_val (v := .agg (totA (p.getD (n - 1) noTot))) rfl rfl (fun u hu => load_any_op u (HLD.out (n - 1) HNX.out u (EnvX.sub hu (fun _ h => by cases h))).1 rfl) ?_ hw1; intro K hK; go_big_quiet_op; go_big_quiet_on)
    clear hone hw1
    refine wpG_nil ?_
    refine (hOp_fresh (R := fun x N => ∃ g, x = .pointer (some ⟨g, 0, none⟩) ∧ N = [(g, Obj.cells (totA zTot) 29 (0, 0))]) (M0 := [(w.heap.size, Obj.cells (totA zTot) 29 (0, 0))]) rfl rfl (fun _ h => h) (fun u hu => FAt_new (new_tot _) u) ?_)
    rintro _ _ ⟨g3, rfl, rfl⟩ hf he2; intro K' hK'; go_big_quiet_op; go_big_quiet_on
    have HG3 := Lib.hid (hf _ (List.mem_singleton.2 rfl))
    clear hf
    change lexH _ _ _ _ _ _ [(g3, Obj.cells (totA zTot) 29 (0, 0)), (w.heap.size, Obj.cells (totA zTot) 29 (0, 0))]
    refine (hOp_store rfl (g3) (totA (p.getD (n - 1) noTot)) rfl rfl HG3.out.1 29 ((totA zTot)) (List.Mem.head _) (infoTot _ (totA_size HOK.out.len)) (zTot_size.trans (totA_size HOK.out.len).symm) (totA_one _) [(g3, Obj.cells (totA (p.getD (n - 1) noTot)) 29 (0, 0)), (w.heap.size, Obj.cells (totA zTot) 29 (0, 0))] (List.forall_mem_cons.2 ⟨.inl rfl, fun y hy => .inr ⟨List.mem_cons_of_mem _ hy, HG3.out.2 y hy⟩⟩) ?_)
    intro he3
    intro u5 E2'
    have EX4 := Lib.hid E2'
    clear E2'
    go_upto_region 5 with (fail)
    rw [← HRL.out] at EX4
    go_loopw [4] (fun i u => ∃ k : Nat, k < n ∧ i = .int .i64 ((k : Int) - 1) ∧ Hid (okT (rootP (p.drop k))) ∧ Hid (EnvX w u [(g3, Obj.cells (totA (rootP (p.drop k))) 29 (0, 0)), (w.heap.size, Obj.cells (totA zTot) 29 (0, 0))])) (fun i _ => (intOf i + 1).toNat)
    case atStart => exact ⟨n - 1, by omega, by go_num, by rw [HRL.out]; exact HOK, EX4⟩
    case round =>
      obtain ⟨k, hk, rfl, HX, EK⟩ := hrel
      obtain ⟨x, hx⟩ : ∃ x, rootP (p.drop k) = x := ⟨_, rfl⟩
      rw [hx] at HX EK
      have HXX := Lib.hid hx
      clear hx EX4
      by_cases hk0 : 0 < k
      · obtain ⟨j, rfl⟩ : ∃ j, k = j + 1 := ⟨k - 1, by omega⟩
        have e : (((j + 1 : Nat) : Int) - 1) = (j : Int) := by omega
        rw [e]
        have HJX : Hid (j < n) := by show _ < _; omega
        have HJ : Hid (∀ u, Calls Tryd.prog 21 #[.agg (totA (p.getD j noTot)), .agg (totA x)] u fun e w' => e = .returned (.agg (totA (joinT (p.getD j noTot) x))) ∧ Below u.heap.size u w') := fun u => rmjoin_any (p.getD j noTot) x u (HOKs.out j HJX.out) HX.out
        go_upto_region 7 with (fail)
        refine wp_region_H (w0 := w) [(g3, Obj.cells (totA x) 29 (0, 0)), (w.heap.size, Obj.cells (totA zTot) 29 (0, 0))] (by kernel_rfl) EK.out ?_
        refine anyH_phase [0, 1, 2, 3, 4, 5] 1 rfl ⟨_, (EnvX.drew EK.out)⟩ (by kernel_rfl) ?_
        have hw6 : EnvX w _ [(g3, Obj.cells (totA x) 29 (0, 0)), (w.heap.size, Obj.cells (totA zTot) 29 (0, 0))] := (EnvX.drew EK.out)
        have hone := @EnvC.one _ _ _ hw6
        (refine wpG_op rfl rfl rfl ?_; intro K hK; go_big_quiet_op; go_big_quiet_on)
        (refine wpG_op rfl rfl rfl ?_; intro K hK; go_big_quiet_op; go_big_quiet_on)
        (refine wpG_val (v := .pointer (some (ad.add (j * 37)))) rfl rfl (fun u hu => idxSl_op Tryd.underlying22 aggTot.size HJX.out u rfl rfl) ?_ hw6; intro K hK; go_big_quiet_op; go_big_quiet_on)
        (refine wpG_val (v := .agg (totA (p.getD j noTot))) rfl rfl (fun u hu => load_any_op u (HLD.out j HJX.out u (EnvX.sub hu (fun _ h => by cases h))).1 rfl) ?_ hw6; intro K hK; go_big_quiet_op; go_big_quiet_on)
        (refine wpG_val (v := .agg (totA x)) rfl rfl (fun u hu => load_any_op u (box_tot hu (List.Mem.head _) HX.out.len) rfl) ?_ hw6; intro K hK; go_big_quiet_op; go_big_quiet_on)
        (refine wpG_call (f := 21) (args := #[.agg (totA (p.getD j noTot)), .agg (totA x)]) (v := .agg (totA (joinT (p.getD j noTot) x))) rfl rfl rfl Tryd.func21 rfl rfl (fun u hu => HJ.out u) ?_ hw6; intro K hK; go_big_quiet_op; go_big_quiet_on)
        clear hone hw6
        refine wpG_nil ?_
        refine anyH_one (i := 6) (by kernel_rfl) (hOp_store rfl (g3) (totA (joinT (p.getD j noTot) x)) rfl rfl HG3.out.1 29 ((totA x)) (List.Mem.head _) (infoTot _ (totA_size join_ok.len)) ((totA_size HX.out.len).trans (totA_size join_ok.len).symm) (totA_one _) [(g3, Obj.cells (totA (joinT (p.getD j noTot) x)) 29 (0, 0)), (w.heap.size, Obj.cells (totA zTot) 29 (0, 0))] (List.forall_mem_cons.2 ⟨.inl rfl, List.forall_mem_cons.2 ⟨.inr ⟨List.mem_cons_of_mem _ (List.Mem.head _), fun e => HG3.out.2 _ (List.Mem.head _) e⟩, fun _ h => by cases h⟩⟩) ?_)
        intro he7
        refine anyH_done (by kernel_rfl) ?_
        intro u9 E2'
        have EX8 := Lib.hid E2'
        clear E2'
        go_wp2
        go_roundw
        case rel =>
          have er := HRC.out j hk
          rw [HXX.out] at er
          exact ⟨j, by omega, by go_num, by rw [er]; exact join_ok, by rw [er]; exact EX8⟩
        case measure => simp [intOf]
      · obtain rfl : k = 0 := by omega
        rw [List.drop_zero] at HXX
        have hneg : ¬ (0 : Int) ≤ ((0 : Nat) : Int) - 1 := by omega
        go_upto_region 8 with (fail)
        refine wp_region_Hx (w0 := w) [0, 1] [(g3, Obj.cells (totA x) 29 (0, 0)), (w.heap.size, Obj.cells (totA zTot) 29 (0, 0))] rfl EK.out ?_
        refine lexH_phase [0] [1] ?_
        have hw10 : EnvX w _ [(g3, Obj.cells (totA x) 29 (0, 0)), (w.heap.size, Obj.cells (totA zTot) 29 (0, 0))] := EK.out
        have hone := @EnvC.one _ _ _ hw10
        (refine wpG_val (v := .agg (totA x)) rfl rfl (fun u hu => load_any_op u (box_tot hu (List.Mem.head _) HX.out.len) rfl) ?_ hw10; intro K hK; go_big_quiet_op; go_big_quiet_on)
        clear hone hw10
        refine wpG_nil ?_
        refine (hOp_store rfl (w.heap.size) (totA (x)) rfl rfl (Nat.le_refl _) 29 ((totA zTot)) (List.Mem.tail _ (List.Mem.head _)) (infoTot _ (totA_size HX.out.len)) (zTot_size.trans (totA_size HX.out.len).symm) (totA_one _) [(w.heap.size, Obj.cells (totA (x)) 29 (0, 0))] (List.forall_mem_cons.2 ⟨.inl rfl, (fun _ h => by cases h)⟩) ?_)
        intro he11
        intro u13 E2'
        have EX12 := Lib.hid E2'
        clear E2'
        have Q0 := Lib.hid (EnvX.box EX12.out _ _ (List.Mem.head _))
        have HBEL := Lib.hid EX12.out.bel
        clear EX12
        go_wp2_with ((with_reducible refine bodyPost_ret (v := .agg (totA (x))) ?_ ?_ ?_); (exact results_cell_row (p := 2) (ty := 29) Tryd.results19 _ _ w.heap.size 29 (totA (x)) (0, 0) _ rfl Q0.out Tryd.underlying29 rfl (infoTot _ (totA_size HX.out.len))); (rfl))
        exact ⟨by rw [HXX.out], HBEL.out⟩
end Go.Proofs.YtbmiecogjmbciaaDoor

namespace Go.Proofs.YtbmiecogjmbciaaDoor
set_option maxRecDepth 8000
open Go.RowKit

theorem mpath_short {l : List Tot} (i : Nat) (h : l.length ≤ 1000000) : (mpathT l i).length ≤ 1000000 := by
  rw [mpath_len _ l i rfl]
  exact Nat.le_trans (sides_le l.length l.length i (Nat.le_of_lt Nat.lt_two_pow_self)) h
set_option maxRecDepth 20000 in
set_option maxHeartbeats 4000000 in
theorem rmpath_any : ∀ (n i : Nat) (l : List Tot) (A : Option Addr) (c : Nat) (w : World), l.length = n → i < n → n ≤ 1000000 → n ≤ c → c ≤ maxLen → okTs l → TotsIn w w.heap.size A l →
    Calls Tryd.prog 36 #[.slice A n c, .int .i64 i] w fun e w' => (∃ v, e = .returned v ∧ OwnT w' w.heap.size v (mpathT l i)) ∧ Below w.heap.size w w' := by
  intro n
  induction n using Nat.strongRecOn with
  | _ n ih =>
    intro i l A c w hl hi hn hc hcm hI hA
    by_cases h1 : n = 1
    · subst h1
      obtain ⟨x, rfl⟩ : ∃ x, l = [x] := by
        match l, hl with
        | [x], _ => exact ⟨x, rfl⟩
      clear ih hI hA hl
      go_enter Tryd.func36, Tryd.ntmps36
      go_wp2
      go_ret
      exact ⟨⟨_, rfl, OwnT.nil _ _⟩, Below.refl _ _⟩
    · have h2 : 2 ≤ n := by omega
      have hne : ¬ (n : Int) = 1 := by omega
      obtain ⟨a, b, c2, -⟩ := half_spec h2
      have l1 : (l.take (halfT n)).length = halfT n := by rw [List.length_take]; omega
      have l2 : (l.drop (halfT n)).length = n - halfT n := by rw [List.length_drop]; omega
      have hr1 := all_ok (hI.take (halfT n))
      have hr2 := all_ok (hI.drop (halfT n))
      have HH := Lib.hid (rhalf_any n w h2 (by omega))
      have HRT1 : Hid (∀ u, EnvX w u [] → Calls Tryd.prog 28 #[.slice A (halfT n) c] u fun e w' => e = .returned (totV (allT (l.take (halfT n)))) ∧ Below u.heap.size u w') := fun u hu =>
        rmall_any (halfT n) (l.take (halfT n)) A c u l1 (by omega) (by omega) hcm (hI.take _) ((hA.take hI _).up (EnvX.bel hu))
      have HRT2 : Hid (∀ u, EnvX w u [] → Calls Tryd.prog 28 #[.slice (cutX 37 A (halfT n) c) (n - halfT n) (c - halfT n)] u fun e w' => e = .returned (totV (allT (l.drop (halfT n)))) ∧ Below u.heap.size u w') := fun u hu =>
        rmall_any (n - halfT n) (l.drop (halfT n)) (cutX 37 A (halfT n) c) (c - halfT n) u l2 (by omega) (by omega) (by omega) (hI.drop _) ((hA.drop hI _ c (by omega)).up (EnvX.bel hu))
      have HKC : Hid (halfT n ≤ c) := by show _ ≤ _; omega
      have HKN : Hid (halfT n ≤ n) := by show _ ≤ _; omega
      have E1 : Hid (EnvX w w []) := EnvX.start w
      by_cases hlow : i < halfT n
      · have hp := Lib.hid (mpath_low (l := l) (by omega) (by rw [hl]; exact hlow))
        have HPI : Hid (((mpathT (l.take (halfT n)) i).map totC).flatten.length = (mpathT (l.take (halfT n)) i).length * 37 ∧ True) := ⟨flatT_len (mpath_ok _ _ _ rfl (hI.take _)), trivial⟩
        have HPS : Hid ((mpathT (l.take (halfT n)) i).length ≤ 1000000 ∧ len32 (allT (l.drop (halfT n)))) := ⟨mpath_short i (by omega), hr2.len⟩
        have HI : Hid (∀ u, EnvX w u [] → Calls Tryd.prog 36 #[.slice A (halfT n) c, .int .i64 i] u fun e w' => (∃ v, e = .returned v ∧ w'.ownsRow u.heap.size 29 37 v (mpathT (l.take (halfT n)) i).length ((mpathT (l.take (halfT n)) i).map totC).flatten) ∧ Below u.heap.size u w') := fun u hu =>
          ih (halfT n) b i (l.take (halfT n)) A c u l1 hlow (by omega) (by omega) hcm (hI.take _) ((hA.take hI _).up (EnvX.bel hu))
        rw [hl] at hp
        clear ih hI hA hr1 hr2 l1 l2 HRT1 hl
        generalize halfT n = k at *
        have hlow2 : (i : Int) < (k : Int) := by omega
        go_enter Tryd.func36, Tryd.ntmps36
        go_wp2_with fail
        refine HH.out.mono ?_
        rintro e w1 ⟨rfl, rfl⟩
        go_wp2_with fail
        refine wp_region_H (w0 := w) [] (by kernel_rfl) E1.out ?_
        refine anyH_phase [0, 1, 2, 3, 5, 6, 7] 5 rfl ⟨_, (EnvX.drew E1.out)⟩ (by kernel_rfl) ?_
        have hw1 : EnvX w _ [] := (EnvX.drew E1.out)
        have hone := @EnvC.one _ _ _ hw1
        (refine wpG_op rfl rfl rfl ?_; intro K hK; go_big_quiet_op; go_big_quiet_on)
        (refine wpG_op rfl rfl rfl ?_; intro K hK; go_big_quiet_op; go_big_quiet_on)
        (refine wpG_val (v := .slice A k c) rfl rfl (fun u hu => cutXh_op elTot u HKC.out rfl rfl) ?_ hw1; intro K hK; go_big_quiet_op; go_big_quiet_on)
        (refine wpG_op rfl rfl rfl ?_; intro K hK; go_big_quiet_op; go_big_quiet_on)
        (refine wpG_op rfl rfl rfl ?_; intro K hK; go_big_quiet_op; go_big_quiet_on)
        (refine wpG_op rfl rfl rfl ?_; intro K hK; go_big_quiet_op; go_big_quiet_on)
        (refine wpG_val (v := (.slice (cutX 37 A k c) (n - k) (c - k))) rfl rfl (fun u hu => cutXl_op elTot u HKN.out rfl rfl) ?_ hw1; intro K hK; go_big_quiet_op; go_big_quiet_on)
        clear hone hw1
        refine wpG_nil ?_
        refine anyH_one (i := 4) (by kernel_rfl) (hOp_fresh (R := FreshR 29 37 (mpathT (l.take k) i).length ((mpathT (l.take k) i).map totC).flatten) (M0 := []) rfl rfl (fun _ h => h) (fun u hu => FAt_call (fid := 36) (xs := #[.tmp 17, .tmp 18]) (args := #[.slice A k c, .int .i64 i]) rfl Tryd.func36 rfl rfl u (callsR_fresh (HI.out u (EnvX.sub hu (fun _ h => by cases h))))) ?_)
        rintro x N hF hf he2; intro K' hK'; go_big_quiet_op; go_big_quiet_on
        have HFN := Lib.hid hf
        have HF := Lib.hid hF
        clear hF
        clear hf
        change anyH _ _ _ _ _ _ _ _ (N ++ [])
        refine anyH_phase [8] 3 rfl ⟨_, he2.choose_spec⟩ (by kernel_rfl) ?_
        have hw3 : EnvX w _ (N ++ []) := he2.choose_spec
        have hone := @EnvC.one _ _ _ hw3
        (refine wpG_call (f := 28) (args := #[(.slice (cutX 37 A k c) (n - k) (c - k))]) (v := .agg (totA (allT (l.drop k)))) rfl rfl rfl Tryd.func28 rfl rfl (fun u hu => HRT2.out u (EnvX.sub hu (fun _ h => by cases h))) ?_ hw3; intro K hK; go_big_quiet_op; go_big_quiet_on)
        clear hone hw3
        refine wpG_nil ?_
        refine anyH_one (i := 9) (by kernel_rfl) (hOp_fresh (R := BuiltR 29 (totC (allT (l.drop k)))) (M0 := (N ++ [])) rfl rfl (fun _ h => h) (fun u hu => FAt_buildR elTot (totC_len HPS.out.2) (totC_one _) rfl u) ?_)
        rintro x N ⟨g, rfl, rfl⟩ hf he4; intro K' hK'; go_big_quiet_op; go_big_quiet_on
        clear hf
        change anyH _ _ _ _ _ _ _ _ ((g, Obj.cells (totC (allT (l.drop k))).toArray 29 (0, 0)) :: (N ++ []))
        refine anyH_one (i := 10) (by kernel_rfl) (hOp_own (gd := none) (R := GrownR w 29 37 ((mpathT (l.take k) i).length + 1) (((mpathT (l.take k) i).map totC).flatten ++ totC (allT (l.drop k))) []) rfl rfl rfl rfl (fun u hu => appR_op elTot (m := 1) (c := 1) [] hu HPI.out.1 (by rw [Nat.one_mul]; exact totC_len HPS.out.2) (totC_one _) HF.out (fun y hy => ⟨List.Mem.tail _ (List.mem_append_left _ hy), (HFN.out y hy).1⟩) (List.Mem.head _) (fun z hz => by cases hz) (by have := HPS.out.1; omega) rfl rfl) ?_)
        rintro x M' ⟨N2, rfl, hF2, hf2⟩ he5; intro K' hK'; go_big_quiet_op; go_big_quiet_on
        have HF2 := Lib.hid (And.intro hF2 hf2)
        clear hF2 hf2
        change anyH _ _ _ _ _ _ _ _ (N2 ++ [])
        refine anyH_phase [11] 0 rfl ⟨_, he5.choose_spec⟩ (by kernel_rfl) ?_
        have hw6 : EnvX w _ (N2 ++ []) := he5.choose_spec
        have hone := @EnvC.one _ _ _ hw6
        (refine wpG_op rfl rfl rfl ?_; intro K hK; go_big_quiet_op; go_big_quiet_on)
        clear hone hw6
        refine wpG_nil ?_
        refine anyH_done (by kernel_rfl) ?_
        intro u8 E2'
        have EX7 := Lib.hid E2'
        clear E2'
        go_wp2
        go_ret
        refine ⟨⟨_, rfl, ?_⟩, EnvX.bel EX7.out⟩
        unfold OwnT
        rw [hp.out, List.length_append, List.map_append, List.flatten_append, List.map_singleton, List.flatten_singleton]
        exact HF2.out.1.own (by rw [List.length_append, HPI.out.1, totC_len HPS.out.2, Nat.succ_mul]) (fun y hy => ⟨(HF2.out.2 y hy).1, EnvX.box EX7.out _ _ (List.mem_append_left _ hy)⟩)
      · have hp := Lib.hid (mpath_high (l := l) (by omega) (by rw [hl]; exact hlow))
        have HPI : Hid (((mpathT (l.drop (halfT n)) (i - halfT n)).map totC).flatten.length = (mpathT (l.drop (halfT n)) (i - halfT n)).length * 37 ∧ True) := ⟨flatT_len (mpath_ok _ _ _ rfl (hI.drop _)), trivial⟩
        have HPS : Hid ((mpathT (l.drop (halfT n)) (i - halfT n)).length ≤ 1000000 ∧ len32 (allT (l.take (halfT n)))) := ⟨mpath_short _ (by omega), hr1.len⟩
        have HI : Hid (∀ u, EnvX w u [] → Calls Tryd.prog 36 #[.slice (cutX 37 A (halfT n) c) (n - halfT n) (c - halfT n), .int .i64 ((i : Int) - (halfT n : Int))] u fun e w' => (∃ v, e = .returned v ∧ w'.ownsRow u.heap.size 29 37 v (mpathT (l.drop (halfT n)) (i - halfT n)).length ((mpathT (l.drop (halfT n)) (i - halfT n)).map totC).flatten) ∧ Below u.heap.size u w') := fun u hu => by
          have h := ih (n - halfT n) (by omega) (i - halfT n) (l.drop (halfT n)) (cutX 37 A (halfT n) c) (c - halfT n) u l2 (by omega) (by omega) (by omega) (by omega) (hI.drop _) ((hA.drop hI _ c (by omega)).up (EnvX.bel hu))
          rwa [show ((i - halfT n : Nat) : Int) = (i : Int) - (halfT n : Int) by omega] at h
        rw [hl] at hp
        clear ih hI hA hr1 hr2 l1 l2 HRT2 hl
        generalize halfT n = k at *
        have hlow2 : ¬ (i : Int) < (k : Int) := by omega
        go_enter Tryd.func36, Tryd.ntmps36
        go_wp2_with fail
        refine HH.out.mono ?_
        rintro e w1 ⟨rfl, rfl⟩
        go_wp2_with fail
        refine wp_region_H (w0 := w) [] (by kernel_rfl) E1.out ?_
        refine anyH_phase [0, 1, 2, 3, 4, 5, 7, 8, 9] 5 rfl ⟨_, (EnvX.drew E1.out)⟩ (by kernel_rfl) ?_
        have hw1 : EnvX w _ [] := (EnvX.drew E1.out)
        have hone := @EnvC.one _ _ _ hw1
        (refine wpG_op rfl rfl rfl ?_; intro K hK; go_big_quiet_op; go_big_quiet_on)
        (refine wpG_op rfl rfl rfl ?_; intro K hK; go_big_quiet_op; go_big_quiet_on)
        (refine wpG_val (v := (.slice (cutX 37 A k c) (n - k) (c - k))) rfl rfl (fun u hu => cutXl_op elTot u HKN.out rfl rfl) ?_ hw1; intro K hK; go_big_quiet_op; go_big_quiet_on)
        (refine wpG_op rfl rfl rfl ?_; intro K hK; go_big_quiet_op; go_big_quiet_on)
        (refine wpG_op rfl rfl rfl ?_; intro K hK; go_big_quiet_op; go_big_quiet_on)
        (refine wpG_op rfl rfl rfl ?_; intro K hK; go_big_quiet_op; go_big_quiet_on)
        (refine wpG_op rfl rfl rfl ?_; intro K hK; go_big_quiet_op; go_big_quiet_on)
        (refine wpG_op rfl rfl rfl ?_; intro K hK; go_big_quiet_op; go_big_quiet_on)
        (refine wpG_val (v := .slice A k c) rfl rfl (fun u hu => cutXh_op elTot u HKC.out rfl rfl) ?_ hw1; intro K hK; go_big_quiet_op; go_big_quiet_on)
        clear hone hw1
        refine wpG_nil ?_
        refine anyH_one (i := 6) (by kernel_rfl) (hOp_fresh (R := FreshR 29 37 (mpathT (l.drop k) (i - k)).length ((mpathT (l.drop k) (i - k)).map totC).flatten) (M0 := []) rfl rfl (fun _ h => h) (fun u hu => FAt_call (fid := 36) (xs := #[.tmp 28, .tmp 31]) (args := #[(.slice (cutX 37 A k c) (n - k) (c - k)), .int .i64 ((i : Int) - (k : Int))]) rfl Tryd.func36 rfl rfl u (callsR_fresh (HI.out u (EnvX.sub hu (fun _ h => by cases h))))) ?_)
        rintro x N hF hf he2; intro K' hK'; go_big_quiet_op; go_big_quiet_on
        have HFN := Lib.hid hf
        have HF := Lib.hid hF
        clear hF
        clear hf
        change anyH _ _ _ _ _ _ _ _ (N ++ [])
        refine anyH_phase [10] 3 rfl ⟨_, he2.choose_spec⟩ (by kernel_rfl) ?_
        have hw3 : EnvX w _ (N ++ []) := he2.choose_spec
        have hone := @EnvC.one _ _ _ hw3
        (refine wpG_call (f := 28) (args := #[.slice A k c]) (v := .agg (totA (allT (l.take k)))) rfl rfl rfl Tryd.func28 rfl rfl (fun u hu => HRT1.out u (EnvX.sub hu (fun _ h => by cases h))) ?_ hw3; intro K hK; go_big_quiet_op; go_big_quiet_on)
        clear hone hw3
        refine wpG_nil ?_
        refine anyH_one (i := 11) (by kernel_rfl) (hOp_fresh (R := BuiltR 29 (totC (allT (l.take k)))) (M0 := (N ++ [])) rfl rfl (fun _ h => h) (fun u hu => FAt_buildR elTot (totC_len HPS.out.2) (totC_one _) rfl u) ?_)
        rintro x N ⟨g, rfl, rfl⟩ hf he4; intro K' hK'; go_big_quiet_op; go_big_quiet_on
        clear hf
        change anyH _ _ _ _ _ _ _ _ ((g, Obj.cells (totC (allT (l.take k))).toArray 29 (0, 0)) :: (N ++ []))
        refine anyH_one (i := 12) (by kernel_rfl) (hOp_own (gd := none) (R := GrownR w 29 37 ((mpathT (l.drop k) (i - k)).length + 1) (((mpathT (l.drop k) (i - k)).map totC).flatten ++ totC (allT (l.take k))) []) rfl rfl rfl rfl (fun u hu => appR_op elTot (m := 1) (c := 1) [] hu HPI.out.1 (by rw [Nat.one_mul]; exact totC_len HPS.out.2) (totC_one _) HF.out (fun y hy => ⟨List.Mem.tail _ (List.mem_append_left _ hy), (HFN.out y hy).1⟩) (List.Mem.head _) (fun z hz => by cases hz) (by have := HPS.out.1; omega) rfl rfl) ?_)
        rintro x M' ⟨N2, rfl, hF2, hf2⟩ he5; intro K' hK'; go_big_quiet_op; go_big_quiet_on
        have HF2 := Lib.hid (And.intro hF2 hf2)
        clear hF2 hf2
        change anyH _ _ _ _ _ _ _ _ (N2 ++ [])
        refine anyH_phase [13] 0 rfl ⟨_, he5.choose_spec⟩ (by kernel_rfl) ?_
        have hw6 : EnvX w _ (N2 ++ []) := he5.choose_spec
        have hone := @EnvC.one _ _ _ hw6
        (refine wpG_op rfl rfl rfl ?_; intro K hK; go_big_quiet_op; go_big_quiet_on)
        clear hone hw6
        refine wpG_nil ?_
        refine anyH_done (by kernel_rfl) ?_
        intro u8 E2'
        have EX7 := Lib.hid E2'
        clear E2'
        go_wp2
        go_ret
        refine ⟨⟨_, rfl, ?_⟩, EnvX.bel EX7.out⟩
        unfold OwnT
        rw [hp.out, List.length_append, List.map_append, List.flatten_append, List.map_singleton, List.flatten_singleton]
        exact HF2.out.1.own (by rw [List.length_append, HPI.out.1, totC_len HPS.out.2, Nat.succ_mul]) (fun y hy => ⟨(HF2.out.2 y hy).1, EnvX.box EX7.out _ _ (List.mem_append_left _ hy)⟩)
set_option maxRecDepth 20000 in
set_option maxHeartbeats 1000000 in
theorem rmPath_none (n : Nat) (i : Int) (A : Option Addr) (c : Nat) (w : World) (hn : n ≤ maxLen) (hi0 : -9223372036854775808 ≤ i) (hi1 : i ≤ 9223372036854775807) (h : ¬ (n ≤ 64 ∧ 0 ≤ i ∧ i < n)) :
    Calls Tryd.prog 14 #[.slice A n c, .int .i64 i] w fun e w' => e = .returned (.tuple #[.slice none 0 0, .bool false]) ∧ w' = w := by
  unfold maxLen at hn
  by_cases h1 : 64 < n
  · have h1' : (64 : Int) < n := by omega
    go_enter Tryd.func14, Tryd.ntmps14
    go_wp2
    go_returns
    exact ⟨rfl, rfl⟩
  · have h1' : ¬ (64 : Int) < n := by omega
    by_cases h2 : i < 0
    · go_enter Tryd.func14, Tryd.ntmps14
      go_wp2
      go_returns
      exact ⟨rfl, rfl⟩
    · have h3 : (n : Int) ≤ i := by omega
      go_enter Tryd.func14, Tryd.ntmps14
      go_wp2
      go_returns
      exact ⟨rfl, rfl⟩
set_option maxRecDepth 20000 in
set_option maxHeartbeats 1000000 in
theorem rmPath_some (i : Nat) (l : List Tot) (A : Option Addr) (c : Nat) (w : World) (hn : l.length ≤ 64) (hi : i < l.length) (hc : l.length ≤ c) (hcm : c ≤ maxLen) (hI : okTs l) (hA : TotsIn w w.heap.size A l) :
    Calls Tryd.prog 14 #[.slice A l.length c, .int .i64 i] w fun e w' => (∃ v, e = .returned (.tuple #[v, .bool true]) ∧ OwnT w' w.heap.size v (mpathT l i)) ∧ Below w.heap.size w w' := by
  have HP := Lib.hid (rmpath_any l.length i l A c w rfl hi (by omega) hc hcm hI hA)
  generalize mpathT l i = p at *
  clear hI hA
  generalize l.length = n at *
  have h1' : ¬ (64 : Int) < n := by omega
  have h2 : ¬ (i : Int) < 0 := by omega
  have h3 : ¬ (n : Int) ≤ i := by omega
  go_enter Tryd.func14, Tryd.ntmps14
  go_wp2_with fail
  refine HP.out.mono ?_
  rintro e w1 ⟨⟨v, rfl, ho⟩, hb⟩
  have HO := Lib.hid ho
  have HB := Lib.hid hb
  clear ho hb
  go_wp2
  go_returns
  exact ⟨⟨_, rfl, HO.out⟩, HB.out⟩
theorem rmPath_all (l : List Tot) (i : Int) (A : Option Addr) (n c : Nat) (w : World) (hl : l.length = n) (hn : n ≤ 1000000) (hnc : n ≤ c) (hc : c ≤ maxLen) (hi : -9223372036854775808 ≤ i ∧ i ≤ 9223372036854775807) (hI : okTs l) (hA : TotsIn w w.heap.size A l) :
    Calls Tryd.prog 14 #[.slice A n c, .int .i64 i] w fun e w' => (∃ v, e = .returned (.tuple #[v, .bool (mpathR l i).2]) ∧ OwnT w' w.heap.size v (mpathR l i).1) ∧ Below w.heap.size w w' := by
  subst hl
  unfold mpathR
  by_cases h : 0 ≤ i ∧ i < l.length ∧ l.length ≤ 64
  · rw [if_pos h]
    obtain ⟨j, rfl⟩ := Int.eq_ofNat_of_zero_le h.1
    exact rmPath_some j l A c w h.2.2 (by omega) hnc hc hI hA
  · rw [if_neg h]
    refine (rmPath_none l.length i A c w (Nat.le_trans hnc hc) hi.1 hi.2 (fun hh => h ⟨hh.2.1, hh.2.2, hh.1⟩)).mono ?_
    rintro e w' ⟨rfl, rfl⟩
    exact ⟨⟨_, rfl, OwnT.nil _ _⟩, Below.refl _ _⟩
end Go.Proofs.YtbmiecogjmbciaaDoor

namespace Go.Proofs.YtbmiecogjmbciaaDoor
set_option maxRecDepth 8000
open Go.RowKit

set_option maxRecDepth 20000 in
set_option maxHeartbeats 1000000 in
theorem rmsizes_any : ∀ (n i : Nat) (w : World), 1 ≤ n → n ≤ 1000000 → i < n →
    Calls Tryd.prog 41 #[.int .i64 n, .int .i64 i] w fun e w' => (∃ v, e = .returned v ∧ OwnZ w' w.heap.size v (sizesT n i)) ∧ Below w.heap.size w w' := by
  intro n
  induction n using Nat.strongRecOn with
  | _ n ih =>
    intro i w h1 hn hi
    by_cases hone : n = 1
    · subst hone
      go_enter Tryd.func41, Tryd.ntmps41
      go_wp2
      go_ret
      exact ⟨⟨_, rfl, OwnZ.nil _ _⟩, Below.refl _ _⟩
    · have h2 : 2 ≤ n := by omega
      have hne : ¬ (n : Int) = 1 := by omega
      obtain ⟨a, b, c, -⟩ := half_spec h2
      have HH := Lib.hid (rhalf_any n w h2 (by omega))
      by_cases hlow : i < halfT n
      · have HI := Lib.hid (ih (halfT n) b i w a (by omega) hlow)
        have hsl := Lib.hid (sizes_low h2 hlow)
        have hlen : (sizesT (halfT n) i).length ≤ 1000000 := by
          have := sides_le (halfT n) (halfT n) i (Nat.le_of_lt Nat.lt_two_pow_self)
          rw [sizes_len]
          omega
        generalize halfT n = k at *
        have hlow2 : (i : Int) < (k : Int) := by omega
        clear ih
        go_enter Tryd.func41, Tryd.ntmps41
        go_wp2_with fail
        refine HH.out.mono ?_
        rintro e w1 ⟨rfl, rfl⟩
        go_wp2_with fail
        refine HI.out.mono ?_
        rintro e w2 ⟨⟨v, rfl, hv⟩, hb⟩
        obtain ⟨v', w', hrun, hown, hb2⟩ := hv.append (z := (n : Int) - (k : Int)) (m := n - k) (by omega) hlen hb.size
        have HRUN := Lib.hid hrun
        have HO := Lib.hid hown
        have HB := Lib.hid (hb.trans hb2)
        clear hrun hown hb hb2 hv HH HI
        go_wp2_with (at_builtin; (with_reducible refine wpList_append_run (o := ⟨some 20, _, _, _, _, _⟩) ?_ (.tmp 15) (.tmp 19) ?_ ?_ ?_ ?_ HRUN.out ?_); (rfl); (rfl); (rfl); (rfl); (rfl))
        go_ret
        exact ⟨⟨_, rfl, by rw [hsl.out]; exact HO.out⟩, HB.out⟩
      · have HI := Lib.hid (ih (n - halfT n) (by omega) (i - halfT n) w (by omega) (by omega) (by omega))
        have hsl := Lib.hid (sizes_high h2 hlow)
        have hlen : (sizesT (n - halfT n) (i - halfT n)).length ≤ 1000000 := by
          have := sides_le (n - halfT n) (n - halfT n) (i - halfT n) (Nat.le_of_lt Nat.lt_two_pow_self)
          rw [sizes_len]
          omega
        generalize halfT n = k at *
        have hlow2 : ¬ (i : Int) < (k : Int) := by omega
        have e1 : ((n - k : Nat) : Int) = (n : Int) - (k : Int) := by omega
        have e2 : ((i - k : Nat) : Int) = (i : Int) - (k : Int) := by omega
        rw [e1, e2] at HI
        clear ih e1 e2
        go_enter Tryd.func41, Tryd.ntmps41
        go_wp2_with fail
        refine HH.out.mono ?_
        rintro e w1 ⟨rfl, rfl⟩
        go_wp2_with fail
        refine HI.out.mono ?_
        rintro e w2 ⟨⟨v, rfl, hv⟩, hb⟩
        obtain ⟨v', w', hrun, hown, hb2⟩ := hv.append (z := (k : Int)) (m := k) rfl hlen hb.size
        have HRUN := Lib.hid hrun
        have HO := Lib.hid hown
        have HB := Lib.hid (hb.trans hb2)
        clear hrun hown hb hb2 hv HH HI
        go_wp2_with (at_builtin; (with_reducible refine wpList_append_run (o := ⟨some 30, _, _, _, _, _⟩) ?_ (.tmp 27) (.tmp 29) ?_ ?_ ?_ ?_ HRUN.out ?_); (rfl); (rfl); (rfl); (rfl); (rfl))
        go_ret
        exact ⟨⟨_, rfl, by rw [hsl.out]; exact HO.out⟩, HB.out⟩
end Go.Proofs.YtbmiecogjmbciaaDoor

namespace Go.Proofs.YtbmiecogjmbciaaDoor
set_option maxRecDepth 8000
open Go.RowKit

section
variable {a : Act} {dst : Option Tmp} {x y : Operand} {ty : TypeId} {pos : String} {after : Array Edge} {gd : Option (Nat × Bool)}
end
set_option maxRecDepth 20000 in
set_option maxHeartbeats 4000000 in
theorem rmsame_any (l q : List Tot) (A A' : Option Addr) (n c m c' : Nat) (w : World) (hl : l.length = n) (hq : q.length = m) (hn : n ≤ 1000000) (hm : m ≤ 1000000) (hnc : n ≤ c) (hc : c ≤ maxLen) (hmc : m ≤ c') (hc' : c' ≤ maxLen) (hI : okTs l) (hJ : okTs q) (hA : TotsIn w w.heap.size A l) (hB : TotsIn w w.heap.size A' q) :
    Calls Tryd.prog 10 #[.slice A n c, .slice A' m c'] w fun e w' => e = .returned (.bool (decide (l = q))) ∧ Below w.heap.size w w' := by
  unfold maxLen at hc hc'
  have HL := Lib.hid hl
  have HQ := Lib.hid hq
  have HI := Lib.hid (And.intro hI hA)
  have HJ := Lib.hid (And.intro hJ hB)
  clear hI hA hJ hB hl hq
  by_cases hnm : n = m
  · subst hnm
    go_enter Tryd.func10, Tryd.ntmps10
    go_upto_region 4 with (fail)
    go_loopw [5] (fun i u => ∃ k : Nat, k ≤ n ∧ i = .int .i64 k ∧ Below w.heap.size w u ∧ Hid (l.take k = q.take k)) (fun i _ => n - (intOf i).toNat)
    case atStart => exact ⟨0, by omega, rfl, Below.refl _ _, rfl⟩
    case round =>
      obtain ⟨k, hk, rfl, hbl, hsame⟩ := hrel
      by_cases hlt : k < n
      · have hk2 : (k : Int) < (n : Int) := by omega
        obtain ⟨a1, rfl, h1⟩ := HI.out.2.loads HI.out.1 (k := k) (by rw [HL.out]; exact hlt)
        obtain ⟨a2, rfl, h2⟩ := HJ.out.2.loads HJ.out.1 (k := k) (by rw [HQ.out]; exact hlt)
        have H1 := Lib.hid h1
        have H2 := Lib.hid h2
        have E1 : Hid (EnvX w wr []) := ⟨hbl, fun _ _ h => by cases h⟩
        have HX := Lib.hid (HI.out.1.get (i := k) (by rw [HL.out]; exact hlt))
        have HY := Lib.hid (HJ.out.1.get (i := k) (by rw [HQ.out]; exact hlt))
        have HST := Lib.hid (tots_step hsame.out (by rw [HL.out]; exact hlt) (by rw [HQ.out]; exact hlt))
        have HNE : Hid (l.getD k noTot ≠ q.getD k noTot → l ≠ q) := fun h e => h (by rw [e])
        clear h1 h2 hsame hbl
        generalize l.getD k noTot = x at *
        generalize q.getD k noTot = y at *
        go_upto_region 6 with (fail)
        refine wp_region_H (w0 := w) [] (by kernel_rfl) E1.out ?_
        refine anyH_phase [0, 1, 2, 3, 4, 5, 6, 7, 8] 0 rfl ⟨_, (EnvX.drew E1.out)⟩ (by kernel_rfl) ?_
        have hw1 : EnvX w _ [] := (EnvX.drew E1.out)
        have hone := @EnvC.one _ _ _ hw1
        (refine wpG_op rfl rfl rfl ?_; intro K hK; go_big_quiet_op; go_big_quiet_on)
        (refine wpG_op rfl rfl rfl ?_; intro K hK; go_big_quiet_op; go_big_quiet_on)
        (refine wpG_op rfl rfl rfl ?_; intro K hK; go_big_quiet_op; go_big_quiet_on)
        (refine wpG_val (v := totV x) rfl rfl (fun u hu => load_any_op u (H1.out u (EnvX.sub hu (fun _ h => by cases h))).1 rfl) ?_ hw1; intro K hK; go_big_quiet_op; go_big_quiet_on)
        (refine wpG_op rfl rfl rfl ?_; intro K hK; go_big_quiet_op; go_big_quiet_on)
        (refine wpG_op rfl rfl rfl ?_; intro K hK; go_big_quiet_op; go_big_quiet_on)
        (refine wpG_op rfl rfl rfl ?_; intro K hK; go_big_quiet_op; go_big_quiet_on)
        (refine wpG_val (v := totV y) rfl rfl (fun u hu => load_any_op u (H2.out u (EnvX.sub hu (fun _ h => by cases h))).1 rfl) ?_ hw1; intro K hK; go_big_quiet_op; go_big_quiet_on)
        (refine wpG_val (v := .bool (!eqT x y)) rfl rfl (fun u hu => neqT_op HX.out HY.out u rfl rfl) ?_ hw1; intro K hK; go_big_quiet_op; go_big_quiet_on)
        clear hone hw1
        refine wpG_nil ?_
        refine anyH_done (by kernel_rfl) ?_
        intro u3 E2'
        have EX2 := Lib.hid E2'
        clear E2'
        by_cases hxy : x = y
        · have hb : eqT x y = true := by simp [eqT, hxy]
          rw [hb]
          go_wp2
          go_roundw
          case rel => exact ⟨k + 1, by omega, by go_num, EnvX.bel EX2.out, HST.out hxy⟩
          case measure => simp [intOf]; omega
        · have hb : eqT x y = false := by simp [eqT, hxy]
          have HR : Hid (decide (l = q) = false) := by
            show _ = _
            simp [HNE.out hxy]
          rw [hb]
          go_wp2
          go_ret
          exact ⟨by rw [HR.out]; rfl, EnvX.bel EX2.out⟩
      · obtain rfl : k = n := by omega
        have HR : Hid (decide (l = q) = true) := by
          have h := hsame.out
          rw [List.take_of_length_le (by rw [HL.out]; exact Nat.le_refl _), List.take_of_length_le (by rw [HQ.out]; exact Nat.le_refl _)] at h
          show _ = _
          simp [h]
        clear hsame
        go_wp2
        go_ret
        exact ⟨by rw [HR.out]; rfl, hbl⟩
  · have hne : ¬ (n : Int) = (m : Int) := by omega
    have HR : Hid (decide (l = q) = false) := by
      show _ = _
      have : l ≠ q := fun e => hnm (by rw [← HL.out, ← HQ.out, e])
      simp [this]
    go_enter Tryd.func10, Tryd.ntmps10
    go_wp2
    go_ret
    exact ⟨by rw [HR.out]; rfl, Below.refl _ _⟩
end Go.Proofs.YtbmiecogjmbciaaDoor

namespace Go.Proofs.YtbmiecogjmbciaaDoor
set_option maxRecDepth 8000
open Go.RowKit

theorem oneBool : ∀ w, (isAgg 4).run Tryd.prog w = .ok false w := fun w => by simp [isAgg, run_underlying Tryd.underlying4]
theorem cur_get {cur : Array Value} {n k : Nat} {xs : List Value} {v : Value} (h : cur.toList.take (n * 1) = xs) (hk : k < n) (hv : xs[k]? = some v) : cur[0 + k * 1]? = some v := by
  rw [← h, List.getElem?_take_of_lt (by omega), Array.getElem?_toList] at hv
  rwa [Nat.mul_one, Nat.zero_add]
section
variable {a : Act} {dst : Option Tmp} {x y : Operand} {ty : TypeId} {pos : String} {after : Array Edge} {gd : Option (Nat × Bool)}
end
set_option maxRecDepth 20000 in
set_option maxHeartbeats 4000000 in
theorem rmcheck_a (root leaf : Tot) (i : Int) (p : List Tot) (A : Option Addr) (m c : Nat) (w : World) (hr : okT root) (hlf : okT leaf) (hm : p.length = m) (hm6 : m ≤ 1000000) (hmc : m ≤ c) (hcm : c ≤ maxLen) (hI : okTs p) (hA : TotsIn w w.heap.size A p) (k1 : root.n < 1) :
    Calls Tryd.prog 16 #[totV root, .int .i64 i, totV leaf, .slice A m c] w fun e w' => e = .returned (.tuple #[.agg (wcs (mcheckT root i leaf p).1), .bool (mcheckT root i leaf p).2]) ∧ Below w.heap.size w w' := by
  rw [show mcheckT root i leaf p = (0, false) by unfold mcheckT; rw [if_neg (by omega)]]
  have C2 : Hid (decide (root.n < 1) = true) := decide_eq_true (by omega)
  clear k1
  have HR := Lib.hid hr
  have HF := Lib.hid hlf
  have HP := Lib.hid (And.intro hI hA)
  have HM := Lib.hid hm
  have HLE : Hid (w.heap.size ≤ w.heap.size + 1 + 1) := by show _ ≤ _; omega
  have E1 : Hid (EnvX w (((w.alloc (.cells (totA root) 29)).alloc (.cells (totA leaf) 29)).alloc (.cells (wcs 0) 27)) [(w.heap.size + 1 + 1, Obj.cells (wcs 0) 27 (0, 0)), (w.heap.size + 1, Obj.cells (totA leaf) 29 (0, 0)), (w.heap.size, Obj.cells (totA root) 29 (0, 0))]) := EnvX.three _ _ _
  clear hr hlf hI hA hm
  unfold maxLen at hcm
  unfold totV
  go_enter Tryd.func16, Tryd.ntmps16
  go_upto_region 1 with (fail)
  rw [zero_wcs]
  generalize ((w.alloc (.cells (totA root) 29)).alloc (.cells (totA leaf) 29)).alloc (.cells (wcs 0) 27) = W at *
  refine wp_region_Hx (w0 := w) [0, 1, 2, 3, 4, 5, 6, 7, 8, 9, 10, 11, 12, 13, 14, 15, 16, 17, 18, 19, 20, 21, 22] [(w.heap.size + 1 + 1, Obj.cells (wcs 0) 27 (0, 0)), (w.heap.size + 1, Obj.cells (totA leaf) 29 (0, 0)), (w.heap.size, Obj.cells (totA root) 29 (0, 0))] rfl E1.out ?_
  refine lexH_phase [0, 1, 2, 3, 4, 5, 6, 7, 8, 9, 10, 11, 12, 13, 14, 15, 16, 17, 18, 19, 20, 21, 22] [] ?_
  have hw1 : EnvX w _ [(w.heap.size + 1 + 1, Obj.cells (wcs 0) 27 (0, 0)), (w.heap.size + 1, Obj.cells (totA leaf) 29 (0, 0)), (w.heap.size, Obj.cells (totA root) 29 (0, 0))] := E1.out
  have hone := @EnvC.one _ _ _ hw1
  (refine wpG_op rfl rfl rfl ?_; intro K hK; go_big_quiet_op; go_big_quiet_on)
  (refine wpG_val (v := .int .i64 root.n) rfl rfl (fun u hu => load_any_op u (box_totN hu (List.Mem.tail _ (List.Mem.tail _ (List.Mem.head _))) HR.out.len) rfl) ?_ hw1; intro K hK; go_big_quiet_op; go_big_quiet_on)
  (refine wpG_val (v := .bool true) rfl rfl (fun u hu => lssI_op u C2.out rfl rfl) ?_ hw1; intro K hK; go_big_quiet_op; go_big_quiet_on)
  (refine wpG_op rfl rfl rfl ?_; intro K hK; go_big_quiet_op; go_big_quiet_on)
  (refine wpG_skip rfl rfl ?_ hw1; intro K hK; go_big_quiet_op; go_big_quiet_on)
  (refine wpG_skip rfl rfl ?_ hw1; intro K hK; go_big_quiet_op; go_big_quiet_on)
  (refine wpG_skip rfl rfl ?_ hw1; intro K hK; go_big_quiet_op; go_big_quiet_on)
  (refine wpG_op rfl rfl rfl ?_; intro K hK; go_big_quiet_op; go_big_quiet_on)
  (refine wpG_op rfl rfl rfl ?_; intro K hK; go_big_quiet_op; go_big_quiet_on)
  (refine wpG_skip rfl rfl ?_ hw1; intro K hK; go_big_quiet_op; go_big_quiet_on)
  (refine wpG_skip rfl rfl ?_ hw1; intro K hK; go_big_quiet_op; go_big_quiet_on)
  (refine wpG_op rfl rfl rfl ?_; intro K hK; go_big_quiet_op; go_big_quiet_on)
  (refine wpG_op rfl rfl rfl ?_; intro K hK; go_big_quiet_op; go_big_quiet_on)
  (refine wpG_skip rfl rfl ?_ hw1; intro K hK; go_big_quiet_op; go_big_quiet_on)
  (refine wpG_skip rfl rfl ?_ hw1; intro K hK; go_big_quiet_op; go_big_quiet_on)
  (refine wpG_skip rfl rfl ?_ hw1; intro K hK; go_big_quiet_op; go_big_quiet_on)
  (refine wpG_skip rfl rfl ?_ hw1; intro K hK; go_big_quiet_op; go_big_quiet_on)
  (refine wpG_op rfl rfl rfl ?_; intro K hK; go_big_quiet_op; go_big_quiet_on)
  (refine wpG_op rfl rfl rfl ?_; intro K hK; go_big_quiet_op; go_big_quiet_on)
  (refine wpG_skip rfl rfl ?_ hw1; intro K hK; go_big_quiet_op; go_big_quiet_on)
  (refine wpG_skip rfl rfl ?_ hw1; intro K hK; go_big_quiet_op; go_big_quiet_on)
  (refine wpG_skip rfl rfl ?_ hw1; intro K hK; go_big_quiet_op; go_big_quiet_on)
  (refine wpG_op rfl rfl rfl ?_; intro K hK; go_big_quiet_op; go_big_quiet_on)
  clear hone hw1
  refine wpG_nil ?_
  intro u3 E2'
  have EX2 := Lib.hid E2'
  clear E2'
  go_upto_region 2 with (fail)
  refine wp_region_Hx (w0 := w) [0, 1, 2] [(w.heap.size + 1 + 1, Obj.cells (wcs 0) 27 (0, 0)), (w.heap.size + 1, Obj.cells (totA leaf) 29 (0, 0)), (w.heap.size, Obj.cells (totA root) 29 (0, 0))] rfl EX2.out ?_
  refine lexH_phase [0] [1, 2] ?_
  have hw4 : EnvX w _ [(w.heap.size + 1 + 1, Obj.cells (wcs 0) 27 (0, 0)), (w.heap.size + 1, Obj.cells (totA leaf) 29 (0, 0)), (w.heap.size, Obj.cells (totA root) 29 (0, 0))] := EX2.out
  have hone := @EnvC.one _ _ _ hw4
  (refine wpG_val (v := .agg (wcs 0)) rfl rfl (fun u hu => buildA_op u built_w0) ?_ hw4; intro K hK; go_big_quiet_op; go_big_quiet_on)
  clear hone hw4
  refine wpG_nil ?_
  refine (hOp_store rfl (w.heap.size + 1 + 1) (wcs 0) rfl rfl HLE.out 27 ((wcs 0)) (List.Mem.head _) (wc_info _) ((wc_size _).trans (wc_size _).symm) (wc_one _) [(w.heap.size + 1 + 1, Obj.cells (wcs 0) 27 (0, 0))] (List.forall_mem_cons.2 ⟨.inl rfl, (fun _ h => by cases h)⟩) ?_)
  intro he5
  refine lexH_phase [2] [] ?_
  have hw6 : EnvX w _ [(w.heap.size + 1 + 1, Obj.cells (wcs 0) 27 (0, 0))] := he5.choose_spec
  have hone := @EnvC.one _ _ _ hw6
  (refine wpG_op rfl rfl rfl ?_; intro K hK; go_big_quiet_op; go_big_quiet_on)
  clear hone hw6
  refine wpG_nil ?_
  intro u8 E2'
  have EX7 := Lib.hid E2'
  clear E2'
  have Q0 := Lib.hid (EnvX.box EX7.out _ _ (List.Mem.head _))
  have HBEL := Lib.hid EX7.out.bel
  clear EX7
  go_wp2_with ((with_reducible refine bodyPost_ret (v := .tuple #[.agg (wcs 0), .bool false]) ?_ ?_ ?_); (exact results_row_slot (p := 8) (q := 9) (ty := 27) Tryd.results16 _ _ (w.heap.size + 1 + 1) 27 (wcs 0) (0, 0) _ rfl _ rfl Q0.out Tryd.underlying27 rfl (wc_info _)); (rfl))
  first | exact ⟨rfl, HBEL.out⟩ | exact HBEL.out
set_option maxRecDepth 20000 in
set_option maxHeartbeats 4000000 in
theorem rmcheck_b (root leaf : Tot) (i : Int) (p : List Tot) (A : Option Addr) (m c : Nat) (w : World) (hr : okT root) (hlf : okT leaf) (hm : p.length = m) (hm6 : m ≤ 1000000) (hmc : m ≤ c) (hcm : c ≤ maxLen) (hI : okTs p) (hA : TotsIn w w.heap.size A p) (k1 : ¬ root.n < 1) (k2 : 64 < root.n) :
    Calls Tryd.prog 16 #[totV root, .int .i64 i, totV leaf, .slice A m c] w fun e w' => e = .returned (.tuple #[.agg (wcs (mcheckT root i leaf p).1), .bool (mcheckT root i leaf p).2]) ∧ Below w.heap.size w w' := by
  rw [show mcheckT root i leaf p = (0, false) by unfold mcheckT; rw [if_neg (by omega)]]
  have C2 : Hid (decide (root.n < 1) = false) := decide_eq_false (by omega)
  have C6 : Hid (decide ((64 : Int) < root.n) = true) := decide_eq_true (by omega)
  clear k1 k2
  have HR := Lib.hid hr
  have HF := Lib.hid hlf
  have HP := Lib.hid (And.intro hI hA)
  have HM := Lib.hid hm
  have HLE : Hid (w.heap.size ≤ w.heap.size + 1 + 1) := by show _ ≤ _; omega
  have E1 : Hid (EnvX w (((w.alloc (.cells (totA root) 29)).alloc (.cells (totA leaf) 29)).alloc (.cells (wcs 0) 27)) [(w.heap.size + 1 + 1, Obj.cells (wcs 0) 27 (0, 0)), (w.heap.size + 1, Obj.cells (totA leaf) 29 (0, 0)), (w.heap.size, Obj.cells (totA root) 29 (0, 0))]) := EnvX.three _ _ _
  clear hr hlf hI hA hm
  unfold maxLen at hcm
  unfold totV
  go_enter Tryd.func16, Tryd.ntmps16
  go_upto_region 1 with (fail)
  rw [zero_wcs]
  generalize ((w.alloc (.cells (totA root) 29)).alloc (.cells (totA leaf) 29)).alloc (.cells (wcs 0) 27) = W at *
  refine wp_region_Hx (w0 := w) [0, 1, 2, 3, 4, 5, 6, 7, 8, 9, 10, 11, 12, 13, 14, 15, 16, 17, 18, 19, 20, 21, 22] [(w.heap.size + 1 + 1, Obj.cells (wcs 0) 27 (0, 0)), (w.heap.size + 1, Obj.cells (totA leaf) 29 (0, 0)), (w.heap.size, Obj.cells (totA root) 29 (0, 0))] rfl E1.out ?_
  refine lexH_phase [0, 1, 2, 3, 4, 5, 6, 7, 8, 9, 10, 11, 12, 13, 14, 15, 16, 17, 18, 19, 20, 21, 22] [] ?_
  have hw1 : EnvX w _ [(w.heap.size + 1 + 1, Obj.cells (wcs 0) 27 (0, 0)), (w.heap.size + 1, Obj.cells (totA leaf) 29 (0, 0)), (w.heap.size, Obj.cells (totA root) 29 (0, 0))] := E1.out
  have hone := @EnvC.one _ _ _ hw1
  (refine wpG_op rfl rfl rfl ?_; intro K hK; go_big_quiet_op; go_big_quiet_on)
  (refine wpG_val (v := .int .i64 root.n) rfl rfl (fun u hu => load_any_op u (box_totN hu (List.Mem.tail _ (List.Mem.tail _ (List.Mem.head _))) HR.out.len) rfl) ?_ hw1; intro K hK; go_big_quiet_op; go_big_quiet_on)
  (refine wpG_val (v := .bool false) rfl rfl (fun u hu => lssI_op u C2.out rfl rfl) ?_ hw1; intro K hK; go_big_quiet_op; go_big_quiet_on)
  (refine wpG_op rfl rfl rfl ?_; intro K hK; go_big_quiet_op; go_big_quiet_on)
  (refine wpG_op rfl rfl rfl ?_; intro K hK; go_big_quiet_op; go_big_quiet_on)
  (refine wpG_val (v := .int .i64 root.n) rfl rfl (fun u hu => load_any_op u (box_totN hu (List.Mem.tail _ (List.Mem.tail _ (List.Mem.head _))) HR.out.len) rfl) ?_ hw1; intro K hK; go_big_quiet_op; go_big_quiet_on)
  (refine wpG_val (v := .bool true) rfl rfl (fun u hu => gtrI_op u C6.out rfl rfl) ?_ hw1; intro K hK; go_big_quiet_op; go_big_quiet_on)
  (refine wpG_op rfl rfl rfl ?_; intro K hK; go_big_quiet_op; go_big_quiet_on)
  (refine wpG_op rfl rfl rfl ?_; intro K hK; go_big_quiet_op; go_big_quiet_on)
  (refine wpG_skip rfl rfl ?_ hw1; intro K hK; go_big_quiet_op; go_big_quiet_on)
  (refine wpG_skip rfl rfl ?_ hw1; intro K hK; go_big_quiet_op; go_big_quiet_on)
  (refine wpG_op rfl rfl rfl ?_; intro K hK; go_big_quiet_op; go_big_quiet_on)
  (refine wpG_op rfl rfl rfl ?_; intro K hK; go_big_quiet_op; go_big_quiet_on)
  (refine wpG_skip rfl rfl ?_ hw1; intro K hK; go_big_quiet_op; go_big_quiet_on)
  (refine wpG_skip rfl rfl ?_ hw1; intro K hK; go_big_quiet_op; go_big_quiet_on)
  (refine wpG_skip rfl rfl ?_ hw1; intro K hK; go_big_quiet_op; go_big_quiet_on)
  (refine wpG_skip rfl rfl ?_ hw1; intro K hK; go_big_quiet_op; go_big_quiet_on)
  (refine wpG_op rfl rfl rfl ?_; intro K hK; go_big_quiet_op; go_big_quiet_on)
  (refine wpG_op rfl rfl rfl ?_; intro K hK; go_big_quiet_op; go_big_quiet_on)
  (refine wpG_skip rfl rfl ?_ hw1; intro K hK; go_big_quiet_op; go_big_quiet_on)
  (refine wpG_skip rfl rfl ?_ hw1; intro K hK; go_big_quiet_op; go_big_quiet_on)
  (refine wpG_skip rfl rfl ?_ hw1; intro K hK; go_big_quiet_op; go_big_quiet_on)
  (refine wpG_op rfl rfl rfl ?_; intro K hK; go_big_quiet_op; go_big_quiet_on)
  clear hone hw1
  refine wpG_nil ?_
  intro u3 E2'
  have EX2 := Lib.hid E2'
  clear E2'
  go_upto_region 2 with (fail)
  refine wp_region_Hx (w0 := w) [0, 1, 2] [(w.heap.size + 1 + 1, Obj.cells (wcs 0) 27 (0, 0)), (w.heap.size + 1, Obj.cells (totA leaf) 29 (0, 0)), (w.heap.size, Obj.cells (totA root) 29 (0, 0))] rfl EX2.out ?_
  refine lexH_phase [0] [1, 2] ?_
  have hw4 : EnvX w _ [(w.heap.size + 1 + 1, Obj.cells (wcs 0) 27 (0, 0)), (w.heap.size + 1, Obj.cells (totA leaf) 29 (0, 0)), (w.heap.size, Obj.cells (totA root) 29 (0, 0))] := EX2.out
  have hone := @EnvC.one _ _ _ hw4
  (refine wpG_val (v := .agg (wcs 0)) rfl rfl (fun u hu => buildA_op u built_w0) ?_ hw4; intro K hK; go_big_quiet_op; go_big_quiet_on)
  clear hone hw4
  refine wpG_nil ?_
  refine (hOp_store rfl (w.heap.size + 1 + 1) (wcs 0) rfl rfl HLE.out 27 ((wcs 0)) (List.Mem.head _) (wc_info _) ((wc_size _).trans (wc_size _).symm) (wc_one _) [(w.heap.size + 1 + 1, Obj.cells (wcs 0) 27 (0, 0))] (List.forall_mem_cons.2 ⟨.inl rfl, (fun _ h => by cases h)⟩) ?_)
  intro he5
  refine lexH_phase [2] [] ?_
  have hw6 : EnvX w _ [(w.heap.size + 1 + 1, Obj.cells (wcs 0) 27 (0, 0))] := he5.choose_spec
  have hone := @EnvC.one _ _ _ hw6
  (refine wpG_op rfl rfl rfl ?_; intro K hK; go_big_quiet_op; go_big_quiet_on)
  clear hone hw6
  refine wpG_nil ?_
  intro u8 E2'
  have EX7 := Lib.hid E2'
  clear E2'
  have Q0 := Lib.hid (EnvX.box EX7.out _ _ (List.Mem.head _))
  have HBEL := Lib.hid EX7.out.bel
  clear EX7
  go_wp2_with ((with_reducible refine bodyPost_ret (v := .tuple #[.agg (wcs 0), .bool false]) ?_ ?_ ?_); (exact results_row_slot (p := 8) (q := 9) (ty := 27) Tryd.results16 _ _ (w.heap.size + 1 + 1) 27 (wcs 0) (0, 0) _ rfl _ rfl Q0.out Tryd.underlying27 rfl (wc_info _)); (rfl))
  first | exact ⟨rfl, HBEL.out⟩ | exact HBEL.out
set_option maxRecDepth 20000 in
set_option maxHeartbeats 4000000 in
theorem rmcheck_d (root leaf : Tot) (i : Int) (p : List Tot) (A : Option Addr) (m c : Nat) (w : World) (hr : okT root) (hlf : okT leaf) (hm : p.length = m) (hm6 : m ≤ 1000000) (hmc : m ≤ c) (hcm : c ≤ maxLen) (hI : okTs p) (hA : TotsIn w w.heap.size A p) (k1 : ¬ root.n < 1) (k2 : ¬ 64 < root.n) (k3 : i < 0) :
    Calls Tryd.prog 16 #[totV root, .int .i64 i, totV leaf, .slice A m c] w fun e w' => e = .returned (.tuple #[.agg (wcs (mcheckT root i leaf p).1), .bool (mcheckT root i leaf p).2]) ∧ Below w.heap.size w w' := by
  rw [show mcheckT root i leaf p = (0, false) by unfold mcheckT; rw [if_neg (by omega)]]
  have C2 : Hid (decide (root.n < 1) = false) := decide_eq_false (by omega)
  have C6 : Hid (decide ((64 : Int) < root.n) = false) := decide_eq_false (by omega)
  have C10 : Hid (decide (i < 0) = true) := decide_eq_true (by omega)
  clear k1 k2 k3
  have HR := Lib.hid hr
  have HF := Lib.hid hlf
  have HP := Lib.hid (And.intro hI hA)
  have HM := Lib.hid hm
  have HLE : Hid (w.heap.size ≤ w.heap.size + 1 + 1) := by show _ ≤ _; omega
  have E1 : Hid (EnvX w (((w.alloc (.cells (totA root) 29)).alloc (.cells (totA leaf) 29)).alloc (.cells (wcs 0) 27)) [(w.heap.size + 1 + 1, Obj.cells (wcs 0) 27 (0, 0)), (w.heap.size + 1, Obj.cells (totA leaf) 29 (0, 0)), (w.heap.size, Obj.cells (totA root) 29 (0, 0))]) := EnvX.three _ _ _
  clear hr hlf hI hA hm
  unfold maxLen at hcm
  unfold totV
  go_enter Tryd.func16, Tryd.ntmps16
  go_upto_region 1 with (fail)
  rw [zero_wcs]
  generalize ((w.alloc (.cells (totA root) 29)).alloc (.cells (totA leaf) 29)).alloc (.cells (wcs 0) 27) = W at *
  refine wp_region_Hx (w0 := w) [0, 1, 2, 3, 4, 5, 6, 7, 8, 9, 10, 11, 12, 13, 14, 15, 16, 17, 18, 19, 20, 21, 22] [(w.heap.size + 1 + 1, Obj.cells (wcs 0) 27 (0, 0)), (w.heap.size + 1, Obj.cells (totA leaf) 29 (0, 0)), (w.heap.size, Obj.cells (totA root) 29 (0, 0))] rfl E1.out ?_
  refine lexH_phase [0, 1, 2, 3, 4, 5, 6, 7, 8, 9, 10, 11, 12, 13, 14, 15, 16, 17, 18, 19, 20, 21, 22] [] ?_
  have hw1 : EnvX w _ [(w.heap.size + 1 + 1, Obj.cells (wcs 0) 27 (0, 0)), (w.heap.size + 1, Obj.cells (totA leaf) 29 (0, 0)), (w.heap.size, Obj.cells (totA root) 29 (0, 0))] := E1.out
  have hone := @EnvC.one _ _ _ hw1
  (refine wpG_op rfl rfl rfl ?_; intro K hK; go_big_quiet_op; go_big_quiet_on)
  (refine wpG_val (v := .int .i64 root.n) rfl rfl (fun u hu => load_any_op u (box_totN hu (List.Mem.tail _ (List.Mem.tail _ (List.Mem.head _))) HR.out.len) rfl) ?_ hw1; intro K hK; go_big_quiet_op; go_big_quiet_on)
  (refine wpG_val (v := .bool false) rfl rfl (fun u hu => lssI_op u C2.out rfl rfl) ?_ hw1; intro K hK; go_big_quiet_op; go_big_quiet_on)
  (refine wpG_op rfl rfl rfl ?_; intro K hK; go_big_quiet_op; go_big_quiet_on)
  (refine wpG_op rfl rfl rfl ?_; intro K hK; go_big_quiet_op; go_big_quiet_on)
  (refine wpG_val (v := .int .i64 root.n) rfl rfl (fun u hu => load_any_op u (box_totN hu (List.Mem.tail _ (List.Mem.tail _ (List.Mem.head _))) HR.out.len) rfl) ?_ hw1; intro K hK; go_big_quiet_op; go_big_quiet_on)
  (refine wpG_val (v := .bool false) rfl rfl (fun u hu => gtrI_op u C6.out rfl rfl) ?_ hw1; intro K hK; go_big_quiet_op; go_big_quiet_on)
  (refine wpG_op rfl rfl rfl ?_; intro K hK; go_big_quiet_op; go_big_quiet_on)
  (refine wpG_op rfl rfl rfl ?_; intro K hK; go_big_quiet_op; go_big_quiet_on)
  (refine wpG_op rfl rfl rfl ?_; intro K hK; go_big_quiet_op; go_big_quiet_on)
  (refine wpG_val (v := .bool true) rfl rfl (fun u hu => lssI_op u C10.out rfl rfl) ?_ hw1; intro K hK; go_big_quiet_op; go_big_quiet_on)
  (refine wpG_op rfl rfl rfl ?_; intro K hK; go_big_quiet_op; go_big_quiet_on)
  (refine wpG_op rfl rfl rfl ?_; intro K hK; go_big_quiet_op; go_big_quiet_on)
  (refine wpG_skip rfl rfl ?_ hw1; intro K hK; go_big_quiet_op; go_big_quiet_on)
  (refine wpG_skip rfl rfl ?_ hw1; intro K hK; go_big_quiet_op; go_big_quiet_on)
  (refine wpG_skip rfl rfl ?_ hw1; intro K hK; go_big_quiet_op; go_big_quiet_on)
  (refine wpG_skip rfl rfl ?_ hw1; intro K hK; go_big_quiet_op; go_big_quiet_on)
  (refine wpG_op rfl rfl rfl ?_; intro K hK; go_big_quiet_op; go_big_quiet_on)
  (refine wpG_op rfl rfl rfl ?_; intro K hK; go_big_quiet_op; go_big_quiet_on)
  (refine wpG_skip rfl rfl ?_ hw1; intro K hK; go_big_quiet_op; go_big_quiet_on)
  (refine wpG_skip rfl rfl ?_ hw1; intro K hK; go_big_quiet_op; go_big_quiet_on)
  (refine wpG_skip rfl rfl ?_ hw1; intro K hK; go_big_quiet_op; go_big_quiet_on)
  (refine wpG_op rfl rfl rfl ?_; intro K hK; go_big_quiet_op; go_big_quiet_on)
  clear hone hw1
  refine wpG_nil ?_
  intro u3 E2'
  have EX2 := Lib.hid E2'
  clear E2'
  go_upto_region 2 with (fail)
  refine wp_region_Hx (w0 := w) [0, 1, 2] [(w.heap.size + 1 + 1, Obj.cells (wcs 0) 27 (0, 0)), (w.heap.size + 1, Obj.cells (totA leaf) 29 (0, 0)), (w.heap.size, Obj.cells (totA root) 29 (0, 0))] rfl EX2.out ?_
  refine lexH_phase [0] [1, 2] ?_
  have hw4 : EnvX w _ [(w.heap.size + 1 + 1, Obj.cells (wcs 0) 27 (0, 0)), (w.heap.size + 1, Obj.cells (totA leaf) 29 (0, 0)), (w.heap.size, Obj.cells (totA root) 29 (0, 0))] := EX2.out
  have hone := @EnvC.one _ _ _ hw4
  (refine wpG_val (v := .agg (wcs 0)) rfl rfl (fun u hu => buildA_op u built_w0) ?_ hw4; intro K hK; go_big_quiet_op; go_big_quiet_on)
  clear hone hw4
  refine wpG_nil ?_
  refine (hOp_store rfl (w.heap.size + 1 + 1) (wcs 0) rfl rfl HLE.out 27 ((wcs 0)) (List.Mem.head _) (wc_info _) ((wc_size _).trans (wc_size _).symm) (wc_one _) [(w.heap.size + 1 + 1, Obj.cells (wcs 0) 27 (0, 0))] (List.forall_mem_cons.2 ⟨.inl rfl, (fun _ h => by cases h)⟩) ?_)
  intro he5
  refine lexH_phase [2] [] ?_
  have hw6 : EnvX w _ [(w.heap.size + 1 + 1, Obj.cells (wcs 0) 27 (0, 0))] := he5.choose_spec
  have hone := @EnvC.one _ _ _ hw6
  (refine wpG_op rfl rfl rfl ?_; intro K hK; go_big_quiet_op; go_big_quiet_on)
  clear hone hw6
  refine wpG_nil ?_
  intro u8 E2'
  have EX7 := Lib.hid E2'
  clear E2'
  have Q0 := Lib.hid (EnvX.box EX7.out _ _ (List.Mem.head _))
  have HBEL := Lib.hid EX7.out.bel
  clear EX7
  go_wp2_with ((with_reducible refine bodyPost_ret (v := .tuple #[.agg (wcs 0), .bool false]) ?_ ?_ ?_); (exact results_row_slot (p := 8) (q := 9) (ty := 27) Tryd.results16 _ _ (w.heap.size + 1 + 1) 27 (wcs 0) (0, 0) _ rfl _ rfl Q0.out Tryd.underlying27 rfl (wc_info _)); (rfl))
  first | exact ⟨rfl, HBEL.out⟩ | exact HBEL.out
set_option maxRecDepth 20000 in
set_option maxHeartbeats 4000000 in
theorem rmcheck_e (root leaf : Tot) (i : Int) (p : List Tot) (A : Option Addr) (m c : Nat) (w : World) (hr : okT root) (hlf : okT leaf) (hm : p.length = m) (hm6 : m ≤ 1000000) (hmc : m ≤ c) (hcm : c ≤ maxLen) (hI : okTs p) (hA : TotsIn w w.heap.size A p) (k1 : ¬ root.n < 1) (k2 : ¬ 64 < root.n) (k3 : ¬ i < 0) (k4 : root.n ≤ i) :
    Calls Tryd.prog 16 #[totV root, .int .i64 i, totV leaf, .slice A m c] w fun e w' => e = .returned (.tuple #[.agg (wcs (mcheckT root i leaf p).1), .bool (mcheckT root i leaf p).2]) ∧ Below w.heap.size w w' := by
  rw [show mcheckT root i leaf p = (0, false) by unfold mcheckT; rw [if_neg (by omega)]]
  have C2 : Hid (decide (root.n < 1) = false) := decide_eq_false (by omega)
  have C6 : Hid (decide ((64 : Int) < root.n) = false) := decide_eq_false (by omega)
  have C10 : Hid (decide (i < 0) = false) := decide_eq_false (by omega)
  have C16 : Hid (decide (root.n ≤ i) = true) := decide_eq_true (by omega)
  clear k1 k2 k3 k4
  have HR := Lib.hid hr
  have HF := Lib.hid hlf
  have HP := Lib.hid (And.intro hI hA)
  have HM := Lib.hid hm
  have HLE : Hid (w.heap.size ≤ w.heap.size + 1 + 1) := by show _ ≤ _; omega
  have E1 : Hid (EnvX w (((w.alloc (.cells (totA root) 29)).alloc (.cells (totA leaf) 29)).alloc (.cells (wcs 0) 27)) [(w.heap.size + 1 + 1, Obj.cells (wcs 0) 27 (0, 0)), (w.heap.size + 1, Obj.cells (totA leaf) 29 (0, 0)), (w.heap.size, Obj.cells (totA root) 29 (0, 0))]) := EnvX.three _ _ _
  clear hr hlf hI hA hm
  unfold maxLen at hcm
  unfold totV
  go_enter Tryd.func16, Tryd.ntmps16
  go_upto_region 1 with (fail)
  rw [zero_wcs]
  generalize ((w.alloc (.cells (totA root) 29)).alloc (.cells (totA leaf) 29)).alloc (.cells (wcs 0) 27) = W at *
  refine wp_region_Hx (w0 := w) [0, 1, 2, 3, 4, 5, 6, 7, 8, 9, 10, 11, 12, 13, 14, 15, 16, 17, 18, 19, 20, 21, 22] [(w.heap.size + 1 + 1, Obj.cells (wcs 0) 27 (0, 0)), (w.heap.size + 1, Obj.cells (totA leaf) 29 (0, 0)), (w.heap.size, Obj.cells (totA root) 29 (0, 0))] rfl E1.out ?_
  refine lexH_phase [0, 1, 2, 3, 4, 5, 6, 7, 8, 9, 10, 11, 12, 13, 14, 15, 16, 17, 18, 19, 20, 21, 22] [] ?_
  have hw1 : EnvX w _ [(w.heap.size + 1 + 1, Obj.cells (wcs 0) 27 (0, 0)), (w.heap.size + 1, Obj.cells (totA leaf) 29 (0, 0)), (w.heap.size, Obj.cells (totA root) 29 (0, 0))] := E1.out
  have hone := @EnvC.one _ _ _ hw1
  (refine wpG_op rfl rfl rfl ?_; intro K hK; go_big_quiet_op; go_big_quiet_on)
  (refine wpG_val (v := .int .i64 root.n) rfl rfl (fun u hu => load_any_op u (box_totN hu (List.Mem.tail _ (List.Mem.tail _ (List.Mem.head _))) HR.out.len) rfl) ?_ hw1; intro K hK; go_big_quiet_op; go_big_quiet_on)
  (refine wpG_val (v := .bool false) rfl rfl (fun u hu => lssI_op u C2.out rfl rfl) ?_ hw1; intro K hK; go_big_quiet_op; go_big_quiet_on)
  (refine wpG_op rfl rfl rfl ?_; intro K hK; go_big_quiet_op; go_big_quiet_on)
  (refine wpG_op rfl rfl rfl ?_; intro K hK; go_big_quiet_op; go_big_quiet_on)
  (refine wpG_val (v := .int .i64 root.n) rfl rfl (fun u hu => load_any_op u (box_totN hu (List.Mem.tail _ (List.Mem.tail _ (List.Mem.head _))) HR.out.len) rfl) ?_ hw1; intro K hK; go_big_quiet_op; go_big_quiet_on)
  (refine wpG_val (v := .bool false) rfl rfl (fun u hu => gtrI_op u C6.out rfl rfl) ?_ hw1; intro K hK; go_big_quiet_op; go_big_quiet_on)
  (refine wpG_op rfl rfl rfl ?_; intro K hK; go_big_quiet_op; go_big_quiet_on)
  (refine wpG_op rfl rfl rfl ?_; intro K hK; go_big_quiet_op; go_big_quiet_on)
  (refine wpG_op rfl rfl rfl ?_; intro K hK; go_big_quiet_op; go_big_quiet_on)
  (refine wpG_val (v := .bool false) rfl rfl (fun u hu => lssI_op u C10.out rfl rfl) ?_ hw1; intro K hK; go_big_quiet_op; go_big_quiet_on)
  (refine wpG_op rfl rfl rfl ?_; intro K hK; go_big_quiet_op; go_big_quiet_on)
  (refine wpG_op rfl rfl rfl ?_; intro K hK; go_big_quiet_op; go_big_quiet_on)
  (refine wpG_op rfl rfl rfl ?_; intro K hK; go_big_quiet_op; go_big_quiet_on)
  (refine wpG_op rfl rfl rfl ?_; intro K hK; go_big_quiet_op; go_big_quiet_on)
  (refine wpG_val (v := .int .i64 root.n) rfl rfl (fun u hu => load_any_op u (box_totN hu (List.Mem.tail _ (List.Mem.tail _ (List.Mem.head _))) HR.out.len) rfl) ?_ hw1; intro K hK; go_big_quiet_op; go_big_quiet_on)
  (refine wpG_val (v := .bool true) rfl rfl (fun u hu => geq_op u C16.out rfl rfl) ?_ hw1; intro K hK; go_big_quiet_op; go_big_quiet_on)
  (refine wpG_op rfl rfl rfl ?_; intro K hK; go_big_quiet_op; go_big_quiet_on)
  (refine wpG_op rfl rfl rfl ?_; intro K hK; go_big_quiet_op; go_big_quiet_on)
  (refine wpG_skip rfl rfl ?_ hw1; intro K hK; go_big_quiet_op; go_big_quiet_on)
  (refine wpG_skip rfl rfl ?_ hw1; intro K hK; go_big_quiet_op; go_big_quiet_on)
  (refine wpG_skip rfl rfl ?_ hw1; intro K hK; go_big_quiet_op; go_big_quiet_on)
  (refine wpG_op rfl rfl rfl ?_; intro K hK; go_big_quiet_op; go_big_quiet_on)
  clear hone hw1
  refine wpG_nil ?_
  intro u3 E2'
  have EX2 := Lib.hid E2'
  clear E2'
  go_upto_region 2 with (fail)
  refine wp_region_Hx (w0 := w) [0, 1, 2] [(w.heap.size + 1 + 1, Obj.cells (wcs 0) 27 (0, 0)), (w.heap.size + 1, Obj.cells (totA leaf) 29 (0, 0)), (w.heap.size, Obj.cells (totA root) 29 (0, 0))] rfl EX2.out ?_
  refine lexH_phase [0] [1, 2] ?_
  have hw4 : EnvX w _ [(w.heap.size + 1 + 1, Obj.cells (wcs 0) 27 (0, 0)), (w.heap.size + 1, Obj.cells (totA leaf) 29 (0, 0)), (w.heap.size, Obj.cells (totA root) 29 (0, 0))] := EX2.out
  have hone := @EnvC.one _ _ _ hw4
  (refine wpG_val (v := .agg (wcs 0)) rfl rfl (fun u hu => buildA_op u built_w0) ?_ hw4; intro K hK; go_big_quiet_op; go_big_quiet_on)
  clear hone hw4
  refine wpG_nil ?_
  refine (hOp_store rfl (w.heap.size + 1 + 1) (wcs 0) rfl rfl HLE.out 27 ((wcs 0)) (List.Mem.head _) (wc_info _) ((wc_size _).trans (wc_size _).symm) (wc_one _) [(w.heap.size + 1 + 1, Obj.cells (wcs 0) 27 (0, 0))] (List.forall_mem_cons.2 ⟨.inl rfl, (fun _ h => by cases h)⟩) ?_)
  intro he5
  refine lexH_phase [2] [] ?_
  have hw6 : EnvX w _ [(w.heap.size + 1 + 1, Obj.cells (wcs 0) 27 (0, 0))] := he5.choose_spec
  have hone := @EnvC.one _ _ _ hw6
  (refine wpG_op rfl rfl rfl ?_; intro K hK; go_big_quiet_op; go_big_quiet_on)
  clear hone hw6
  refine wpG_nil ?_
  intro u8 E2'
  have EX7 := Lib.hid E2'
  clear E2'
  have Q0 := Lib.hid (EnvX.box EX7.out _ _ (List.Mem.head _))
  have HBEL := Lib.hid EX7.out.bel
  clear EX7
  go_wp2_with ((with_reducible refine bodyPost_ret (v := .tuple #[.agg (wcs 0), .bool false]) ?_ ?_ ?_); (exact results_row_slot (p := 8) (q := 9) (ty := 27) Tryd.results16 _ _ (w.heap.size + 1 + 1) 27 (wcs 0) (0, 0) _ rfl _ rfl Q0.out Tryd.underlying27 rfl (wc_info _)); (rfl))
  first | exact ⟨rfl, HBEL.out⟩ | exact HBEL.out
set_option maxRecDepth 20000 in
set_option maxHeartbeats 4000000 in
theorem rmcheck_f (root leaf : Tot) (i : Int) (p : List Tot) (A : Option Addr) (m c : Nat) (w : World) (hr : okT root) (hlf : okT leaf) (hm : p.length = m) (hm6 : m ≤ 1000000) (hmc : m ≤ c) (hcm : c ≤ maxLen) (hI : okTs p) (hA : TotsIn w w.heap.size A p) (k1 : ¬ root.n < 1) (k2 : ¬ 64 < root.n) (k3 : ¬ i < 0) (k4 : ¬ root.n ≤ i) (k5 : leaf.n ≠ 1) :
    Calls Tryd.prog 16 #[totV root, .int .i64 i, totV leaf, .slice A m c] w fun e w' => e = .returned (.tuple #[.agg (wcs (mcheckT root i leaf p).1), .bool (mcheckT root i leaf p).2]) ∧ Below w.heap.size w w' := by
  rw [show mcheckT root i leaf p = (0, false) by unfold mcheckT; rw [if_neg (by omega)]]
  have C2 : Hid (decide (root.n < 1) = false) := decide_eq_false (by omega)
  have C6 : Hid (decide ((64 : Int) < root.n) = false) := decide_eq_false (by omega)
  have C10 : Hid (decide (i < 0) = false) := decide_eq_false (by omega)
  have C16 : Hid (decide (root.n ≤ i) = false) := decide_eq_false (by omega)
  have C21 : Hid (decide (leaf.n ≠ 1) = true) := decide_eq_true (by omega)
  clear k1 k2 k3 k4 k5
  have HR := Lib.hid hr
  have HF := Lib.hid hlf
  have HP := Lib.hid (And.intro hI hA)
  have HM := Lib.hid hm
  have HLE : Hid (w.heap.size ≤ w.heap.size + 1 + 1) := by show _ ≤ _; omega
  have E1 : Hid (EnvX w (((w.alloc (.cells (totA root) 29)).alloc (.cells (totA leaf) 29)).alloc (.cells (wcs 0) 27)) [(w.heap.size + 1 + 1, Obj.cells (wcs 0) 27 (0, 0)), (w.heap.size + 1, Obj.cells (totA leaf) 29 (0, 0)), (w.heap.size, Obj.cells (totA root) 29 (0, 0))]) := EnvX.three _ _ _
  clear hr hlf hI hA hm
  unfold maxLen at hcm
  unfold totV
  go_enter Tryd.func16, Tryd.ntmps16
  go_upto_region 1 with (fail)
  rw [zero_wcs]
  generalize ((w.alloc (.cells (totA root) 29)).alloc (.cells (totA leaf) 29)).alloc (.cells (wcs 0) 27) = W at *
  refine wp_region_Hx (w0 := w) [0, 1, 2, 3, 4, 5, 6, 7, 8, 9, 10, 11, 12, 13, 14, 15, 16, 17, 18, 19, 20, 21, 22] [(w.heap.size + 1 + 1, Obj.cells (wcs 0) 27 (0, 0)), (w.heap.size + 1, Obj.cells (totA leaf) 29 (0, 0)), (w.heap.size, Obj.cells (totA root) 29 (0, 0))] rfl E1.out ?_
  refine lexH_phase [0, 1, 2, 3, 4, 5, 6, 7, 8, 9, 10, 11, 12, 13, 14, 15, 16, 17, 18, 19, 20, 21, 22] [] ?_
  have hw1 : EnvX w _ [(w.heap.size + 1 + 1, Obj.cells (wcs 0) 27 (0, 0)), (w.heap.size + 1, Obj.cells (totA leaf) 29 (0, 0)), (w.heap.size, Obj.cells (totA root) 29 (0, 0))] := E1.out
  have hone := @EnvC.one _ _ _ hw1
  (refine wpG_op rfl rfl rfl ?_; intro K hK; go_big_quiet_op; go_big_quiet_on)
  (refine wpG_val (v := .int .i64 root.n) rfl rfl (fun u hu => load_any_op u (box_totN hu (List.Mem.tail _ (List.Mem.tail _ (List.Mem.head _))) HR.out.len) rfl) ?_ hw1; intro K hK; go_big_quiet_op; go_big_quiet_on)
  (refine wpG_val (v := .bool false) rfl rfl (fun u hu => lssI_op u C2.out rfl rfl) ?_ hw1; intro K hK; go_big_quiet_op; go_big_quiet_on)
  (refine wpG_op rfl rfl rfl ?_; intro K hK; go_big_quiet_op; go_big_quiet_on)
  (refine wpG_op rfl rfl rfl ?_; intro K hK; go_big_quiet_op; go_big_quiet_on)
  (refine wpG_val (v := .int .i64 root.n) rfl rfl (fun u hu => load_any_op u (box_totN hu (List.Mem.tail _ (List.Mem.tail _ (List.Mem.head _))) HR.out.len) rfl) ?_ hw1; intro K hK; go_big_quiet_op; go_big_quiet_on)
  (refine wpG_val (v := .bool false) rfl rfl (fun u hu => gtrI_op u C6.out rfl rfl) ?_ hw1; intro K hK; go_big_quiet_op; go_big_quiet_on)
  (refine wpG_op rfl rfl rfl ?_; intro K hK; go_big_quiet_op; go_big_quiet_on)
  (refine wpG_op rfl rfl rfl ?_; intro K hK; go_big_quiet_op; go_big_quiet_on)
  (refine wpG_op rfl rfl rfl ?_; intro K hK; go_big_quiet_op; go_big_quiet_on)
  (refine wpG_val (v := .bool false) rfl rfl (fun u hu => lssI_op u C10.out rfl rfl) ?_ hw1; intro K hK; go_big_quiet_op; go_big_quiet_on)
  (refine wpG_op rfl rfl rfl ?_; intro K hK; go_big_quiet_op; go_big_quiet_on)
  (refine wpG_op rfl rfl rfl ?_; intro K hK; go_big_quiet_op; go_big_quiet_on)
  (refine wpG_op rfl rfl rfl ?_; intro K hK; go_big_quiet_op; go_big_quiet_on)
  (refine wpG_op rfl rfl rfl ?_; intro K hK; go_big_quiet_op; go_big_quiet_on)
  (refine wpG_val (v := .int .i64 root.n) rfl rfl (fun u hu => load_any_op u (box_totN hu (List.Mem.tail _ (List.Mem.tail _ (List.Mem.head _))) HR.out.len) rfl) ?_ hw1; intro K hK; go_big_quiet_op; go_big_quiet_on)
  (refine wpG_val (v := .bool false) rfl rfl (fun u hu => geq_op u C16.out rfl rfl) ?_ hw1; intro K hK; go_big_quiet_op; go_big_quiet_on)
  (refine wpG_op rfl rfl rfl ?_; intro K hK; go_big_quiet_op; go_big_quiet_on)
  (refine wpG_op rfl rfl rfl ?_; intro K hK; go_big_quiet_op; go_big_quiet_on)
  (refine wpG_op rfl rfl rfl ?_; intro K hK; go_big_quiet_op; go_big_quiet_on)
  (refine wpG_val (v := .int .i64 leaf.n) rfl rfl (fun u hu => load_any_op u (box_totN hu (List.Mem.tail _ (List.Mem.head _)) HF.out.len) rfl) ?_ hw1; intro K hK; go_big_quiet_op; go_big_quiet_on)
  (refine wpG_val (v := .bool true) rfl rfl (fun u hu => neqI_op u C21.out rfl rfl) ?_ hw1; intro K hK; go_big_quiet_op; go_big_quiet_on)
  (refine wpG_op rfl rfl rfl ?_; intro K hK; go_big_quiet_op; go_big_quiet_on)
  clear hone hw1
  refine wpG_nil ?_
  intro u3 E2'
  have EX2 := Lib.hid E2'
  clear E2'
  go_upto_region 2 with (fail)
  refine wp_region_Hx (w0 := w) [0, 1, 2] [(w.heap.size + 1 + 1, Obj.cells (wcs 0) 27 (0, 0)), (w.heap.size + 1, Obj.cells (totA leaf) 29 (0, 0)), (w.heap.size, Obj.cells (totA root) 29 (0, 0))] rfl EX2.out ?_
  refine lexH_phase [0] [1, 2] ?_
  have hw4 : EnvX w _ [(w.heap.size + 1 + 1, Obj.cells (wcs 0) 27 (0, 0)), (w.heap.size + 1, Obj.cells (totA leaf) 29 (0, 0)), (w.heap.size, Obj.cells (totA root) 29 (0, 0))] := EX2.out
  have hone := @EnvC.one _ _ _ hw4
  (refine wpG_val (v := .agg (wcs 0)) rfl rfl (fun u hu => buildA_op u built_w0) ?_ hw4; intro K hK; go_big_quiet_op; go_big_quiet_on)
  clear hone hw4
  refine wpG_nil ?_
  refine (hOp_store rfl (w.heap.size + 1 + 1) (wcs 0) rfl rfl HLE.out 27 ((wcs 0)) (List.Mem.head _) (wc_info _) ((wc_size _).trans (wc_size _).symm) (wc_one _) [(w.heap.size + 1 + 1, Obj.cells (wcs 0) 27 (0, 0))] (List.forall_mem_cons.2 ⟨.inl rfl, (fun _ h => by cases h)⟩) ?_)
  intro he5
  refine lexH_phase [2] [] ?_
  have hw6 : EnvX w _ [(w.heap.size + 1 + 1, Obj.cells (wcs 0) 27 (0, 0))] := he5.choose_spec
  have hone := @EnvC.one _ _ _ hw6
  (refine wpG_op rfl rfl rfl ?_; intro K hK; go_big_quiet_op; go_big_quiet_on)
  clear hone hw6
  refine wpG_nil ?_
  intro u8 E2'
  have EX7 := Lib.hid E2'
  clear E2'
  have Q0 := Lib.hid (EnvX.box EX7.out _ _ (List.Mem.head _))
  have HBEL := Lib.hid EX7.out.bel
  clear EX7
  go_wp2_with ((with_reducible refine bodyPost_ret (v := .tuple #[.agg (wcs 0), .bool false]) ?_ ?_ ?_); (exact results_row_slot (p := 8) (q := 9) (ty := 27) Tryd.results16 _ _ (w.heap.size + 1 + 1) 27 (wcs 0) (0, 0) _ rfl _ rfl Q0.out Tryd.underlying27 rfl (wc_info _)); (rfl))
  first | exact ⟨rfl, HBEL.out⟩ | exact HBEL.out
set_option maxRecDepth 20000 in
set_option maxHeartbeats 8000000 in
theorem rmcheck_l (root leaf : Tot) (i : Nat) (p : List Tot) (A : Option Addr) (m c : Nat) (w : World) (hr : okT root) (hlf : okT leaf) (hm : p.length = m) (hm6 : m ≤ 1000000) (hmc : m ≤ c) (hcm : c ≤ maxLen) (hI : okTs p) (hA : TotsIn w w.heap.size A p) (N q : Nat) (s : List Bool) (z : List Nat) (hn : root.n = (N : Int)) (h64 : N ≤ 64) (hiN : i < N) (h1 : leaf.n = 1) (hs : sidesT N i = s) (hz : sizesT N i = z) (hq : s.length = q) (hmq : m ≠ q) :
    Calls Tryd.prog 16 #[totV root, .int .i64 i, totV leaf, .slice A m c] w fun e w' => e = .returned (.tuple #[.agg (wcs (mcheckT root i leaf p).1), .bool (mcheckT root i leaf p).2]) ∧ Below w.heap.size w w' := by
  have C2 : Hid (decide (root.n < 1) = false) := decide_eq_false (by omega)
  have C6 : Hid (decide ((64 : Int) < root.n) = false) := decide_eq_false (by omega)
  have C10 : Hid (decide ((i : Int) < 0) = false) := decide_eq_false (by omega)
  have C16 : Hid (decide (root.n ≤ (i : Int)) = false) := decide_eq_false (by omega)
  have C21 : Hid (decide (leaf.n ≠ 1) = false) := decide_eq_false (by omega)
  have HZL : Hid (z.length = q) := by show _ = _; rw [← hz, sizes_len, hs, hq]
  have HSD : Hid (∀ u, Calls Tryd.prog 40 #[.int .i64 (N : Int), .int .i64 (i : Int)] u fun e w' => (∃ v, e = .returned v ∧ w'.ownsRow u.heap.size 4 1 v q (s.map Value.bool)) ∧ Below u.heap.size u w') := fun u => by
    have h := rsides_any N i u (by omega) (by omega) hiN
    unfold OwnF at h
    rwa [hs, hq] at h
  have HSZ : Hid (∀ u, Calls Tryd.prog 41 #[.int .i64 (N : Int), .int .i64 (i : Int)] u fun e w' => (∃ v, e = .returned v ∧ w'.ownsRow u.heap.size 3 1 v q (z.map intN)) ∧ Below u.heap.size u w') := fun u => by
    have h := rmsizes_any N i u (by omega) (by omega) hiN
    unfold OwnZ at h
    rwa [sizes_len, hs, hz, hq] at h
  have HQ64 : Hid (q < 9223372036854775808 ∧ m < 9223372036854775808) := by
    have := sides_le 64 N i (Nat.le_trans (by omega : N ≤ 64) (by decide))
    rw [hs, hq] at this
    exact ⟨by omega, by omega⟩
  have HRN := Lib.hid hn
  have HSL := Lib.hid hq
  have HNM : Hid (decide ((m : Int) ≠ (q : Int)) = true) := decide_eq_true (by omega)
  rw [mcheck_len (by rw [hn, Int.toNat_natCast, Int.toNat_natCast, hs, hq, hm]; exact hmq)]
  clear hn h1 hs hz hq
  have HR := Lib.hid hr
  have HF := Lib.hid hlf
  have HP := Lib.hid (And.intro hI hA)
  have HM := Lib.hid hm
  have HLE : Hid (w.heap.size ≤ w.heap.size + 1 + 1) := by show _ ≤ _; omega
  have E1 : Hid (EnvX w (((w.alloc (.cells (totA root) 29)).alloc (.cells (totA leaf) 29)).alloc (.cells (wcs 0) 27)) [(w.heap.size + 1 + 1, Obj.cells (wcs 0) 27 (0, 0)), (w.heap.size + 1, Obj.cells (totA leaf) 29 (0, 0)), (w.heap.size, Obj.cells (totA root) 29 (0, 0))]) := EnvX.three _ _ _
  clear hr hlf hI hA hm
  unfold maxLen at hcm
  unfold totV
  go_enter Tryd.func16, Tryd.ntmps16
  go_upto_region 1 with (fail)
  rw [zero_wcs]
  generalize ((w.alloc (.cells (totA root) 29)).alloc (.cells (totA leaf) 29)).alloc (.cells (wcs 0) 27) = W at *
  refine wp_region_Hx (w0 := w) [0, 1, 2, 3, 4, 5, 6, 7, 8, 9, 10, 11, 12, 13, 14, 15, 16, 17, 18, 19, 20, 21, 22] [(w.heap.size + 1 + 1, Obj.cells (wcs 0) 27 (0, 0)), (w.heap.size + 1, Obj.cells (totA leaf) 29 (0, 0)), (w.heap.size, Obj.cells (totA root) 29 (0, 0))] rfl E1.out ?_
  refine lexH_phase [0, 1, 2, 3, 4, 5, 6, 7, 8, 9, 10, 11, 12, 13, 14, 15, 16, 17, 18, 19, 20, 21, 22] [] ?_
  have hw1 : EnvX w _ [(w.heap.size + 1 + 1, Obj.cells (wcs 0) 27 (0, 0)), (w.heap.size + 1, Obj.cells (totA leaf) 29 (0, 0)), (w.heap.size, Obj.cells (totA root) 29 (0, 0))] := E1.out
  have hone := @EnvC.one _ _ _ hw1
  (refine wpG_op rfl rfl rfl ?_; intro K hK; go_big_quiet_op; go_big_quiet_on)
  (refine wpG_val (v := .int .i64 root.n) rfl rfl (fun u hu => load_any_op u (box_totN hu (List.Mem.tail _ (List.Mem.tail _ (List.Mem.head _))) HR.out.len) rfl) ?_ hw1; intro K hK; go_big_quiet_op; go_big_quiet_on)
  (refine wpG_val (v := .bool false) rfl rfl (fun u hu => lssI_op u C2.out rfl rfl) ?_ hw1; intro K hK; go_big_quiet_op; go_big_quiet_on)
  (refine wpG_op rfl rfl rfl ?_; intro K hK; go_big_quiet_op; go_big_quiet_on)
  (refine wpG_op rfl rfl rfl ?_; intro K hK; go_big_quiet_op; go_big_quiet_on)
  (refine wpG_val (v := .int .i64 root.n) rfl rfl (fun u hu => load_any_op u (box_totN hu (List.Mem.tail _ (List.Mem.tail _ (List.Mem.head _))) HR.out.len) rfl) ?_ hw1; intro K hK; go_big_quiet_op; go_big_quiet_on)
  (refine wpG_val (v := .bool false) rfl rfl (fun u hu => gtrI_op u C6.out rfl rfl) ?_ hw1; intro K hK; go_big_quiet_op; go_big_quiet_on)
  (refine wpG_op rfl rfl rfl ?_; intro K hK; go_big_quiet_op; go_big_quiet_on)
  (refine wpG_op rfl rfl rfl ?_; intro K hK; go_big_quiet_op; go_big_quiet_on)
  (refine wpG_op rfl rfl rfl ?_; intro K hK; go_big_quiet_op; go_big_quiet_on)
  (refine wpG_val (v := .bool false) rfl rfl (fun u hu => lssI_op u C10.out rfl rfl) ?_ hw1; intro K hK; go_big_quiet_op; go_big_quiet_on)
  (refine wpG_op rfl rfl rfl ?_; intro K hK; go_big_quiet_op; go_big_quiet_on)
  (refine wpG_op rfl rfl rfl ?_; intro K hK; go_big_quiet_op; go_big_quiet_on)
  (refine wpG_op rfl rfl rfl ?_; intro K hK; go_big_quiet_op; go_big_quiet_on)
  (refine wpG_op rfl rfl rfl ?_; intro K hK; go_big_quiet_op; go_big_quiet_on)
  (refine wpG_val (v := .int .i64 root.n) rfl rfl (fun u hu => load_any_op u (box_totN hu (List.Mem.tail _ (List.Mem.tail _ (List.Mem.head _))) HR.out.len) rfl) ?_ hw1; intro K hK; go_big_quiet_op; go_big_quiet_on)
  (refine wpG_val (v := .bool false) rfl rfl (fun u hu => geq_op u C16.out rfl rfl) ?_ hw1; intro K hK; go_big_quiet_op; go_big_quiet_on)
  (refine wpG_op rfl rfl rfl ?_; intro K hK; go_big_quiet_op; go_big_quiet_on)
  (refine wpG_op rfl rfl rfl ?_; intro K hK; go_big_quiet_op; go_big_quiet_on)
  (refine wpG_op rfl rfl rfl ?_; intro K hK; go_big_quiet_op; go_big_quiet_on)
  (refine wpG_val (v := .int .i64 leaf.n) rfl rfl (fun u hu => load_any_op u (box_totN hu (List.Mem.tail _ (List.Mem.head _)) HF.out.len) rfl) ?_ hw1; intro K hK; go_big_quiet_op; go_big_quiet_on)
  (refine wpG_val (v := .bool false) rfl rfl (fun u hu => neqI_op u C21.out rfl rfl) ?_ hw1; intro K hK; go_big_quiet_op; go_big_quiet_on)
  (refine wpG_op rfl rfl rfl ?_; intro K hK; go_big_quiet_op; go_big_quiet_on)
  clear hone hw1
  refine wpG_nil ?_
  intro u3 E2'
  have EX2 := Lib.hid E2'
  clear E2'
  go_upto_region 3 with (fail)
  refine wp_region_Hx (w0 := w) [0, 1, 2, 3, 4] [(w.heap.size + 1 + 1, Obj.cells (wcs 0) 27 (0, 0)), (w.heap.size + 1, Obj.cells (totA leaf) 29 (0, 0)), (w.heap.size, Obj.cells (totA root) 29 (0, 0))] rfl EX2.out ?_
  refine lexH_phase [0, 1, 2] [3, 4] ?_
  have hw4 : EnvX w _ [(w.heap.size + 1 + 1, Obj.cells (wcs 0) 27 (0, 0)), (w.heap.size + 1, Obj.cells (totA leaf) 29 (0, 0)), (w.heap.size, Obj.cells (totA root) 29 (0, 0))] := EX2.out
  have hone := @EnvC.one _ _ _ hw4
  (refine wpG_op rfl rfl rfl ?_; intro K hK; go_big_quiet_op; go_big_quiet_on)
  (refine wpG_val (v := .int .i64 (N : Int)) rfl rfl (fun u hu => load_any_op u (by have h := box_totN hu (List.Mem.tail _ (List.Mem.tail _ (List.Mem.head _))) HR.out.len; rw [HRN.out] at h; exact h) rfl) ?_ hw4; intro K hK; go_big_quiet_op; go_big_quiet_on)
  (refine wpG_op rfl rfl rfl ?_; intro K hK; go_big_quiet_op; go_big_quiet_on)
  clear hone hw4
  refine wpG_nil ?_
  refine (hOp_fresh (R := FreshR 4 1 q (s.map Value.bool)) (M0 := [(w.heap.size + 1 + 1, Obj.cells (wcs 0) 27 (0, 0)), (w.heap.size + 1, Obj.cells (totA leaf) 29 (0, 0)), (w.heap.size, Obj.cells (totA root) 29 (0, 0))]) rfl rfl (fun _ h => h) (fun u hu => FAt_call (fid := 40) (xs := #[.tmp 42, .tmp 43]) (args := #[.int .i64 (N : Int), .int .i64 (i : Int)]) rfl Tryd.func40 rfl rfl u (callsR_fresh (HSD.out u))) ?_)
  rintro x NS hF hf he5; intro K' hK'; go_big_quiet_op; go_big_quiet_on
  obtain ⟨Ags, cgs, rfl⟩ := FreshR.form hF
  clear hF
  clear hf
  change lexH _ _ _ _ _ _ (NS ++ ((w.heap.size + 1 + 1, Obj.cells (wcs 0) 27 (0, 0)) :: ((w.heap.size + 1, Obj.cells (totA leaf) 29 (0, 0)) :: ((w.heap.size, Obj.cells (totA root) 29 (0, 0)) :: []))))
  refine lexH_phase [4] [] ?_
  have hw6 : EnvX w _ (NS ++ ((w.heap.size + 1 + 1, Obj.cells (wcs 0) 27 (0, 0)) :: ((w.heap.size + 1, Obj.cells (totA leaf) 29 (0, 0)) :: ((w.heap.size, Obj.cells (totA root) 29 (0, 0)) :: [])))) := he5.choose_spec
  have hone := @EnvC.one _ _ _ hw6
  (refine wpG_op rfl rfl rfl ?_; intro K hK; go_big_quiet_op; go_big_quiet_on)
  clear hone hw6
  refine wpG_nil ?_
  intro u8 E2'
  have EX7 := Lib.hid E2'
  clear E2'
  go_upto_region 4 with (fail)
  refine wp_region_Hx (w0 := w) [0, 1, 2, 3, 4] (NS ++ ((w.heap.size + 1 + 1, Obj.cells (wcs 0) 27 (0, 0)) :: ((w.heap.size + 1, Obj.cells (totA leaf) 29 (0, 0)) :: ((w.heap.size, Obj.cells (totA root) 29 (0, 0)) :: [])))) rfl EX7.out ?_
  refine lexH_phase [0, 1, 2] [3, 4] ?_
  have hw9 : EnvX w _ (NS ++ ((w.heap.size + 1 + 1, Obj.cells (wcs 0) 27 (0, 0)) :: ((w.heap.size + 1, Obj.cells (totA leaf) 29 (0, 0)) :: ((w.heap.size, Obj.cells (totA root) 29 (0, 0)) :: [])))) := EX7.out
  have hone := @EnvC.one _ _ _ hw9
  (refine wpG_op rfl rfl rfl ?_; intro K hK; go_big_quiet_op; go_big_quiet_on)
  (refine wpG_val (v := .int .i64 (N : Int)) rfl rfl (fun u hu => load_any_op u (by have h := box_totN hu (List.mem_append_right _ (List.Mem.tail _ (List.Mem.tail _ (List.Mem.head _)))) HR.out.len; rw [HRN.out] at h; exact h) rfl) ?_ hw9; intro K hK; go_big_quiet_op; go_big_quiet_on)
  (refine wpG_op rfl rfl rfl ?_; intro K hK; go_big_quiet_op; go_big_quiet_on)
  clear hone hw9
  refine wpG_nil ?_
  refine (hOp_fresh (R := FreshR 3 1 q (z.map intN)) (M0 := (NS ++ ((w.heap.size + 1 + 1, Obj.cells (wcs 0) 27 (0, 0)) :: ((w.heap.size + 1, Obj.cells (totA leaf) 29 (0, 0)) :: ((w.heap.size, Obj.cells (totA root) 29 (0, 0)) :: []))))) rfl rfl (fun _ h => h) (fun u hu => FAt_call (fid := 41) (xs := #[.tmp 46, .tmp 47]) (args := #[.int .i64 (N : Int), .int .i64 (i : Int)]) rfl Tryd.func41 rfl rfl u (callsR_fresh (HSZ.out u))) ?_)
  rintro x NZ hF hf he10; intro K' hK'; go_big_quiet_op; go_big_quiet_on
  obtain ⟨Agz, cgz, rfl⟩ := FreshR.form hF
  clear hF
  clear hf
  change lexH _ _ _ _ _ _ (NZ ++ (NS ++ ((w.heap.size + 1 + 1, Obj.cells (wcs 0) 27 (0, 0)) :: ((w.heap.size + 1, Obj.cells (totA leaf) 29 (0, 0)) :: ((w.heap.size, Obj.cells (totA root) 29 (0, 0)) :: [])))))
  refine lexH_phase [4] [] ?_
  have hw11 : EnvX w _ (NZ ++ (NS ++ ((w.heap.size + 1 + 1, Obj.cells (wcs 0) 27 (0, 0)) :: ((w.heap.size + 1, Obj.cells (totA leaf) 29 (0, 0)) :: ((w.heap.size, Obj.cells (totA root) 29 (0, 0)) :: []))))) := he10.choose_spec
  have hone := @EnvC.one _ _ _ hw11
  (refine wpG_op rfl rfl rfl ?_; intro K hK; go_big_quiet_op; go_big_quiet_on)
  clear hone hw11
  refine wpG_nil ?_
  intro u13 E2'
  have EX12 := Lib.hid E2'
  clear E2'
  go_upto_region 5 with (fail)
  refine wp_region_Hx (w0 := w) [0, 1, 2, 3, 4] (NZ ++ (NS ++ ((w.heap.size + 1 + 1, Obj.cells (wcs 0) 27 (0, 0)) :: ((w.heap.size + 1, Obj.cells (totA leaf) 29 (0, 0)) :: ((w.heap.size, Obj.cells (totA root) 29 (0, 0)) :: []))))) rfl EX12.out ?_
  refine lexH_phase [0, 1, 2, 3, 4] [] ?_
  have hw14 : EnvX w _ (NZ ++ (NS ++ ((w.heap.size + 1 + 1, Obj.cells (wcs 0) 27 (0, 0)) :: ((w.heap.size + 1, Obj.cells (totA leaf) 29 (0, 0)) :: ((w.heap.size, Obj.cells (totA root) 29 (0, 0)) :: []))))) := EX12.out
  have hone := @EnvC.one _ _ _ hw14
  (refine wpG_op rfl rfl rfl ?_; intro K hK; go_big_quiet_op; go_big_quiet_on)
  (refine wpG_val (v := .int .i64 m) rfl rfl (fun u hu => len_op Tryd.underlying22 HQ64.out.2 u rfl) ?_ hw14; intro K hK; go_big_quiet_op; go_big_quiet_on)
  (refine wpG_op rfl rfl rfl ?_; intro K hK; go_big_quiet_op; go_big_quiet_on)
  (refine wpG_val (v := .int .i64 q) rfl rfl (fun u hu => len_op Tryd.underlying67 HQ64.out.1 u rfl) ?_ hw14; intro K hK; go_big_quiet_op; go_big_quiet_on)
  (refine wpG_val (v := .bool true) rfl rfl (fun u hu => neqI_op u HNM.out rfl rfl) ?_ hw14; intro K hK; go_big_quiet_op; go_big_quiet_on)
  clear hone hw14
  refine wpG_nil ?_
  intro u16 E2'
  have EX15 := Lib.hid E2'
  clear E2'
  go_upto_region 6 with (fail)
  refine wp_region_Hx (w0 := w) [0, 1, 2] (NZ ++ (NS ++ ((w.heap.size + 1 + 1, Obj.cells (wcs 0) 27 (0, 0)) :: ((w.heap.size + 1, Obj.cells (totA leaf) 29 (0, 0)) :: ((w.heap.size, Obj.cells (totA root) 29 (0, 0)) :: []))))) rfl EX15.out ?_
  refine lexH_phase [0] [1, 2] ?_
  have hw17 : EnvX w _ (NZ ++ (NS ++ ((w.heap.size + 1 + 1, Obj.cells (wcs 0) 27 (0, 0)) :: ((w.heap.size + 1, Obj.cells (totA leaf) 29 (0, 0)) :: ((w.heap.size, Obj.cells (totA root) 29 (0, 0)) :: []))))) := EX15.out
  have hone := @EnvC.one _ _ _ hw17
  (refine wpG_val (v := .agg (wcs 0)) rfl rfl (fun u hu => buildA_op u built_w0) ?_ hw17; intro K hK; go_big_quiet_op; go_big_quiet_on)
  clear hone hw17
  refine wpG_nil ?_
  refine (hOp_store rfl (w.heap.size + 1 + 1) (wcs 0) rfl rfl HLE.out 27 ((wcs 0)) (List.mem_append_right _ (List.mem_append_right _ (List.Mem.head _))) (wc_info _) ((wc_size _).trans (wc_size _).symm) (wc_one _) [(w.heap.size + 1 + 1, Obj.cells (wcs 0) 27 (0, 0))] (List.forall_mem_cons.2 ⟨.inl rfl, (fun _ h => by cases h)⟩) ?_)
  intro he18
  refine lexH_phase [2] [] ?_
  have hw19 : EnvX w _ [(w.heap.size + 1 + 1, Obj.cells (wcs 0) 27 (0, 0))] := he18.choose_spec
  have hone := @EnvC.one _ _ _ hw19
  (refine wpG_op rfl rfl rfl ?_; intro K hK; go_big_quiet_op; go_big_quiet_on)
  clear hone hw19
  refine wpG_nil ?_
  intro u21 E2'
  have EX20 := Lib.hid E2'
  clear E2'
  have Q0 := Lib.hid (EnvX.box EX20.out _ _ (List.Mem.head _))
  have HBEL := Lib.hid EX20.out.bel
  clear EX20
  go_wp2_with ((with_reducible refine bodyPost_ret (v := .tuple #[.agg (wcs 0), .bool false]) ?_ ?_ ?_); (exact results_row_slot (p := 8) (q := 9) (ty := 27) Tryd.results16 _ _ (w.heap.size + 1 + 1) 27 (wcs 0) (0, 0) _ rfl _ rfl Q0.out Tryd.underlying27 rfl (wc_info _)); (rfl))
  first | exact ⟨rfl, HBEL.out⟩ | exact HBEL.out
set_option maxRecDepth 20000 in
set_option maxHeartbeats 8000000 in
theorem rmcheck_z (root leaf : Tot) (i : Nat) (p : List Tot) (A : Option Addr) (m c : Nat) (w : World) (hr : okT root) (hlf : okT leaf) (hm : p.length = m) (hm6 : m ≤ 1000000) (hmc : m ≤ c) (hcm : c ≤ maxLen) (hI : okTs p) (hA : TotsIn w w.heap.size A p) (N q : Nat) (s : List Bool) (z : List Nat) (hn : root.n = (N : Int)) (h64 : N ≤ 64) (hiN : i < N) (h1 : leaf.n = 1) (hs : sidesT N i = s) (hz : sizesT N i = z) (hq : s.length = q) (hmq : m = q) (hq0 : q = 0) :
    Calls Tryd.prog 16 #[totV root, .int .i64 i, totV leaf, .slice A m c] w fun e w' => e = .returned (.tuple #[.agg (wcs (mcheckT root i leaf p).1), .bool (mcheckT root i leaf p).2]) ∧ Below w.heap.size w w' := by
  have C2 : Hid (decide (root.n < 1) = false) := decide_eq_false (by omega)
  have C6 : Hid (decide ((64 : Int) < root.n) = false) := decide_eq_false (by omega)
  have C10 : Hid (decide ((i : Int) < 0) = false) := decide_eq_false (by omega)
  have C16 : Hid (decide (root.n ≤ (i : Int)) = false) := decide_eq_false (by omega)
  have C21 : Hid (decide (leaf.n ≠ 1) = false) := decide_eq_false (by omega)
  have HZL : Hid (z.length = q) := by show _ = _; rw [← hz, sizes_len, hs, hq]
  have HSD : Hid (∀ u, Calls Tryd.prog 40 #[.int .i64 (N : Int), .int .i64 (i : Int)] u fun e w' => (∃ v, e = .returned v ∧ w'.ownsRow u.heap.size 4 1 v q (s.map Value.bool)) ∧ Below u.heap.size u w') := fun u => by
    have h := rsides_any N i u (by omega) (by omega) hiN
    unfold OwnF at h
    rwa [hs, hq] at h
  have HSZ : Hid (∀ u, Calls Tryd.prog 41 #[.int .i64 (N : Int), .int .i64 (i : Int)] u fun e w' => (∃ v, e = .returned v ∧ w'.ownsRow u.heap.size 3 1 v q (z.map intN)) ∧ Below u.heap.size u w') := fun u => by
    have h := rmsizes_any N i u (by omega) (by omega) hiN
    unfold OwnZ at h
    rwa [sizes_len, hs, hz, hq] at h
  have HQ64 : Hid (q < 9223372036854775808 ∧ m < 9223372036854775808) := by
    have := sides_le 64 N i (Nat.le_trans (by omega : N ≤ 64) (by decide))
    rw [hs, hq] at this
    exact ⟨by omega, by omega⟩
  have HRN := Lib.hid hn
  have HSL := Lib.hid hq
  have HNM : Hid (decide ((m : Int) ≠ (q : Int)) = false) := decide_eq_false (by omega)
  have HV := Lib.hid (mcheck_val (root := root) (leaf := leaf) (i := i) (p := p) hn (by omega) h64 hiN h1 (by rw [hs, hq, hm]; exact hmq))
  rw [hs, hz, hq] at HV
  have HMQ := Lib.hid hmq
  clear hmq
  clear hn h1 hs hz hq
  have HR := Lib.hid hr
  have HF := Lib.hid hlf
  have HP := Lib.hid (And.intro hI hA)
  have HM := Lib.hid hm
  have HLE : Hid (w.heap.size ≤ w.heap.size + 1 + 1) := by show _ ≤ _; omega
  have E1 : Hid (EnvX w (((w.alloc (.cells (totA root) 29)).alloc (.cells (totA leaf) 29)).alloc (.cells (wcs 0) 27)) [(w.heap.size + 1 + 1, Obj.cells (wcs 0) 27 (0, 0)), (w.heap.size + 1, Obj.cells (totA leaf) 29 (0, 0)), (w.heap.size, Obj.cells (totA root) 29 (0, 0))]) := EnvX.three _ _ _
  clear hr hlf hI hA hm
  unfold maxLen at hcm
  unfold totV
  go_enter Tryd.func16, Tryd.ntmps16
  go_upto_region 1 with (fail)
  rw [zero_wcs]
  generalize ((w.alloc (.cells (totA root) 29)).alloc (.cells (totA leaf) 29)).alloc (.cells (wcs 0) 27) = W at *
  refine wp_region_Hx (w0 := w) [0, 1, 2, 3, 4, 5, 6, 7, 8, 9, 10, 11, 12, 13, 14, 15, 16, 17, 18, 19, 20, 21, 22] [(w.heap.size + 1 + 1, Obj.cells (wcs 0) 27 (0, 0)), (w.heap.size + 1, Obj.cells (totA leaf) 29 (0, 0)), (w.heap.size, Obj.cells (totA root) 29 (0, 0))] rfl E1.out ?_
  refine lexH_phase [0, 1, 2, 3, 4, 5, 6, 7, 8, 9, 10, 11, 12, 13, 14, 15, 16, 17, 18, 19, 20, 21, 22] [] ?_
  have hw1 : EnvX w _ [(w.heap.size + 1 + 1, Obj.cells (wcs 0) 27 (0, 0)), (w.heap.size + 1, Obj.cells (totA leaf) 29 (0, 0)), (w.heap.size, Obj.cells (totA root) 29 (0, 0))] := E1.out
  have hone := @EnvC.one _ _ _ hw1
  (refine wpG_op rfl rfl rfl ?_; intro K hK; go_big_quiet_op; go_big_quiet_on)
  (refine wpG_val (v := .int .i64 root.n) rfl rfl (fun u hu => load_any_op u (box_totN hu (List.Mem.tail _ (List.Mem.tail _ (List.Mem.head _))) HR.out.len) rfl) ?_ hw1; intro K hK; go_big_quiet_op; go_big_quiet_on)
  (refine wpG_val (v := .bool false) rfl rfl (fun u hu => lssI_op u C2.out rfl rfl) ?_ hw1; intro K hK; go_big_quiet_op; go_big_quiet_on)
  (refine wpG_op rfl rfl rfl ?_; intro K hK; go_big_quiet_op; go_big_quiet_on)
  (refine wpG_op rfl rfl rfl ?_; intro K hK; go_big_quiet_op; go_big_quiet_on)
  (refine wpG_val (v := .int .i64 root.n) rfl rfl (fun u hu => load_any_op u (box_totN hu (List.Mem.tail _ (List.Mem.tail _ (List.Mem.head _))) HR.out.len) rfl) ?_ hw1; intro K hK; go_big_quiet_op; go_big_quiet_on)
  (refine wpG_val (v := .bool false) rfl rfl (fun u hu => gtrI_op u C6.out rfl rfl) ?_ hw1; intro K hK; go_big_quiet_op; go_big_quiet_on)
  (refine wpG_op rfl rfl rfl ?_; intro K hK; go_big_quiet_op; go_big_quiet_on)
  (refine wpG_op rfl rfl rfl ?_; intro K hK; go_big_quiet_op; go_big_quiet_on)
  (refine wpG_op rfl rfl rfl ?_; intro K hK; go_big_quiet_op; go_big_quiet_on)
  (refine wpG_val (v := .bool false) rfl rfl (fun u hu => lssI_op u C10.out rfl rfl) ?_ hw1; intro K hK; go_big_quiet_op; go_big_quiet_on)
  (refine wpG_op rfl rfl rfl ?_; intro K hK; go_big_quiet_op; go_big_quiet_on)
  (refine wpG_op rfl rfl rfl ?_; intro K hK; go_big_quiet_op; go_big_quiet_on)
  (refine wpG_op rfl rfl rfl ?_; intro K hK; go_big_quiet_op; go_big_quiet_on)
  (refine wpG_op rfl rfl rfl ?_; intro K hK; go_big_quiet_op; go_big_quiet_on)
  (refine wpG_val (v := .int .i64 root.n) rfl rfl (fun u hu => load_any_op u (box_totN hu (List.Mem.tail _ (List.Mem.tail _ (List.Mem.head _))) HR.out.len) rfl) ?_ hw1; intro K hK; go_big_quiet_op; go_big_quiet_on)
  (refine wpG_val (v := .bool false) rfl rfl (fun u hu => geq_op u C16.out rfl rfl) ?_ hw1; intro K hK; go_big_quiet_op; go_big_quiet_on)
  (refine wpG_op rfl rfl rfl ?_; intro K hK; go_big_quiet_op; go_big_quiet_on)
  (refine wpG_op rfl rfl rfl ?_; intro K hK; go_big_quiet_op; go_big_quiet_on)
  (refine wpG_op rfl rfl rfl ?_; intro K hK; go_big_quiet_op; go_big_quiet_on)
  (refine wpG_val (v := .int .i64 leaf.n) rfl rfl (fun u hu => load_any_op u (box_totN hu (List.Mem.tail _ (List.Mem.head _)) HF.out.len) rfl) ?_ hw1; intro K hK; go_big_quiet_op; go_big_quiet_on)
  (refine wpG_val (v := .bool false) rfl rfl (fun u hu => neqI_op u C21.out rfl rfl) ?_ hw1; intro K hK; go_big_quiet_op; go_big_quiet_on)
  (refine wpG_op rfl rfl rfl ?_; intro K hK; go_big_quiet_op; go_big_quiet_on)
  clear hone hw1
  refine wpG_nil ?_
  intro u3 E2'
  have EX2 := Lib.hid E2'
  clear E2'
  go_upto_region 3 with (fail)
  refine wp_region_Hx (w0 := w) [0, 1, 2, 3, 4] [(w.heap.size + 1 + 1, Obj.cells (wcs 0) 27 (0, 0)), (w.heap.size + 1, Obj.cells (totA leaf) 29 (0, 0)), (w.heap.size, Obj.cells (totA root) 29 (0, 0))] rfl EX2.out ?_
  refine lexH_phase [0, 1, 2] [3, 4] ?_
  have hw4 : EnvX w _ [(w.heap.size + 1 + 1, Obj.cells (wcs 0) 27 (0, 0)), (w.heap.size + 1, Obj.cells (totA leaf) 29 (0, 0)), (w.heap.size, Obj.cells (totA root) 29 (0, 0))] := EX2.out
  have hone := @EnvC.one _ _ _ hw4
  (refine wpG_op rfl rfl rfl ?_; intro K hK; go_big_quiet_op; go_big_quiet_on)
  (refine wpG_val (v := .int .i64 (N : Int)) rfl rfl (fun u hu => load_any_op u (by have h := box_totN hu (List.Mem.tail _ (List.Mem.tail _ (List.Mem.head _))) HR.out.len; rw [HRN.out] at h; exact h) rfl) ?_ hw4; intro K hK; go_big_quiet_op; go_big_quiet_on)
  (refine wpG_op rfl rfl rfl ?_; intro K hK; go_big_quiet_op; go_big_quiet_on)
  clear hone hw4
  refine wpG_nil ?_
  refine (hOp_fresh (R := FreshR 4 1 q (s.map Value.bool)) (M0 := [(w.heap.size + 1 + 1, Obj.cells (wcs 0) 27 (0, 0)), (w.heap.size + 1, Obj.cells (totA leaf) 29 (0, 0)), (w.heap.size, Obj.cells (totA root) 29 (0, 0))]) rfl rfl (fun _ h => h) (fun u hu => FAt_call (fid := 40) (xs := #[.tmp 42, .tmp 43]) (args := #[.int .i64 (N : Int), .int .i64 (i : Int)]) rfl Tryd.func40 rfl rfl u (callsR_fresh (HSD.out u))) ?_)
  rintro x NS hF hf he5; intro K' hK'; go_big_quiet_op; go_big_quiet_on
  obtain ⟨Ags, cgs, rfl⟩ := FreshR.form hF
  clear hF
  clear hf
  change lexH _ _ _ _ _ _ (NS ++ ((w.heap.size + 1 + 1, Obj.cells (wcs 0) 27 (0, 0)) :: ((w.heap.size + 1, Obj.cells (totA leaf) 29 (0, 0)) :: ((w.heap.size, Obj.cells (totA root) 29 (0, 0)) :: []))))
  refine lexH_phase [4] [] ?_
  have hw6 : EnvX w _ (NS ++ ((w.heap.size + 1 + 1, Obj.cells (wcs 0) 27 (0, 0)) :: ((w.heap.size + 1, Obj.cells (totA leaf) 29 (0, 0)) :: ((w.heap.size, Obj.cells (totA root) 29 (0, 0)) :: [])))) := he5.choose_spec
  have hone := @EnvC.one _ _ _ hw6
  (refine wpG_op rfl rfl rfl ?_; intro K hK; go_big_quiet_op; go_big_quiet_on)
  clear hone hw6
  refine wpG_nil ?_
  intro u8 E2'
  have EX7 := Lib.hid E2'
  clear E2'
  go_upto_region 4 with (fail)
  refine wp_region_Hx (w0 := w) [0, 1, 2, 3, 4] (NS ++ ((w.heap.size + 1 + 1, Obj.cells (wcs 0) 27 (0, 0)) :: ((w.heap.size + 1, Obj.cells (totA leaf) 29 (0, 0)) :: ((w.heap.size, Obj.cells (totA root) 29 (0, 0)) :: [])))) rfl EX7.out ?_
  refine lexH_phase [0, 1, 2] [3, 4] ?_
  have hw9 : EnvX w _ (NS ++ ((w.heap.size + 1 + 1, Obj.cells (wcs 0) 27 (0, 0)) :: ((w.heap.size + 1, Obj.cells (totA leaf) 29 (0, 0)) :: ((w.heap.size, Obj.cells (totA root) 29 (0, 0)) :: [])))) := EX7.out
  have hone := @EnvC.one _ _ _ hw9
  (refine wpG_op rfl rfl rfl ?_; intro K hK; go_big_quiet_op; go_big_quiet_on)
  (refine wpG_val (v := .int .i64 (N : Int)) rfl rfl (fun u hu => load_any_op u (by have h := box_totN hu (List.mem_append_right _ (List.Mem.tail _ (List.Mem.tail _ (List.Mem.head _)))) HR.out.len; rw [HRN.out] at h; exact h) rfl) ?_ hw9; intro K hK; go_big_quiet_op; go_big_quiet_on)
  (refine wpG_op rfl rfl rfl ?_; intro K hK; go_big_quiet_op; go_big_quiet_on)
  clear hone hw9
  refine wpG_nil ?_
  refine (hOp_fresh (R := FreshR 3 1 q (z.map intN)) (M0 := (NS ++ ((w.heap.size + 1 + 1, Obj.cells (wcs 0) 27 (0, 0)) :: ((w.heap.size + 1, Obj.cells (totA leaf) 29 (0, 0)) :: ((w.heap.size, Obj.cells (totA root) 29 (0, 0)) :: []))))) rfl rfl (fun _ h => h) (fun u hu => FAt_call (fid := 41) (xs := #[.tmp 46, .tmp 47]) (args := #[.int .i64 (N : Int), .int .i64 (i : Int)]) rfl Tryd.func41 rfl rfl u (callsR_fresh (HSZ.out u))) ?_)
  rintro x NZ hF hf he10; intro K' hK'; go_big_quiet_op; go_big_quiet_on
  obtain ⟨Agz, cgz, rfl⟩ := FreshR.form hF
  clear hF
  clear hf
  change lexH _ _ _ _ _ _ (NZ ++ (NS ++ ((w.heap.size + 1 + 1, Obj.cells (wcs 0) 27 (0, 0)) :: ((w.heap.size + 1, Obj.cells (totA leaf) 29 (0, 0)) :: ((w.heap.size, Obj.cells (totA root) 29 (0, 0)) :: [])))))
  refine lexH_phase [4] [] ?_
  have hw11 : EnvX w _ (NZ ++ (NS ++ ((w.heap.size + 1 + 1, Obj.cells (wcs 0) 27 (0, 0)) :: ((w.heap.size + 1, Obj.cells (totA leaf) 29 (0, 0)) :: ((w.heap.size, Obj.cells (totA root) 29 (0, 0)) :: []))))) := he10.choose_spec
  have hone := @EnvC.one _ _ _ hw11
  (refine wpG_op rfl rfl rfl ?_; intro K hK; go_big_quiet_op; go_big_quiet_on)
  clear hone hw11
  refine wpG_nil ?_
  intro u13 E2'
  have EX12 := Lib.hid E2'
  clear E2'
  go_upto_region 5 with (fail)
  refine wp_region_Hx (w0 := w) [0, 1, 2, 3, 4] (NZ ++ (NS ++ ((w.heap.size + 1 + 1, Obj.cells (wcs 0) 27 (0, 0)) :: ((w.heap.size + 1, Obj.cells (totA leaf) 29 (0, 0)) :: ((w.heap.size, Obj.cells (totA root) 29 (0, 0)) :: []))))) rfl EX12.out ?_
  refine lexH_phase [0, 1, 2, 3, 4] [] ?_
  have hw14 : EnvX w _ (NZ ++ (NS ++ ((w.heap.size + 1 + 1, Obj.cells (wcs 0) 27 (0, 0)) :: ((w.heap.size + 1, Obj.cells (totA leaf) 29 (0, 0)) :: ((w.heap.size, Obj.cells (totA root) 29 (0, 0)) :: []))))) := EX12.out
  have hone := @EnvC.one _ _ _ hw14
  (refine wpG_op rfl rfl rfl ?_; intro K hK; go_big_quiet_op; go_big_quiet_on)
  (refine wpG_val (v := .int .i64 m) rfl rfl (fun u hu => len_op Tryd.underlying22 HQ64.out.2 u rfl) ?_ hw14; intro K hK; go_big_quiet_op; go_big_quiet_on)
  (refine wpG_op rfl rfl rfl ?_; intro K hK; go_big_quiet_op; go_big_quiet_on)
  (refine wpG_val (v := .int .i64 q) rfl rfl (fun u hu => len_op Tryd.underlying67 HQ64.out.1 u rfl) ?_ hw14; intro K hK; go_big_quiet_op; go_big_quiet_on)
  (refine wpG_val (v := .bool false) rfl rfl (fun u hu => neqI_op u HNM.out rfl rfl) ?_ hw14; intro K hK; go_big_quiet_op; go_big_quiet_on)
  clear hone hw14
  refine wpG_nil ?_
  intro u16 E2'
  have EX15 := Lib.hid E2'
  clear E2'
  go_upto_region 7 with (fail)
  refine wp_region_Hx (w0 := w) [0, 1, 2] (NZ ++ (NS ++ ((w.heap.size + 1 + 1, Obj.cells (wcs 0) 27 (0, 0)) :: ((w.heap.size + 1, Obj.cells (totA leaf) 29 (0, 0)) :: ((w.heap.size, Obj.cells (totA root) 29 (0, 0)) :: []))))) rfl EX15.out ?_
  refine lexH_phase [0] [1, 2] ?_
  have hw17 : EnvX w _ (NZ ++ (NS ++ ((w.heap.size + 1 + 1, Obj.cells (wcs 0) 27 (0, 0)) :: ((w.heap.size + 1, Obj.cells (totA leaf) 29 (0, 0)) :: ((w.heap.size, Obj.cells (totA root) 29 (0, 0)) :: []))))) := EX15.out
  have hone := @EnvC.one _ _ _ hw17
  (refine wpG_val (v := .agg (wcs 0)) rfl rfl (fun u hu => buildA_op u built_w0) ?_ hw17; intro K hK; go_big_quiet_op; go_big_quiet_on)
  clear hone hw17
  refine wpG_nil ?_
  refine (hOp_fresh (R := fun x N => ∃ g, x = .pointer (some ⟨g, 0, none⟩) ∧ N = [(g, Obj.cells (wcs 0) 27 (0, 0))]) (M0 := (NZ ++ (NS ++ ((w.heap.size + 1 + 1, Obj.cells (wcs 0) 27 (0, 0)) :: ((w.heap.size + 1, Obj.cells (totA leaf) 29 (0, 0)) :: ((w.heap.size, Obj.cells (totA root) 29 (0, 0)) :: [])))))) rfl rfl (fun _ h => h) (fun u hu => FAt_new (new_wd _) u) ?_)
  rintro _ _ ⟨g12, rfl, rfl⟩ hf he18; intro K' hK'; go_big_quiet_op; go_big_quiet_on
  have HG12 := Lib.hid (hf _ (List.mem_singleton.2 rfl))
  have Ng12_0 : Hid (w.heap.size + 1 + 1 ≠ g12) := HG12.out.2 _ (List.mem_append_right _ (List.mem_append_right _ (List.Mem.head _)))
  have Ng12_1 : Hid (w.heap.size + 1 ≠ g12) := HG12.out.2 _ (List.mem_append_right _ (List.mem_append_right _ (List.Mem.tail _ (List.Mem.head _))))
  have Ng12_2 : Hid (w.heap.size ≠ g12) := HG12.out.2 _ (List.mem_append_right _ (List.mem_append_right _ (List.Mem.tail _ (List.Mem.tail _ (List.Mem.head _)))))
  clear hf
  change lexH _ _ _ _ _ _ ((g12, Obj.cells (wcs 0) 27 (0, 0)) :: (NZ ++ (NS ++ ((w.heap.size + 1 + 1, Obj.cells (wcs 0) 27 (0, 0)) :: ((w.heap.size + 1, Obj.cells (totA leaf) 29 (0, 0)) :: ((w.heap.size, Obj.cells (totA root) 29 (0, 0)) :: []))))))
  refine (hOp_store rfl (g12) (wcs 0) rfl rfl HG12.out.1 27 ((wcs 0)) (List.Mem.head _) (wc_info _) ((wc_size _).trans (wc_size _).symm) (wc_one _) ((g12, Obj.cells (wcs 0) 27 (0, 0)) :: (NZ ++ (NS ++ ((w.heap.size + 1 + 1, Obj.cells (wcs 0) 27 (0, 0)) :: ((w.heap.size + 1, Obj.cells (totA leaf) 29 (0, 0)) :: ((w.heap.size, Obj.cells (totA root) 29 (0, 0)) :: [])))))) (List.forall_mem_cons.2 ⟨.inl rfl, fun y hy => .inr ⟨List.mem_cons_of_mem _ hy, HG12.out.2 y hy⟩⟩) ?_)
  intro he19
  intro u21 E2'
  have EX20 := Lib.hid E2'
  clear E2'
  go_upto_region 8 with (fail)
  refine wp_region_Hx (w0 := w) [0, 1, 2] ((g12, Obj.cells (wcs 0) 27 (0, 0)) :: (NZ ++ (NS ++ ((w.heap.size + 1 + 1, Obj.cells (wcs 0) 27 (0, 0)) :: ((w.heap.size + 1, Obj.cells (totA leaf) 29 (0, 0)) :: ((w.heap.size, Obj.cells (totA root) 29 (0, 0)) :: [])))))) rfl EX20.out ?_
  refine lexH_phase [0] [1, 2] ?_
  have hw22 : EnvX w _ ((g12, Obj.cells (wcs 0) 27 (0, 0)) :: (NZ ++ (NS ++ ((w.heap.size + 1 + 1, Obj.cells (wcs 0) 27 (0, 0)) :: ((w.heap.size + 1, Obj.cells (totA leaf) 29 (0, 0)) :: ((w.heap.size, Obj.cells (totA root) 29 (0, 0)) :: [])))))) := EX20.out
  have hone := @EnvC.one _ _ _ hw22
  (refine wpG_val (v := .agg (totA leaf)) rfl rfl (fun u hu => load_any_op u (box_tot hu (List.Mem.tail _ (List.mem_append_right _ (List.mem_append_right _ (List.Mem.tail _ (List.Mem.head _))))) HF.out.len) rfl) ?_ hw22; intro K hK; go_big_quiet_op; go_big_quiet_on)
  clear hone hw22
  refine wpG_nil ?_
  refine (hOp_fresh (R := fun x N => ∃ g, x = .pointer (some ⟨g, 0, none⟩) ∧ N = [(g, Obj.cells (totA zTot) 29 (0, 0))]) (M0 := ((g12, Obj.cells (wcs 0) 27 (0, 0)) :: (NZ ++ (NS ++ ((w.heap.size + 1 + 1, Obj.cells (wcs 0) 27 (0, 0)) :: ((w.heap.size + 1, Obj.cells (totA leaf) 29 (0, 0)) :: ((w.heap.size, Obj.cells (totA root) 29 (0, 0)) :: []))))))) rfl rfl (fun _ h => h) (fun u hu => FAt_new (new_tot _) u) ?_)
  rintro _ _ ⟨g13, rfl, rfl⟩ hf he23; intro K' hK'; go_big_quiet_op; go_big_quiet_on
  have HG13 := Lib.hid (hf _ (List.mem_singleton.2 rfl))
  have Ng13_0 : Hid (g12 ≠ g13) := HG13.out.2 _ (List.Mem.head _)
  have Ng13_1 : Hid (w.heap.size + 1 + 1 ≠ g13) := HG13.out.2 _ (List.Mem.tail _ (List.mem_append_right _ (List.mem_append_right _ (List.Mem.head _))))
  have Ng13_2 : Hid (w.heap.size + 1 ≠ g13) := HG13.out.2 _ (List.Mem.tail _ (List.mem_append_right _ (List.mem_append_right _ (List.Mem.tail _ (List.Mem.head _)))))
  have Ng13_3 : Hid (w.heap.size ≠ g13) := HG13.out.2 _ (List.Mem.tail _ (List.mem_append_right _ (List.mem_append_right _ (List.Mem.tail _ (List.Mem.tail _ (List.Mem.head _))))))
  clear hf
  change lexH _ _ _ _ _ _ ((g13, Obj.cells (totA zTot) 29 (0, 0)) :: ((g12, Obj.cells (wcs 0) 27 (0, 0)) :: (NZ ++ (NS ++ ((w.heap.size + 1 + 1, Obj.cells (wcs 0) 27 (0, 0)) :: ((w.heap.size + 1, Obj.cells (totA leaf) 29 (0, 0)) :: ((w.heap.size, Obj.cells (totA root) 29 (0, 0)) :: [])))))))
  refine (hOp_store rfl (g13) (totA leaf) rfl rfl HG13.out.1 29 ((totA zTot)) (List.Mem.head _) (infoTot _ (totA_size HF.out.len)) (zTot_size.trans (totA_size HF.out.len).symm) (totA_one _) ((g13, Obj.cells (totA leaf) 29 (0, 0)) :: ((g12, Obj.cells (wcs 0) 27 (0, 0)) :: (NZ ++ (NS ++ ((w.heap.size + 1 + 1, Obj.cells (wcs 0) 27 (0, 0)) :: ((w.heap.size + 1, Obj.cells (totA leaf) 29 (0, 0)) :: ((w.heap.size, Obj.cells (totA root) 29 (0, 0)) :: []))))))) (List.forall_mem_cons.2 ⟨.inl rfl, fun y hy => .inr ⟨List.mem_cons_of_mem _ hy, HG13.out.2 y hy⟩⟩) ?_)
  intro he24
  intro u26 E2'
  have EX25 := Lib.hid E2'
  clear E2'
  have E9 : Hid (∃ x a, mclimbK s z p leaf 0 = some (x, a) ∧ okT x ∧ a < Big ∧ EnvX w u26 [(g13, Obj.cells (totA x) 29 (0, 0)), (g12, Obj.cells (wcs a) 27 (0, 0)), (w.heap.size + 1 + 1, Obj.cells (wcs 0) 27 (0, 0)), (w.heap.size + 1, Obj.cells (totA leaf) 29 (0, 0)), (w.heap.size, Obj.cells (totA root) 29 (0, 0))]) := ⟨leaf, 0, rfl, HF.out, by unfold Big; decide, EnvX.sub EX25.out (List.forall_mem_cons.2 ⟨(List.Mem.head _), (List.forall_mem_cons.2 ⟨(List.Mem.tail _ (List.Mem.head _)), (List.forall_mem_cons.2 ⟨(List.Mem.tail _ (List.Mem.tail _ (List.mem_append_right _ (List.mem_append_right _ (List.Mem.head _))))), (List.forall_mem_cons.2 ⟨(List.Mem.tail _ (List.Mem.tail _ (List.mem_append_right _ (List.mem_append_right _ (List.Mem.tail _ (List.Mem.head _)))))), (List.forall_mem_cons.2 ⟨(List.Mem.tail _ (List.Mem.tail _ (List.mem_append_right _ (List.mem_append_right _ (List.Mem.tail _ (List.Mem.tail _ (List.Mem.head _))))))), (fun _ h => by cases h)⟩)⟩)⟩)⟩)⟩)⟩
  clear EX25 E1
  go_upto_region 10 with (fail)
  go_loopw [14, 15, 16] (fun i _ _ u => ∃ k : Nat, k ≤ q ∧ i = .int .i64 (k : Int) ∧ Hid (∃ x a, mclimbK s z p leaf k = some (x, a) ∧ okT x ∧ a < Big ∧ EnvX w u [(g13, Obj.cells (totA x) 29 (0, 0)), (g12, Obj.cells (wcs a) 27 (0, 0)), (w.heap.size + 1 + 1, Obj.cells (wcs 0) 27 (0, 0)), (w.heap.size + 1, Obj.cells (totA leaf) 29 (0, 0)), (w.heap.size, Obj.cells (totA root) 29 (0, 0))])) (fun i _ _ _ => q - (intOf i).toNat)
  case atStart => exact ⟨0, by omega, rfl, E9⟩
  case round =>
    obtain ⟨k, hk, rfl, hst⟩ := hrel
    obtain ⟨x, a, hx1, hx2, hx3, hE⟩ := hst.out
    have HCL := Lib.hid hx1
    have HX := Lib.hid hx2
    have HAB := Lib.hid hx3
    have EK := Lib.hid hE
    clear hst hx1 hx2 hx3 hE E9
    by_cases hlt : k < q
    · exact absurd hlt (by omega)
    · obtain rfl : k = q := by omega
      have hge : ¬ (k : Int) < (k : Int) := by omega
      have HVV := Lib.hid (HV.out.1 x a HCL.out)
      by_cases hxr : x = root
      · have C2' : Hid ((!eqT x root) = false) := by show _ = _; simp [eqT, hxr]
        rw [if_pos hxr] at HVV
        clear hxr
        go_upto_region 19 with (fail)
        refine wp_region_Hx (w0 := w) [0, 1, 2] [(g13, Obj.cells (totA x) 29 (0, 0)), (g12, Obj.cells (wcs a) 27 (0, 0)), (w.heap.size + 1 + 1, Obj.cells (wcs 0) 27 (0, 0)), (w.heap.size + 1, Obj.cells (totA leaf) 29 (0, 0)), (w.heap.size, Obj.cells (totA root) 29 (0, 0))] rfl EK.out ?_
        refine lexH_phase [0, 1, 2] [] ?_
        have hw501 : EnvX w _ [(g13, Obj.cells (totA x) 29 (0, 0)), (g12, Obj.cells (wcs a) 27 (0, 0)), (w.heap.size + 1 + 1, Obj.cells (wcs 0) 27 (0, 0)), (w.heap.size + 1, Obj.cells (totA leaf) 29 (0, 0)), (w.heap.size, Obj.cells (totA root) 29 (0, 0))] := EK.out
        have hone := @EnvC.one _ _ _ hw501
        (refine wpG_val (v := totV x) rfl rfl (fun u hu => load_any_op u (box_tot hu (List.Mem.head _) HX.out.len) rfl) ?_ hw501; intro K hK; go_big_quiet_op; go_big_quiet_on)
        (refine wpG_val (v := totV root) rfl rfl (fun u hu => load_any_op u (box_tot hu (List.Mem.tail _ (List.Mem.tail _ (List.Mem.tail _ (List.Mem.tail _ (List.Mem.head _))))) HR.out.len) rfl) ?_ hw501; intro K hK; go_big_quiet_op; go_big_quiet_on)
        (refine wpG_val (v := .bool false) rfl rfl (fun u hu => neqTb_op HX.out HR.out C2'.out u rfl rfl) ?_ hw501; intro K hK; go_big_quiet_op; go_big_quiet_on)
        clear hone hw501
        refine wpG_nil ?_
        intro u503 E2'
        have EX502 := Lib.hid E2'
        clear E2'
        go_upto_region 21 with (fail)
        refine wp_region_Hx (w0 := w) [0, 1, 2] [(g13, Obj.cells (totA x) 29 (0, 0)), (g12, Obj.cells (wcs a) 27 (0, 0)), (w.heap.size + 1 + 1, Obj.cells (wcs 0) 27 (0, 0)), (w.heap.size + 1, Obj.cells (totA leaf) 29 (0, 0)), (w.heap.size, Obj.cells (totA root) 29 (0, 0))] rfl EX502.out ?_
        refine lexH_phase [0] [1, 2] ?_
        have hw504 : EnvX w _ [(g13, Obj.cells (totA x) 29 (0, 0)), (g12, Obj.cells (wcs a) 27 (0, 0)), (w.heap.size + 1 + 1, Obj.cells (wcs 0) 27 (0, 0)), (w.heap.size + 1, Obj.cells (totA leaf) 29 (0, 0)), (w.heap.size, Obj.cells (totA root) 29 (0, 0))] := EX502.out
        have hone := @EnvC.one _ _ _ hw504
        (refine wpG_val (v := .agg (wcs a)) rfl rfl (fun u hu => load_any_op u (box_wide hu (List.Mem.tail _ (List.Mem.head _))) rfl) ?_ hw504; intro K hK; go_big_quiet_op; go_big_quiet_on)
        clear hone hw504
        refine wpG_nil ?_
        refine (hOp_store rfl (w.heap.size + 1 + 1) (wcs a) rfl rfl HLE.out 27 ((wcs 0)) (List.Mem.tail _ (List.Mem.tail _ (List.Mem.head _))) (wc_info _) ((wc_size _).trans (wc_size _).symm) (wc_one _) [(w.heap.size + 1 + 1, Obj.cells (wcs a) 27 (0, 0))] (List.forall_mem_cons.2 ⟨.inl rfl, (fun _ h => by cases h)⟩) ?_)
        intro he505
        refine lexH_phase [2] [] ?_
        have hw506 : EnvX w _ [(w.heap.size + 1 + 1, Obj.cells (wcs a) 27 (0, 0))] := he505.choose_spec
        have hone := @EnvC.one _ _ _ hw506
        (refine wpG_op rfl rfl rfl ?_; intro K hK; go_big_quiet_op; go_big_quiet_on)
        clear hone hw506
        refine wpG_nil ?_
        intro u508 E2'
        have EX507 := Lib.hid E2'
        clear E2'
        have Q0 := Lib.hid (EnvX.box EX507.out _ _ (List.Mem.head _))
        have HBEL := Lib.hid EX507.out.bel
        clear EX507
        go_wp2_with ((with_reducible refine bodyPost_ret (v := .tuple #[.agg (wcs a), .bool true]) ?_ ?_ ?_); (exact results_row_slot (p := 8) (q := 9) (ty := 27) Tryd.results16 _ _ (w.heap.size + 1 + 1) 27 (wcs a) (0, 0) _ rfl _ rfl Q0.out Tryd.underlying27 rfl (wc_info _)); (rfl))
        exact ⟨by rw [HVV.out]; first | done | exact ⟨rfl, rfl⟩, HBEL.out⟩
      · have C2' : Hid ((!eqT x root) = true) := by show _ = _; simp [eqT, hxr]
        rw [if_neg hxr] at HVV
        clear hxr
        go_upto_region 19 with (fail)
        refine wp_region_Hx (w0 := w) [0, 1, 2] [(g13, Obj.cells (totA x) 29 (0, 0)), (g12, Obj.cells (wcs a) 27 (0, 0)), (w.heap.size + 1 + 1, Obj.cells (wcs 0) 27 (0, 0)), (w.heap.size + 1, Obj.cells (totA leaf) 29 (0, 0)), (w.heap.size, Obj.cells (totA root) 29 (0, 0))] rfl EK.out ?_
        refine lexH_phase [0, 1, 2] [] ?_
        have hw501 : EnvX w _ [(g13, Obj.cells (totA x) 29 (0, 0)), (g12, Obj.cells (wcs a) 27 (0, 0)), (w.heap.size + 1 + 1, Obj.cells (wcs 0) 27 (0, 0)), (w.heap.size + 1, Obj.cells (totA leaf) 29 (0, 0)), (w.heap.size, Obj.cells (totA root) 29 (0, 0))] := EK.out
        have hone := @EnvC.one _ _ _ hw501
        (refine wpG_val (v := totV x) rfl rfl (fun u hu => load_any_op u (box_tot hu (List.Mem.head _) HX.out.len) rfl) ?_ hw501; intro K hK; go_big_quiet_op; go_big_quiet_on)
        (refine wpG_val (v := totV root) rfl rfl (fun u hu => load_any_op u (box_tot hu (List.Mem.tail _ (List.Mem.tail _ (List.Mem.tail _ (List.Mem.tail _ (List.Mem.head _))))) HR.out.len) rfl) ?_ hw501; intro K hK; go_big_quiet_op; go_big_quiet_on)
        (refine wpG_val (v := .bool true) rfl rfl (fun u hu => neqTb_op HX.out HR.out C2'.out u rfl rfl) ?_ hw501; intro K hK; go_big_quiet_op; go_big_quiet_on)
        clear hone hw501
        refine wpG_nil ?_
        intro u503 E2'
        have EX502 := Lib.hid E2'
        clear E2'
        go_upto_region 20 with (fail)
        refine wp_region_Hx (w0 := w) [0, 1, 2] [(g13, Obj.cells (totA x) 29 (0, 0)), (g12, Obj.cells (wcs a) 27 (0, 0)), (w.heap.size + 1 + 1, Obj.cells (wcs 0) 27 (0, 0)), (w.heap.size + 1, Obj.cells (totA leaf) 29 (0, 0)), (w.heap.size, Obj.cells (totA root) 29 (0, 0))] rfl EX502.out ?_
        refine lexH_phase [0] [1, 2] ?_
        have hw504 : EnvX w _ [(g13, Obj.cells (totA x) 29 (0, 0)), (g12, Obj.cells (wcs a) 27 (0, 0)), (w.heap.size + 1 + 1, Obj.cells (wcs 0) 27 (0, 0)), (w.heap.size + 1, Obj.cells (totA leaf) 29 (0, 0)), (w.heap.size, Obj.cells (totA root) 29 (0, 0))] := EX502.out
        have hone := @EnvC.one _ _ _ hw504
        (refine wpG_val (v := .agg (wcs 0)) rfl rfl (fun u hu => buildA_op u built_w0) ?_ hw504; intro K hK; go_big_quiet_op; go_big_quiet_on)
        clear hone hw504
        refine wpG_nil ?_
        refine (hOp_store rfl (w.heap.size + 1 + 1) (wcs 0) rfl rfl HLE.out 27 ((wcs 0)) (List.Mem.tail _ (List.Mem.tail _ (List.Mem.head _))) (wc_info _) ((wc_size _).trans (wc_size _).symm) (wc_one _) [(w.heap.size + 1 + 1, Obj.cells (wcs 0) 27 (0, 0))] (List.forall_mem_cons.2 ⟨.inl rfl, (fun _ h => by cases h)⟩) ?_)
        intro he505
        refine lexH_phase [2] [] ?_
        have hw506 : EnvX w _ [(w.heap.size + 1 + 1, Obj.cells (wcs 0) 27 (0, 0))] := he505.choose_spec
        have hone := @EnvC.one _ _ _ hw506
        (refine wpG_op rfl rfl rfl ?_; intro K hK; go_big_quiet_op; go_big_quiet_on)
        clear hone hw506
        refine wpG_nil ?_
        intro u508 E2'
        have EX507 := Lib.hid E2'
        clear E2'
        have Q0 := Lib.hid (EnvX.box EX507.out _ _ (List.Mem.head _))
        have HBEL := Lib.hid EX507.out.bel
        clear EX507
        go_wp2_with ((with_reducible refine bodyPost_ret (v := .tuple #[.agg (wcs 0), .bool false]) ?_ ?_ ?_); (exact results_row_slot (p := 8) (q := 9) (ty := 27) Tryd.results16 _ _ (w.heap.size + 1 + 1) 27 (wcs 0) (0, 0) _ rfl _ rfl Q0.out Tryd.underlying27 rfl (wc_info _)); (rfl))
        exact ⟨by rw [HVV.out]; first | done | exact ⟨rfl, rfl⟩, HBEL.out⟩
set_option maxRecDepth 20000 in
set_option maxHeartbeats 8000000 in
theorem rmcheck_p (root leaf : Tot) (i : Nat) (p : List Tot) (A : Option Addr) (m c : Nat) (w : World) (hr : okT root) (hlf : okT leaf) (hm : p.length = m) (hm6 : m ≤ 1000000) (hmc : m ≤ c) (hcm : c ≤ maxLen) (hI : okTs p) (hA : TotsIn w w.heap.size A p) (N q : Nat) (s : List Bool) (z : List Nat) (hn : root.n = (N : Int)) (h64 : N ≤ 64) (hiN : i < N) (h1 : leaf.n = 1) (hs : sidesT N i = s) (hz : sizesT N i = z) (hq : s.length = q) (hmq : m = q) (hq0 : 0 < q) :
    Calls Tryd.prog 16 #[totV root, .int .i64 i, totV leaf, .slice A m c] w fun e w' => e = .returned (.tuple #[.agg (wcs (mcheckT root i leaf p).1), .bool (mcheckT root i leaf p).2]) ∧ Below w.heap.size w w' := by
  have C2 : Hid (decide (root.n < 1) = false) := decide_eq_false (by omega)
  have C6 : Hid (decide ((64 : Int) < root.n) = false) := decide_eq_false (by omega)
  have C10 : Hid (decide ((i : Int) < 0) = false) := decide_eq_false (by omega)
  have C16 : Hid (decide (root.n ≤ (i : Int)) = false) := decide_eq_false (by omega)
  have C21 : Hid (decide (leaf.n ≠ 1) = false) := decide_eq_false (by omega)
  have HZL : Hid (z.length = q) := by show _ = _; rw [← hz, sizes_len, hs, hq]
  have HSD : Hid (∀ u, Calls Tryd.prog 40 #[.int .i64 (N : Int), .int .i64 (i : Int)] u fun e w' => (∃ v, e = .returned v ∧ w'.ownsRow u.heap.size 4 1 v q (s.map Value.bool)) ∧ Below u.heap.size u w') := fun u => by
    have h := rsides_any N i u (by omega) (by omega) hiN
    unfold OwnF at h
    rwa [hs, hq] at h
  have HSZ : Hid (∀ u, Calls Tryd.prog 41 #[.int .i64 (N : Int), .int .i64 (i : Int)] u fun e w' => (∃ v, e = .returned v ∧ w'.ownsRow u.heap.size 3 1 v q (z.map intN)) ∧ Below u.heap.size u w') := fun u => by
    have h := rmsizes_any N i u (by omega) (by omega) hiN
    unfold OwnZ at h
    rwa [sizes_len, hs, hz, hq] at h
  have HQ64 : Hid (q < 9223372036854775808 ∧ m < 9223372036854775808) := by
    have := sides_le 64 N i (Nat.le_trans (by omega : N ≤ 64) (by decide))
    rw [hs, hq] at this
    exact ⟨by omega, by omega⟩
  have HRN := Lib.hid hn
  have HSL := Lib.hid hq
  have HNM : Hid (decide ((m : Int) ≠ (q : Int)) = false) := decide_eq_false (by omega)
  have HV := Lib.hid (mcheck_val (root := root) (leaf := leaf) (i := i) (p := p) hn (by omega) h64 hiN h1 (by rw [hs, hq, hm]; exact hmq))
  rw [hs, hz, hq] at HV
  have HMQ := Lib.hid hmq
  clear hmq
  clear hn h1 hs hz hq
  have HR := Lib.hid hr
  have HF := Lib.hid hlf
  have HP := Lib.hid (And.intro hI hA)
  have HM := Lib.hid hm
  have HLE : Hid (w.heap.size ≤ w.heap.size + 1 + 1) := by show _ ≤ _; omega
  have E1 : Hid (EnvX w (((w.alloc (.cells (totA root) 29)).alloc (.cells (totA leaf) 29)).alloc (.cells (wcs 0) 27)) [(w.heap.size + 1 + 1, Obj.cells (wcs 0) 27 (0, 0)), (w.heap.size + 1, Obj.cells (totA leaf) 29 (0, 0)), (w.heap.size, Obj.cells (totA root) 29 (0, 0))]) := EnvX.three _ _ _
  clear hr hlf hI hA hm
  unfold maxLen at hcm
  unfold totV
  go_enter Tryd.func16, Tryd.ntmps16
  go_upto_region 1 with (fail)
  rw [zero_wcs]
  generalize ((w.alloc (.cells (totA root) 29)).alloc (.cells (totA leaf) 29)).alloc (.cells (wcs 0) 27) = W at *
  refine wp_region_Hx (w0 := w) [0, 1, 2, 3, 4, 5, 6, 7, 8, 9, 10, 11, 12, 13, 14, 15, 16, 17, 18, 19, 20, 21, 22] [(w.heap.size + 1 + 1, Obj.cells (wcs 0) 27 (0, 0)), (w.heap.size + 1, Obj.cells (totA leaf) 29 (0, 0)), (w.heap.size, Obj.cells (totA root) 29 (0, 0))] rfl E1.out ?_
  refine lexH_phase [0, 1, 2, 3, 4, 5, 6, 7, 8, 9, 10, 11, 12, 13, 14, 15, 16, 17, 18, 19, 20, 21, 22] [] ?_
  have hw1 : EnvX w _ [(w.heap.size + 1 + 1, Obj.cells (wcs 0) 27 (0, 0)), (w.heap.size + 1, Obj.cells (totA leaf) 29 (0, 0)), (w.heap.size, Obj.cells (totA root) 29 (0, 0))] := E1.out
  have hone := @EnvC.one _ _ _ hw1
  (refine wpG_op rfl rfl rfl ?_; intro K hK; go_big_quiet_op; go_big_quiet_on)
  (refine wpG_val (v := .int .i64 root.n) rfl rfl (fun u hu => load_any_op u (box_totN hu (List.Mem.tail _ (List.Mem.tail _ (List.Mem.head _))) HR.out.len) rfl) ?_ hw1; intro K hK; go_big_quiet_op; go_big_quiet_on)
  (refine wpG_val (v := .bool false) rfl rfl (fun u hu => lssI_op u C2.out rfl rfl) ?_ hw1; intro K hK; go_big_quiet_op; go_big_quiet_on)
  (refine wpG_op rfl rfl rfl ?_; intro K hK; go_big_quiet_op; go_big_quiet_on)
  (refine wpG_op rfl rfl rfl ?_; intro K hK; go_big_quiet_op; go_big_quiet_on)
  (refine wpG_val (v := .int .i64 root.n) rfl rfl (fun u hu => load_any_op u (box_totN hu (List.Mem.tail _ (List.Mem.tail _ (List.Mem.head _))) HR.out.len) rfl) ?_ hw1; intro K hK; go_big_quiet_op; go_big_quiet_on)
  (refine wpG_val (v := .bool false) rfl rfl (fun u hu => gtrI_op u C6.out rfl rfl) ?_ hw1; intro K hK; go_big_quiet_op; go_big_quiet_on)
  (refine wpG_op rfl rfl rfl ?_; intro K hK; go_big_quiet_op; go_big_quiet_on)
  (refine wpG_op rfl rfl rfl ?_; intro K hK; go_big_quiet_op; go_big_quiet_on)
  (refine wpG_op rfl rfl rfl ?_; intro K hK; go_big_quiet_op; go_big_quiet_on)
  (refine wpG_val (v := .bool false) rfl rfl (fun u hu => lssI_op u C10.out rfl rfl) ?_ hw1; intro K hK; go_big_quiet_op; go_big_quiet_on)
  (refine wpG_op rfl rfl rfl ?_; intro K hK; go_big_quiet_op; go_big_quiet_on)
  (refine wpG_op rfl rfl rfl ?_; intro K hK; go_big_quiet_op; go_big_quiet_on)
  (refine wpG_op rfl rfl rfl ?_; intro K hK; go_big_quiet_op; go_big_quiet_on)
  (refine wpG_op rfl rfl rfl ?_; intro K hK; go_big_quiet_op; go_big_quiet_on)
  (refine wpG_val (v := .int .i64 root.n) rfl rfl (fun u hu => load_any_op u (box_totN hu (List.Mem.tail _ (List.Mem.tail _ (List.Mem.head _))) HR.out.len) rfl) ?_ hw1; intro K hK; go_big_quiet_op; go_big_quiet_on)
  (refine wpG_val (v := .bool false) rfl rfl (fun u hu => geq_op u C16.out rfl rfl) ?_ hw1; intro K hK; go_big_quiet_op; go_big_quiet_on)
  (refine wpG_op rfl rfl rfl ?_; intro K hK; go_big_quiet_op; go_big_quiet_on)
  (refine wpG_op rfl rfl rfl ?_; intro K hK; go_big_quiet_op; go_big_quiet_on)
  (refine wpG_op rfl rfl rfl ?_; intro K hK; go_big_quiet_op; go_big_quiet_on)
  (refine wpG_val (v := .int .i64 leaf.n) rfl rfl (fun u hu => load_any_op u (box_totN hu (List.Mem.tail _ (List.Mem.head _)) HF.out.len) rfl) ?_ hw1; intro K hK; go_big_quiet_op; go_big_quiet_on)
  (refine wpG_val (v := .bool false) rfl rfl (fun u hu => neqI_op u C21.out rfl rfl) ?_ hw1; intro K hK; go_big_quiet_op; go_big_quiet_on)
  (refine wpG_op rfl rfl rfl ?_; intro K hK; go_big_quiet_op; go_big_quiet_on)
  clear hone hw1
  refine wpG_nil ?_
  intro u3 E2'
  have EX2 := Lib.hid E2'
  clear E2'
  go_upto_region 3 with (fail)
  refine wp_region_Hx (w0 := w) [0, 1, 2, 3, 4] [(w.heap.size + 1 + 1, Obj.cells (wcs 0) 27 (0, 0)), (w.heap.size + 1, Obj.cells (totA leaf) 29 (0, 0)), (w.heap.size, Obj.cells (totA root) 29 (0, 0))] rfl EX2.out ?_
  refine lexH_phase [0, 1, 2] [3, 4] ?_
  have hw4 : EnvX w _ [(w.heap.size + 1 + 1, Obj.cells (wcs 0) 27 (0, 0)), (w.heap.size + 1, Obj.cells (totA leaf) 29 (0, 0)), (w.heap.size, Obj.cells (totA root) 29 (0, 0))] := EX2.out
  have hone := @EnvC.one _ _ _ hw4
  (refine wpG_op rfl rfl rfl ?_; intro K hK; go_big_quiet_op; go_big_quiet_on)
  (refine wpG_val (v := .int .i64 (N : Int)) rfl rfl (fun u hu => load_any_op u (by have h := box_totN hu (List.Mem.tail _ (List.Mem.tail _ (List.Mem.head _))) HR.out.len; rw [HRN.out] at h; exact h) rfl) ?_ hw4; intro K hK; go_big_quiet_op; go_big_quiet_on)
  (refine wpG_op rfl rfl rfl ?_; intro K hK; go_big_quiet_op; go_big_quiet_on)
  clear hone hw4
  refine wpG_nil ?_
  refine (hOp_fresh (R := FreshR 4 1 q (s.map Value.bool)) (M0 := [(w.heap.size + 1 + 1, Obj.cells (wcs 0) 27 (0, 0)), (w.heap.size + 1, Obj.cells (totA leaf) 29 (0, 0)), (w.heap.size, Obj.cells (totA root) 29 (0, 0))]) rfl rfl (fun _ h => h) (fun u hu => FAt_call (fid := 40) (xs := #[.tmp 42, .tmp 43]) (args := #[.int .i64 (N : Int), .int .i64 (i : Int)]) rfl Tryd.func40 rfl rfl u (callsR_fresh (HSD.out u))) ?_)
  rintro x N hF hf he5; intro K' hK'; go_big_quiet_op; go_big_quiet_on
  obtain ⟨gs, capgs, curgs, rfl, rfl, hcgs⟩ | ⟨_, _, h0, _⟩ := hF
  case inr => exact absurd h0 (by omega)
  have HCgs := Lib.hid hcgs.2.2.2
  have HGgs := Lib.hid (hf _ (List.mem_singleton.2 rfl))
  clear hcgs
  clear hf
  change lexH _ _ _ _ _ _ [(gs, Obj.cells curgs 4 (0, 0)), (w.heap.size + 1 + 1, Obj.cells (wcs 0) 27 (0, 0)), (w.heap.size + 1, Obj.cells (totA leaf) 29 (0, 0)), (w.heap.size, Obj.cells (totA root) 29 (0, 0))]
  refine lexH_phase [4] [] ?_
  have hw6 : EnvX w _ [(gs, Obj.cells curgs 4 (0, 0)), (w.heap.size + 1 + 1, Obj.cells (wcs 0) 27 (0, 0)), (w.heap.size + 1, Obj.cells (totA leaf) 29 (0, 0)), (w.heap.size, Obj.cells (totA root) 29 (0, 0))] := he5.choose_spec
  have hone := @EnvC.one _ _ _ hw6
  (refine wpG_op rfl rfl rfl ?_; intro K hK; go_big_quiet_op; go_big_quiet_on)
  clear hone hw6
  refine wpG_nil ?_
  intro u8 E2'
  have EX7 := Lib.hid E2'
  clear E2'
  go_upto_region 4 with (fail)
  refine wp_region_Hx (w0 := w) [0, 1, 2, 3, 4] [(gs, Obj.cells curgs 4 (0, 0)), (w.heap.size + 1 + 1, Obj.cells (wcs 0) 27 (0, 0)), (w.heap.size + 1, Obj.cells (totA leaf) 29 (0, 0)), (w.heap.size, Obj.cells (totA root) 29 (0, 0))] rfl EX7.out ?_
  refine lexH_phase [0, 1, 2] [3, 4] ?_
  have hw9 : EnvX w _ [(gs, Obj.cells curgs 4 (0, 0)), (w.heap.size + 1 + 1, Obj.cells (wcs 0) 27 (0, 0)), (w.heap.size + 1, Obj.cells (totA leaf) 29 (0, 0)), (w.heap.size, Obj.cells (totA root) 29 (0, 0))] := EX7.out
  have hone := @EnvC.one _ _ _ hw9
  (refine wpG_op rfl rfl rfl ?_; intro K hK; go_big_quiet_op; go_big_quiet_on)
  (refine wpG_val (v := .int .i64 (N : Int)) rfl rfl (fun u hu => load_any_op u (by have h := box_totN hu (List.Mem.tail _ (List.Mem.tail _ (List.Mem.tail _ (List.Mem.head _)))) HR.out.len; rw [HRN.out] at h; exact h) rfl) ?_ hw9; intro K hK; go_big_quiet_op; go_big_quiet_on)
  (refine wpG_op rfl rfl rfl ?_; intro K hK; go_big_quiet_op; go_big_quiet_on)
  clear hone hw9
  refine wpG_nil ?_
  refine (hOp_fresh (R := FreshR 3 1 q (z.map intN)) (M0 := [(gs, Obj.cells curgs 4 (0, 0)), (w.heap.size + 1 + 1, Obj.cells (wcs 0) 27 (0, 0)), (w.heap.size + 1, Obj.cells (totA leaf) 29 (0, 0)), (w.heap.size, Obj.cells (totA root) 29 (0, 0))]) rfl rfl (fun _ h => h) (fun u hu => FAt_call (fid := 41) (xs := #[.tmp 46, .tmp 47]) (args := #[.int .i64 (N : Int), .int .i64 (i : Int)]) rfl Tryd.func41 rfl rfl u (callsR_fresh (HSZ.out u))) ?_)
  rintro x N hF hf he10; intro K' hK'; go_big_quiet_op; go_big_quiet_on
  obtain ⟨gz, capgz, curgz, rfl, rfl, hcgz⟩ | ⟨_, _, h0, _⟩ := hF
  case inr => exact absurd h0 (by omega)
  have HCgz := Lib.hid hcgz.2.2.2
  have HGgz := Lib.hid (hf _ (List.mem_singleton.2 rfl))
  clear hcgz
  clear hf
  change lexH _ _ _ _ _ _ [(gz, Obj.cells curgz 3 (0, 0)), (gs, Obj.cells curgs 4 (0, 0)), (w.heap.size + 1 + 1, Obj.cells (wcs 0) 27 (0, 0)), (w.heap.size + 1, Obj.cells (totA leaf) 29 (0, 0)), (w.heap.size, Obj.cells (totA root) 29 (0, 0))]
  refine lexH_phase [4] [] ?_
  have hw11 : EnvX w _ [(gz, Obj.cells curgz 3 (0, 0)), (gs, Obj.cells curgs 4 (0, 0)), (w.heap.size + 1 + 1, Obj.cells (wcs 0) 27 (0, 0)), (w.heap.size + 1, Obj.cells (totA leaf) 29 (0, 0)), (w.heap.size, Obj.cells (totA root) 29 (0, 0))] := he10.choose_spec
  have hone := @EnvC.one _ _ _ hw11
  (refine wpG_op rfl rfl rfl ?_; intro K hK; go_big_quiet_op; go_big_quiet_on)
  clear hone hw11
  refine wpG_nil ?_
  intro u13 E2'
  have EX12 := Lib.hid E2'
  clear E2'
  go_upto_region 5 with (fail)
  refine wp_region_Hx (w0 := w) [0, 1, 2, 3, 4] [(gz, Obj.cells curgz 3 (0, 0)), (gs, Obj.cells curgs 4 (0, 0)), (w.heap.size + 1 + 1, Obj.cells (wcs 0) 27 (0, 0)), (w.heap.size + 1, Obj.cells (totA leaf) 29 (0, 0)), (w.heap.size, Obj.cells (totA root) 29 (0, 0))] rfl EX12.out ?_
  refine lexH_phase [0, 1, 2, 3, 4] [] ?_
  have hw14 : EnvX w _ [(gz, Obj.cells curgz 3 (0, 0)), (gs, Obj.cells curgs 4 (0, 0)), (w.heap.size + 1 + 1, Obj.cells (wcs 0) 27 (0, 0)), (w.heap.size + 1, Obj.cells (totA leaf) 29 (0, 0)), (w.heap.size, Obj.cells (totA root) 29 (0, 0))] := EX12.out
  have hone := @EnvC.one _ _ _ hw14
  (refine wpG_op rfl rfl rfl ?_; intro K hK; go_big_quiet_op; go_big_quiet_on)
  (refine wpG_val (v := .int .i64 m) rfl rfl (fun u hu => len_op Tryd.underlying22 HQ64.out.2 u rfl) ?_ hw14; intro K hK; go_big_quiet_op; go_big_quiet_on)
  (refine wpG_op rfl rfl rfl ?_; intro K hK; go_big_quiet_op; go_big_quiet_on)
  (refine wpG_val (v := .int .i64 q) rfl rfl (fun u hu => len_op Tryd.underlying67 HQ64.out.1 u rfl) ?_ hw14; intro K hK; go_big_quiet_op; go_big_quiet_on)
  (refine wpG_val (v := .bool false) rfl rfl (fun u hu => neqI_op u HNM.out rfl rfl) ?_ hw14; intro K hK; go_big_quiet_op; go_big_quiet_on)
  clear hone hw14
  refine wpG_nil ?_
  intro u16 E2'
  have EX15 := Lib.hid E2'
  clear E2'
  go_upto_region 7 with (fail)
  refine wp_region_Hx (w0 := w) [0, 1, 2] [(gz, Obj.cells curgz 3 (0, 0)), (gs, Obj.cells curgs 4 (0, 0)), (w.heap.size + 1 + 1, Obj.cells (wcs 0) 27 (0, 0)), (w.heap.size + 1, Obj.cells (totA leaf) 29 (0, 0)), (w.heap.size, Obj.cells (totA root) 29 (0, 0))] rfl EX15.out ?_
  refine lexH_phase [0] [1, 2] ?_
  have hw17 : EnvX w _ [(gz, Obj.cells curgz 3 (0, 0)), (gs, Obj.cells curgs 4 (0, 0)), (w.heap.size + 1 + 1, Obj.cells (wcs 0) 27 (0, 0)), (w.heap.size + 1, Obj.cells (totA leaf) 29 (0, 0)), (w.heap.size, Obj.cells (totA root) 29 (0, 0))] := EX15.out
  have hone := @EnvC.one _ _ _ hw17
  (refine wpG_val (v := .agg (wcs 0)) rfl rfl (fun u hu => buildA_op u built_w0) ?_ hw17; intro K hK; go_big_quiet_op; go_big_quiet_on)
  clear hone hw17
  refine wpG_nil ?_
  refine (hOp_fresh (R := fun x N => ∃ g, x = .pointer (some ⟨g, 0, none⟩) ∧ N = [(g, Obj.cells (wcs 0) 27 (0, 0))]) (M0 := [(gz, Obj.cells curgz 3 (0, 0)), (gs, Obj.cells curgs 4 (0, 0)), (w.heap.size + 1 + 1, Obj.cells (wcs 0) 27 (0, 0)), (w.heap.size + 1, Obj.cells (totA leaf) 29 (0, 0)), (w.heap.size, Obj.cells (totA root) 29 (0, 0))]) rfl rfl (fun _ h => h) (fun u hu => FAt_new (new_wd _) u) ?_)
  rintro _ _ ⟨g12, rfl, rfl⟩ hf he18; intro K' hK'; go_big_quiet_op; go_big_quiet_on
  have HG12 := Lib.hid (hf _ (List.mem_singleton.2 rfl))
  have Ng12_0 : Hid (gz ≠ g12) := HG12.out.2 _ (List.Mem.head _)
  have Ng12_1 : Hid (gs ≠ g12) := HG12.out.2 _ (List.Mem.tail _ (List.Mem.head _))
  have Ng12_2 : Hid (w.heap.size + 1 + 1 ≠ g12) := HG12.out.2 _ (List.Mem.tail _ (List.Mem.tail _ (List.Mem.head _)))
  have Ng12_3 : Hid (w.heap.size + 1 ≠ g12) := HG12.out.2 _ (List.Mem.tail _ (List.Mem.tail _ (List.Mem.tail _ (List.Mem.head _))))
  have Ng12_4 : Hid (w.heap.size ≠ g12) := HG12.out.2 _ (List.Mem.tail _ (List.Mem.tail _ (List.Mem.tail _ (List.Mem.tail _ (List.Mem.head _)))))
  clear hf
  change lexH _ _ _ _ _ _ [(g12, Obj.cells (wcs 0) 27 (0, 0)), (gz, Obj.cells curgz 3 (0, 0)), (gs, Obj.cells curgs 4 (0, 0)), (w.heap.size + 1 + 1, Obj.cells (wcs 0) 27 (0, 0)), (w.heap.size + 1, Obj.cells (totA leaf) 29 (0, 0)), (w.heap.size, Obj.cells (totA root) 29 (0, 0))]
  refine (hOp_store rfl (g12) (wcs 0) rfl rfl HG12.out.1 27 ((wcs 0)) (List.Mem.head _) (wc_info _) ((wc_size _).trans (wc_size _).symm) (wc_one _) [(g12, Obj.cells (wcs 0) 27 (0, 0)), (gz, Obj.cells curgz 3 (0, 0)), (gs, Obj.cells curgs 4 (0, 0)), (w.heap.size + 1 + 1, Obj.cells (wcs 0) 27 (0, 0)), (w.heap.size + 1, Obj.cells (totA leaf) 29 (0, 0)), (w.heap.size, Obj.cells (totA root) 29 (0, 0))] (List.forall_mem_cons.2 ⟨.inl rfl, fun y hy => .inr ⟨List.mem_cons_of_mem _ hy, HG12.out.2 y hy⟩⟩) ?_)
  intro he19
  intro u21 E2'
  have EX20 := Lib.hid E2'
  clear E2'
  go_upto_region 8 with (fail)
  refine wp_region_Hx (w0 := w) [0, 1, 2] [(g12, Obj.cells (wcs 0) 27 (0, 0)), (gz, Obj.cells curgz 3 (0, 0)), (gs, Obj.cells curgs 4 (0, 0)), (w.heap.size + 1 + 1, Obj.cells (wcs 0) 27 (0, 0)), (w.heap.size + 1, Obj.cells (totA leaf) 29 (0, 0)), (w.heap.size, Obj.cells (totA root) 29 (0, 0))] rfl EX20.out ?_
  refine lexH_phase [0] [1, 2] ?_
  have hw22 : EnvX w _ [(g12, Obj.cells (wcs 0) 27 (0, 0)), (gz, Obj.cells curgz 3 (0, 0)), (gs, Obj.cells curgs 4 (0, 0)), (w.heap.size + 1 + 1, Obj.cells (wcs 0) 27 (0, 0)), (w.heap.size + 1, Obj.cells (totA leaf) 29 (0, 0)), (w.heap.size, Obj.cells (totA root) 29 (0, 0))] := EX20.out
  have hone := @EnvC.one _ _ _ hw22
  (refine wpG_val (v := .agg (totA leaf)) rfl rfl (fun u hu => load_any_op u (box_tot hu (List.Mem.tail _ (List.Mem.tail _ (List.Mem.tail _ (List.Mem.tail _ (List.Mem.head _))))) HF.out.len) rfl) ?_ hw22; intro K hK; go_big_quiet_op; go_big_quiet_on)
  clear hone hw22
  refine wpG_nil ?_
  refine (hOp_fresh (R := fun x N => ∃ g, x = .pointer (some ⟨g, 0, none⟩) ∧ N = [(g, Obj.cells (totA zTot) 29 (0, 0))]) (M0 := [(g12, Obj.cells (wcs 0) 27 (0, 0)), (gz, Obj.cells curgz 3 (0, 0)), (gs, Obj.cells curgs 4 (0, 0)), (w.heap.size + 1 + 1, Obj.cells (wcs 0) 27 (0, 0)), (w.heap.size + 1, Obj.cells (totA leaf) 29 (0, 0)), (w.heap.size, Obj.cells (totA root) 29 (0, 0))]) rfl rfl (fun _ h => h) (fun u hu => FAt_new (new_tot _) u) ?_)
  rintro _ _ ⟨g13, rfl, rfl⟩ hf he23; intro K' hK'; go_big_quiet_op; go_big_quiet_on
  have HG13 := Lib.hid (hf _ (List.mem_singleton.2 rfl))
  have Ng13_0 : Hid (g12 ≠ g13) := HG13.out.2 _ (List.Mem.head _)
  have Ng13_1 : Hid (gz ≠ g13) := HG13.out.2 _ (List.Mem.tail _ (List.Mem.head _))
  have Ng13_2 : Hid (gs ≠ g13) := HG13.out.2 _ (List.Mem.tail _ (List.Mem.tail _ (List.Mem.head _)))
  have Ng13_3 : Hid (w.heap.size + 1 + 1 ≠ g13) := HG13.out.2 _ (List.Mem.tail _ (List.Mem.tail _ (List.Mem.tail _ (List.Mem.head _))))
  have Ng13_4 : Hid (w.heap.size + 1 ≠ g13) := HG13.out.2 _ (List.Mem.tail _ (List.Mem.tail _ (List.Mem.tail _ (List.Mem.tail _ (List.Mem.head _)))))
  have Ng13_5 : Hid (w.heap.size ≠ g13) := HG13.out.2 _ (List.Mem.tail _ (List.Mem.tail _ (List.Mem.tail _ (List.Mem.tail _ (List.Mem.tail _ (List.Mem.head _))))))
  clear hf
  change lexH _ _ _ _ _ _ [(g13, Obj.cells (totA zTot) 29 (0, 0)), (g12, Obj.cells (wcs 0) 27 (0, 0)), (gz, Obj.cells curgz 3 (0, 0)), (gs, Obj.cells curgs 4 (0, 0)), (w.heap.size + 1 + 1, Obj.cells (wcs 0) 27 (0, 0)), (w.heap.size + 1, Obj.cells (totA leaf) 29 (0, 0)), (w.heap.size, Obj.cells (totA root) 29 (0, 0))]
  refine (hOp_store rfl (g13) (totA leaf) rfl rfl HG13.out.1 29 ((totA zTot)) (List.Mem.head _) (infoTot _ (totA_size HF.out.len)) (zTot_size.trans (totA_size HF.out.len).symm) (totA_one _) [(g13, Obj.cells (totA leaf) 29 (0, 0)), (g12, Obj.cells (wcs 0) 27 (0, 0)), (gz, Obj.cells curgz 3 (0, 0)), (gs, Obj.cells curgs 4 (0, 0)), (w.heap.size + 1 + 1, Obj.cells (wcs 0) 27 (0, 0)), (w.heap.size + 1, Obj.cells (totA leaf) 29 (0, 0)), (w.heap.size, Obj.cells (totA root) 29 (0, 0))] (List.forall_mem_cons.2 ⟨.inl rfl, fun y hy => .inr ⟨List.mem_cons_of_mem _ hy, HG13.out.2 y hy⟩⟩) ?_)
  intro he24
  intro u26 E2'
  have EX25 := Lib.hid E2'
  clear E2'
  have E9 : Hid (∃ x a, mclimbK s z p leaf 0 = some (x, a) ∧ okT x ∧ a < Big ∧ EnvX w u26 [(g13, Obj.cells (totA x) 29 (0, 0)), (g12, Obj.cells (wcs a) 27 (0, 0)), (gz, Obj.cells curgz 3 (0, 0)), (gs, Obj.cells curgs 4 (0, 0)), (w.heap.size + 1 + 1, Obj.cells (wcs 0) 27 (0, 0)), (w.heap.size + 1, Obj.cells (totA leaf) 29 (0, 0)), (w.heap.size, Obj.cells (totA root) 29 (0, 0))]) := ⟨leaf, 0, rfl, HF.out, by unfold Big; decide, EnvX.sub EX25.out (List.forall_mem_cons.2 ⟨(List.Mem.head _), (List.forall_mem_cons.2 ⟨(List.Mem.tail _ (List.Mem.head _)), (List.forall_mem_cons.2 ⟨(List.Mem.tail _ (List.Mem.tail _ (List.Mem.head _))), (List.forall_mem_cons.2 ⟨(List.Mem.tail _ (List.Mem.tail _ (List.Mem.tail _ (List.Mem.head _)))), (List.forall_mem_cons.2 ⟨(List.Mem.tail _ (List.Mem.tail _ (List.Mem.tail _ (List.Mem.tail _ (List.Mem.head _))))), (List.forall_mem_cons.2 ⟨(List.Mem.tail _ (List.Mem.tail _ (List.Mem.tail _ (List.Mem.tail _ (List.Mem.tail _ (List.Mem.head _)))))), (List.forall_mem_cons.2 ⟨(List.Mem.tail _ (List.Mem.tail _ (List.Mem.tail _ (List.Mem.tail _ (List.Mem.tail _ (List.Mem.tail _ (List.Mem.head _))))))), (fun _ h => by cases h)⟩)⟩)⟩)⟩)⟩)⟩)⟩)⟩
  clear EX25 E1
  go_upto_region 10 with (fail)
  go_loopw [14, 15, 16] (fun i _ _ u => ∃ k : Nat, k ≤ q ∧ i = .int .i64 (k : Int) ∧ Hid (∃ x a, mclimbK s z p leaf k = some (x, a) ∧ okT x ∧ a < Big ∧ EnvX w u [(g13, Obj.cells (totA x) 29 (0, 0)), (g12, Obj.cells (wcs a) 27 (0, 0)), (gz, Obj.cells curgz 3 (0, 0)), (gs, Obj.cells curgs 4 (0, 0)), (w.heap.size + 1 + 1, Obj.cells (wcs 0) 27 (0, 0)), (w.heap.size + 1, Obj.cells (totA leaf) 29 (0, 0)), (w.heap.size, Obj.cells (totA root) 29 (0, 0))])) (fun i _ _ _ => q - (intOf i).toNat)
  case atStart => exact ⟨0, by omega, rfl, E9⟩
  case round =>
    obtain ⟨k, hk, rfl, hst⟩ := hrel
    obtain ⟨x, a, hx1, hx2, hx3, hE⟩ := hst.out
    have HCL := Lib.hid hx1
    have HX := Lib.hid hx2
    have HAB := Lib.hid hx3
    have EK := Lib.hid hE
    clear hst hx1 hx2 hx3 hE E9
    by_cases hlt : k < q
    · have hlt2 : (k : Int) < (q : Int) := by omega
      have hkb : k < 1000000 := by have := HMQ.out; omega
      obtain ⟨ad, rfl, hld⟩ := HP.out.2.loads HP.out.1 (k := k) (by rw [HM.out]; have := HMQ.out; omega)
      have HLD := Lib.hid hld
      have HPK := Lib.hid (HP.out.1.get (i := k) (by rw [HM.out]; have := HMQ.out; omega))
      have HKM : Hid (k < m) := by show _ < _; have := HMQ.out; omega
      have HKQ := Lib.hid hlt
      have HSK : Hid (curgs[0 + k * 1]? = some (.bool (s.getD k true))) := cur_get HCgs.out hlt (by rw [List.getElem?_map, List.getElem?_eq_getElem (by rw [HSL.out]; exact hlt), List.getD_eq_getElem?_getD, List.getElem?_eq_getElem (by rw [HSL.out]; exact hlt)]; rfl)
      have HZK : Hid (curgz[0 + k * 1]? = some (.int .i64 ((z.getD k 0 : Nat) : Int))) := cur_get HCgz.out hlt (by rw [List.getElem?_map, List.getElem?_eq_getElem (by rw [HZL.out]; exact hlt), List.getD_eq_getElem?_getD, List.getElem?_eq_getElem (by rw [HZL.out]; exact hlt)]; rfl)
      have HST : Hid (mclimbK s z p leaf (k + 1) = mstep (s.getD k true) (z.getD k 0) (p.getD k noTot) (x, a)) := by
        show (mclimbK s z p leaf k).bind _ = _
        rw [HCL.out]
        rfl
      have HNO : Hid (mstep (s.getD k true) (z.getD k 0) (p.getD k noTot) (x, a) = none → mcheckT root i leaf p = (0, false)) := fun h => HV.out.2 (mclimb_none (HST.out.trans h) q (by omega))
      clear hld
      generalize p.getD k noTot = pk at *
      generalize s.getD k true = sk at *
      generalize z.getD k 0 = zk at *
      obtain ⟨b2, hb2⟩ : ∃ b2, decide (x.w + pk.w < Big) = b2 := ⟨_, rfl⟩
      have HADD : Hid (∀ u, Calls Tryd.prog 42 #[.agg (wcs x.w), .agg (wcs pk.w)] u fun e w' => e = .returned (.tuple #[.agg (wcs ((x.w + pk.w) % Big)), .bool b2]) ∧ Below u.heap.size u w') := fun u => by
        rw [← hb2]
        exact radd_any x.w pk.w u HX.out.2.1 HPK.out.2.1
      have HB2 := Lib.hid hb2
      clear hb2
      go_upto_region 12 with (fail)
      refine wp_region_H (w0 := w) [(g13, Obj.cells (totA x) 29 (0, 0)), (g12, Obj.cells (wcs a) 27 (0, 0)), (gz, Obj.cells curgz 3 (0, 0)), (gs, Obj.cells curgs 4 (0, 0)), (w.heap.size + 1 + 1, Obj.cells (wcs 0) 27 (0, 0)), (w.heap.size + 1, Obj.cells (totA leaf) 29 (0, 0)), (w.heap.size, Obj.cells (totA root) 29 (0, 0))] (by kernel_rfl) EK.out ?_
      refine anyH_phase [0, 1, 2, 3, 4, 5, 6, 7, 8, 9, 10] 3 rfl ⟨_, (EnvX.drew EK.out)⟩ (by kernel_rfl) ?_
      have hw27 : EnvX w _ [(g13, Obj.cells (totA x) 29 (0, 0)), (g12, Obj.cells (wcs a) 27 (0, 0)), (gz, Obj.cells curgz 3 (0, 0)), (gs, Obj.cells curgs 4 (0, 0)), (w.heap.size + 1 + 1, Obj.cells (wcs 0) 27 (0, 0)), (w.heap.size + 1, Obj.cells (totA leaf) 29 (0, 0)), (w.heap.size, Obj.cells (totA root) 29 (0, 0))] := (EnvX.drew EK.out)
      have hone := @EnvC.one _ _ _ hw27
      (refine wpG_op rfl rfl rfl ?_; intro K hK; go_big_quiet_op; go_big_quiet_on)
      (refine wpG_val (v := .agg (wcs x.w)) rfl rfl (fun u hu => load_any_op u (box_totW hu (List.Mem.head _) HX.out.len) rfl) ?_ hw27; intro K hK; go_big_quiet_op; go_big_quiet_on)
      (refine wpG_op rfl rfl rfl ?_; intro K hK; go_big_quiet_op; go_big_quiet_on)
      (refine wpG_op rfl rfl rfl ?_; intro K hK; go_big_quiet_op; go_big_quiet_on)
      (refine wpG_val (v := .pointer (some (ad.add (k * 37)))) rfl rfl (fun u hu => idxSl_op Tryd.underlying22 aggTot.size HKM.out u rfl rfl) ?_ hw27; intro K hK; go_big_quiet_op; go_big_quiet_on)
      (refine wpG_val (v := .pointer (some ((ad.add (k * 37)).add 32))) rfl rfl (fun u hu => fieldT_op (k := 1) (off := 32) rfl u rfl) ?_ hw27; intro K hK; go_big_quiet_op; go_big_quiet_on)
      (refine wpG_val (v := .agg (wcs pk.w)) rfl rfl (fun u hu => load_any_op u (HLD.out u (EnvX.sub hu (fun _ h => by cases h))).2.2.1 rfl) ?_ hw27; intro K hK; go_big_quiet_op; go_big_quiet_on)
      (refine wpG_call (f := 42) (args := #[.agg (wcs x.w), .agg (wcs pk.w)]) (v := .tuple #[.agg (wcs ((x.w + pk.w) % Big)), .bool b2]) rfl rfl rfl Tryd.func42 rfl rfl (fun u hu => HADD.out u) ?_ hw27; intro K hK; go_big_quiet_op; go_big_quiet_on)
      (refine wpG_op rfl rfl rfl ?_; intro K hK; go_big_quiet_op; go_big_quiet_on)
      (refine wpG_op rfl rfl rfl ?_; intro K hK; go_big_quiet_op; go_big_quiet_on)
      (refine wpG_op rfl rfl rfl ?_; intro K hK; go_big_quiet_op; go_big_quiet_on)
      clear hone hw27
      refine wpG_nil ?_
      refine anyH_one (i := 11) (by kernel_rfl) (hOp_fresh (R := fun x N => ∃ g, x = .pointer (some ⟨g, 0, none⟩) ∧ N = [(g, Obj.cells (wcs 0) 27 (0, 0))]) (M0 := [(g13, Obj.cells (totA x) 29 (0, 0)), (g12, Obj.cells (wcs a) 27 (0, 0)), (gz, Obj.cells curgz 3 (0, 0)), (gs, Obj.cells curgs 4 (0, 0)), (w.heap.size + 1 + 1, Obj.cells (wcs 0) 27 (0, 0)), (w.heap.size + 1, Obj.cells (totA leaf) 29 (0, 0)), (w.heap.size, Obj.cells (totA root) 29 (0, 0))]) rfl rfl (fun _ h => h) (fun u hu => FAt_new (new_wd _) u) ?_)
      rintro _ _ ⟨g15, rfl, rfl⟩ hf he28; intro K' hK'; go_big_quiet_op; go_big_quiet_on
      have HG15 := Lib.hid (hf _ (List.mem_singleton.2 rfl))
      clear hf
      change anyH _ _ _ _ _ _ _ _ [(g15, Obj.cells (wcs 0) 27 (0, 0)), (g13, Obj.cells (totA x) 29 (0, 0)), (g12, Obj.cells (wcs a) 27 (0, 0)), (gz, Obj.cells curgz 3 (0, 0)), (gs, Obj.cells curgs 4 (0, 0)), (w.heap.size + 1 + 1, Obj.cells (wcs 0) 27 (0, 0)), (w.heap.size + 1, Obj.cells (totA leaf) 29 (0, 0)), (w.heap.size, Obj.cells (totA root) 29 (0, 0))]
      refine anyH_one (i := 12) (by kernel_rfl) (hOp_store rfl (g15) (wcs ((x.w + pk.w) % Big)) rfl rfl HG15.out.1 27 ((wcs 0)) (List.Mem.head _) (wc_info _) ((wc_size _).trans (wc_size _).symm) (wc_one _) [(g15, Obj.cells (wcs ((x.w + pk.w) % Big)) 27 (0, 0)), (g13, Obj.cells (totA x) 29 (0, 0)), (g12, Obj.cells (wcs a) 27 (0, 0)), (gz, Obj.cells curgz 3 (0, 0)), (gs, Obj.cells curgs 4 (0, 0)), (w.heap.size + 1 + 1, Obj.cells (wcs 0) 27 (0, 0)), (w.heap.size + 1, Obj.cells (totA leaf) 29 (0, 0)), (w.heap.size, Obj.cells (totA root) 29 (0, 0))] (List.forall_mem_cons.2 ⟨.inl rfl, fun y hy => .inr ⟨List.mem_cons_of_mem _ hy, HG15.out.2 y hy⟩⟩) ?_)
      intro he29
      refine anyH_phase [13] 0 rfl ⟨_, he29.choose_spec⟩ (by kernel_rfl) ?_
      have hw30 : EnvX w _ [(g15, Obj.cells (wcs ((x.w + pk.w) % Big)) 27 (0, 0)), (g13, Obj.cells (totA x) 29 (0, 0)), (g12, Obj.cells (wcs a) 27 (0, 0)), (gz, Obj.cells curgz 3 (0, 0)), (gs, Obj.cells curgs 4 (0, 0)), (w.heap.size + 1 + 1, Obj.cells (wcs 0) 27 (0, 0)), (w.heap.size + 1, Obj.cells (totA leaf) 29 (0, 0)), (w.heap.size, Obj.cells (totA root) 29 (0, 0))] := he29.choose_spec
      have hone := @EnvC.one _ _ _ hw30
      (refine wpG_op rfl rfl rfl ?_; intro K hK; go_big_quiet_op; go_big_quiet_on)
      clear hone hw30
      refine wpG_nil ?_
      refine anyH_done (by kernel_rfl) ?_
      intro u32 E2'
      have EX31 := Lib.hid E2'
      clear E2'
      have ER : Hid (EnvX w u32 [(g13, Obj.cells (totA x) 29 (0, 0)), (g12, Obj.cells (wcs a) 27 (0, 0)), (gz, Obj.cells curgz 3 (0, 0)), (gs, Obj.cells curgs 4 (0, 0)), (w.heap.size + 1 + 1, Obj.cells (wcs 0) 27 (0, 0)), (w.heap.size + 1, Obj.cells (totA leaf) 29 (0, 0)), (w.heap.size, Obj.cells (totA root) 29 (0, 0))]) := EnvX.sub EX31.out (List.forall_mem_cons.2 ⟨(List.Mem.tail _ (List.Mem.head _)), (List.forall_mem_cons.2 ⟨(List.Mem.tail _ (List.Mem.tail _ (List.Mem.head _))), (List.forall_mem_cons.2 ⟨(List.Mem.tail _ (List.Mem.tail _ (List.Mem.tail _ (List.Mem.head _)))), (List.forall_mem_cons.2 ⟨(List.Mem.tail _ (List.Mem.tail _ (List.Mem.tail _ (List.Mem.tail _ (List.Mem.head _))))), (List.forall_mem_cons.2 ⟨(List.Mem.tail _ (List.Mem.tail _ (List.Mem.tail _ (List.Mem.tail _ (List.Mem.tail _ (List.Mem.head _)))))), (List.forall_mem_cons.2 ⟨(List.Mem.tail _ (List.Mem.tail _ (List.Mem.tail _ (List.Mem.tail _ (List.Mem.tail _ (List.Mem.tail _ (List.Mem.head _))))))), (List.forall_mem_cons.2 ⟨(List.Mem.tail _ (List.Mem.tail _ (List.Mem.tail _ (List.Mem.tail _ (List.Mem.tail _ (List.Mem.tail _ (List.Mem.tail _ (List.Mem.head _)))))))), (fun _ h => by cases h)⟩)⟩)⟩)⟩)⟩)⟩)⟩)
      clear EX31 EK
      go_upto_region 13 with (fail)
      by_cases hc1 : pk.n = (zk : Int)
      · cases b2 with
        | false =>
          have C9 : Hid (decide (pk.n ≠ (zk : Int)) = false) := decide_eq_false (fun h => h hc1)
          have HMM : Hid (mcheckT root i leaf p = (0, false)) := HNO.out (mstep_no (fun h => of_decide_eq_false HB2.out h.2))
          clear hc1
          refine wp_region_H (w0 := w) [(g13, Obj.cells (totA x) 29 (0, 0)), (g12, Obj.cells (wcs a) 27 (0, 0)), (gz, Obj.cells curgz 3 (0, 0)), (gs, Obj.cells curgs 4 (0, 0)), (w.heap.size + 1 + 1, Obj.cells (wcs 0) 27 (0, 0)), (w.heap.size + 1, Obj.cells (totA leaf) 29 (0, 0)), (w.heap.size, Obj.cells (totA root) 29 (0, 0))] (by kernel_rfl) ER.out ?_
          refine anyH_phase [0, 1, 2, 3, 4, 5, 6, 7, 8, 9, 10, 11, 12, 13] 0 rfl ⟨_, (EnvX.drew ER.out)⟩ (by kernel_rfl) ?_
          have hw33 : EnvX w _ [(g13, Obj.cells (totA x) 29 (0, 0)), (g12, Obj.cells (wcs a) 27 (0, 0)), (gz, Obj.cells curgz 3 (0, 0)), (gs, Obj.cells curgs 4 (0, 0)), (w.heap.size + 1 + 1, Obj.cells (wcs 0) 27 (0, 0)), (w.heap.size + 1, Obj.cells (totA leaf) 29 (0, 0)), (w.heap.size, Obj.cells (totA root) 29 (0, 0))] := (EnvX.drew ER.out)
          have hone := @EnvC.one _ _ _ hw33
          (refine wpG_op rfl rfl rfl ?_; intro K hK; go_big_quiet_op; go_big_quiet_on)
          (refine wpG_op rfl rfl rfl ?_; intro K hK; go_big_quiet_op; go_big_quiet_on)
          (refine wpG_val (v := .pointer (some (ad.add (k * 37)))) rfl rfl (fun u hu => idxSl_op Tryd.underlying22 aggTot.size HKM.out u rfl rfl) ?_ hw33; intro K hK; go_big_quiet_op; go_big_quiet_on)
          (refine wpG_val (v := .pointer (some ((ad.add (k * 37)).add 36))) rfl rfl (fun u hu => fieldT_op (k := 2) (off := 36) rfl u rfl) ?_ hw33; intro K hK; go_big_quiet_op; go_big_quiet_on)
          (refine wpG_val (v := .int .i64 pk.n) rfl rfl (fun u hu => load_any_op u (HLD.out u (EnvX.sub hu (fun _ h => by cases h))).2.2.2 rfl) ?_ hw33; intro K hK; go_big_quiet_op; go_big_quiet_on)
          (refine wpG_op rfl rfl rfl ?_; intro K hK; go_big_quiet_op; go_big_quiet_on)
          (refine wpG_op rfl rfl rfl ?_; intro K hK; go_big_quiet_op; go_big_quiet_on)
          (refine wpG_val (v := .pointer (some ((⟨gz, 0, none⟩ : Addr).add (k * 1)))) rfl rfl (fun u hu => idxSl_op Tryd.underlying69 (by kernel_rfl) HKQ.out u rfl rfl) ?_ hw33; intro K hK; go_big_quiet_op; go_big_quiet_on)
          (refine wpG_val (v := .int .i64 (zk : Int)) rfl rfl (fun u hu => load_any_op u (run_load_one oneInt u (by rw [Addr.add_mid]; exact box_cell hu (List.Mem.tail _ (List.Mem.tail _ (List.Mem.head _))) HZK.out)) rfl) ?_ hw33; intro K hK; go_big_quiet_op; go_big_quiet_on)
          (refine wpG_val (v := .bool false) rfl rfl (fun u hu => neqI_op u C9.out rfl rfl) ?_ hw33; intro K hK; go_big_quiet_op; go_big_quiet_on)
          (refine wpG_op rfl rfl rfl ?_; intro K hK; go_big_quiet_op; go_big_quiet_on)
          (refine wpG_op rfl rfl rfl ?_; intro K hK; go_big_quiet_op; go_big_quiet_on)
          (refine wpG_op rfl rfl rfl ?_; intro K hK; go_big_quiet_op; go_big_quiet_on)
          (refine wpG_op rfl rfl rfl ?_; intro K hK; go_big_quiet_op; go_big_quiet_on)
          clear hone hw33
          refine wpG_nil ?_
          refine anyH_done (by kernel_rfl) ?_
          intro u35 E2'
          have EX34 := Lib.hid E2'
          clear E2'
          go_upto_region 14 with (fail)
          refine wp_region_Hx (w0 := w) [0, 1, 2] [(g13, Obj.cells (totA x) 29 (0, 0)), (g12, Obj.cells (wcs a) 27 (0, 0)), (gz, Obj.cells curgz 3 (0, 0)), (gs, Obj.cells curgs 4 (0, 0)), (w.heap.size + 1 + 1, Obj.cells (wcs 0) 27 (0, 0)), (w.heap.size + 1, Obj.cells (totA leaf) 29 (0, 0)), (w.heap.size, Obj.cells (totA root) 29 (0, 0))] rfl EX34.out ?_
          refine lexH_phase [0] [1, 2] ?_
          have hw36 : EnvX w _ [(g13, Obj.cells (totA x) 29 (0, 0)), (g12, Obj.cells (wcs a) 27 (0, 0)), (gz, Obj.cells curgz 3 (0, 0)), (gs, Obj.cells curgs 4 (0, 0)), (w.heap.size + 1 + 1, Obj.cells (wcs 0) 27 (0, 0)), (w.heap.size + 1, Obj.cells (totA leaf) 29 (0, 0)), (w.heap.size, Obj.cells (totA root) 29 (0, 0))] := EX34.out
          have hone := @EnvC.one _ _ _ hw36
          (refine wpG_val (v := .agg (wcs 0)) rfl rfl (fun u hu => buildA_op u built_w0) ?_ hw36; intro K hK; go_big_quiet_op; go_big_quiet_on)
          clear hone hw36
          refine wpG_nil ?_
          refine (hOp_store rfl (w.heap.size + 1 + 1) (wcs 0) rfl rfl HLE.out 27 ((wcs 0)) (List.Mem.tail _ (List.Mem.tail _ (List.Mem.tail _ (List.Mem.tail _ (List.Mem.head _))))) (wc_info _) ((wc_size _).trans (wc_size _).symm) (wc_one _) [(w.heap.size + 1 + 1, Obj.cells (wcs 0) 27 (0, 0))] (List.forall_mem_cons.2 ⟨.inl rfl, (fun _ h => by cases h)⟩) ?_)
          intro he37
          refine lexH_phase [2] [] ?_
          have hw38 : EnvX w _ [(w.heap.size + 1 + 1, Obj.cells (wcs 0) 27 (0, 0))] := he37.choose_spec
          have hone := @EnvC.one _ _ _ hw38
          (refine wpG_op rfl rfl rfl ?_; intro K hK; go_big_quiet_op; go_big_quiet_on)
          clear hone hw38
          refine wpG_nil ?_
          intro u40 E2'
          have EX39 := Lib.hid E2'
          clear E2'
          have Q0 := Lib.hid (EnvX.box EX39.out _ _ (List.Mem.head _))
          have HBEL := Lib.hid EX39.out.bel
          clear EX39
          go_wp2_with ((with_reducible refine bodyPost_ret (v := .tuple #[.agg (wcs 0), .bool false]) ?_ ?_ ?_); (exact results_row_slot (p := 8) (q := 9) (ty := 27) Tryd.results16 _ _ (w.heap.size + 1 + 1) 27 (wcs 0) (0, 0) _ rfl _ rfl Q0.out Tryd.underlying27 rfl (wc_info _)); (rfl))
          exact ⟨by rw [HMM.out]; first | done | exact ⟨rfl, rfl⟩, HBEL.out⟩
        | true =>
          have C9 : Hid (decide (pk.n ≠ (zk : Int)) = false) := decide_eq_false (fun h => h hc1)
          have HSY := Lib.hid (mstep_yes (s := sk) (m := zk) (p := pk) (x := x) (a := a) hc1 (of_decide_eq_true HB2.out))
          clear hc1
          refine wp_region_H (w0 := w) [(g13, Obj.cells (totA x) 29 (0, 0)), (g12, Obj.cells (wcs a) 27 (0, 0)), (gz, Obj.cells curgz 3 (0, 0)), (gs, Obj.cells curgs 4 (0, 0)), (w.heap.size + 1 + 1, Obj.cells (wcs 0) 27 (0, 0)), (w.heap.size + 1, Obj.cells (totA leaf) 29 (0, 0)), (w.heap.size, Obj.cells (totA root) 29 (0, 0))] (by kernel_rfl) ER.out ?_
          refine anyH_phase [0, 1, 2, 3, 4, 5, 6, 7, 8, 9, 10, 11, 12, 13] 0 rfl ⟨_, (EnvX.drew ER.out)⟩ (by kernel_rfl) ?_
          have hw33 : EnvX w _ [(g13, Obj.cells (totA x) 29 (0, 0)), (g12, Obj.cells (wcs a) 27 (0, 0)), (gz, Obj.cells curgz 3 (0, 0)), (gs, Obj.cells curgs 4 (0, 0)), (w.heap.size + 1 + 1, Obj.cells (wcs 0) 27 (0, 0)), (w.heap.size + 1, Obj.cells (totA leaf) 29 (0, 0)), (w.heap.size, Obj.cells (totA root) 29 (0, 0))] := (EnvX.drew ER.out)
          have hone := @EnvC.one _ _ _ hw33
          (refine wpG_op rfl rfl rfl ?_; intro K hK; go_big_quiet_op; go_big_quiet_on)
          (refine wpG_op rfl rfl rfl ?_; intro K hK; go_big_quiet_op; go_big_quiet_on)
          (refine wpG_val (v := .pointer (some (ad.add (k * 37)))) rfl rfl (fun u hu => idxSl_op Tryd.underlying22 aggTot.size HKM.out u rfl rfl) ?_ hw33; intro K hK; go_big_quiet_op; go_big_quiet_on)
          (refine wpG_val (v := .pointer (some ((ad.add (k * 37)).add 36))) rfl rfl (fun u hu => fieldT_op (k := 2) (off := 36) rfl u rfl) ?_ hw33; intro K hK; go_big_quiet_op; go_big_quiet_on)
          (refine wpG_val (v := .int .i64 pk.n) rfl rfl (fun u hu => load_any_op u (HLD.out u (EnvX.sub hu (fun _ h => by cases h))).2.2.2 rfl) ?_ hw33; intro K hK; go_big_quiet_op; go_big_quiet_on)
          (refine wpG_op rfl rfl rfl ?_; intro K hK; go_big_quiet_op; go_big_quiet_on)
          (refine wpG_op rfl rfl rfl ?_; intro K hK; go_big_quiet_op; go_big_quiet_on)
          (refine wpG_val (v := .pointer (some ((⟨gz, 0, none⟩ : Addr).add (k * 1)))) rfl rfl (fun u hu => idxSl_op Tryd.underlying69 (by kernel_rfl) HKQ.out u rfl rfl) ?_ hw33; intro K hK; go_big_quiet_op; go_big_quiet_on)
          (refine wpG_val (v := .int .i64 (zk : Int)) rfl rfl (fun u hu => load_any_op u (run_load_one oneInt u (by rw [Addr.add_mid]; exact box_cell hu (List.Mem.tail _ (List.Mem.tail _ (List.Mem.head _))) HZK.out)) rfl) ?_ hw33; intro K hK; go_big_quiet_op; go_big_quiet_on)
          (refine wpG_val (v := .bool false) rfl rfl (fun u hu => neqI_op u C9.out rfl rfl) ?_ hw33; intro K hK; go_big_quiet_op; go_big_quiet_on)
          (refine wpG_op rfl rfl rfl ?_; intro K hK; go_big_quiet_op; go_big_quiet_on)
          (refine wpG_op rfl rfl rfl ?_; intro K hK; go_big_quiet_op; go_big_quiet_on)
          (refine wpG_op rfl rfl rfl ?_; intro K hK; go_big_quiet_op; go_big_quiet_on)
          (refine wpG_op rfl rfl rfl ?_; intro K hK; go_big_quiet_op; go_big_quiet_on)
          clear hone hw33
          refine wpG_nil ?_
          refine anyH_done (by kernel_rfl) ?_
          intro u35 E2'
          have EX34 := Lib.hid E2'
          clear E2'
          go_upto_region 15 with (fail)
          refine wp_region_Hx (w0 := w) [0, 1, 2, 3] [(g13, Obj.cells (totA x) 29 (0, 0)), (g12, Obj.cells (wcs a) 27 (0, 0)), (gz, Obj.cells curgz 3 (0, 0)), (gs, Obj.cells curgs 4 (0, 0)), (w.heap.size + 1 + 1, Obj.cells (wcs 0) 27 (0, 0)), (w.heap.size + 1, Obj.cells (totA leaf) 29 (0, 0)), (w.heap.size, Obj.cells (totA root) 29 (0, 0))] rfl EX34.out ?_
          refine lexH_phase [0, 1, 2, 3] [] ?_
          have hw36 : EnvX w _ [(g13, Obj.cells (totA x) 29 (0, 0)), (g12, Obj.cells (wcs a) 27 (0, 0)), (gz, Obj.cells curgz 3 (0, 0)), (gs, Obj.cells curgs 4 (0, 0)), (w.heap.size + 1 + 1, Obj.cells (wcs 0) 27 (0, 0)), (w.heap.size + 1, Obj.cells (totA leaf) 29 (0, 0)), (w.heap.size, Obj.cells (totA root) 29 (0, 0))] := EX34.out
          have hone := @EnvC.one _ _ _ hw36
          (refine wpG_op rfl rfl rfl ?_; intro K hK; go_big_quiet_op; go_big_quiet_on)
          (refine wpG_op rfl rfl rfl ?_; intro K hK; go_big_quiet_op; go_big_quiet_on)
          (refine wpG_val (v := .pointer (some ((⟨gs, 0, none⟩ : Addr).add (k * 1)))) rfl rfl (fun u hu => idxSl_op Tryd.underlying67 (by kernel_rfl) HKQ.out u rfl rfl) ?_ hw36; intro K hK; go_big_quiet_op; go_big_quiet_on)
          (refine wpG_val (v := .bool sk) rfl rfl (fun u hu => load_any_op u (run_load_one oneBool u (by rw [Addr.add_mid]; exact box_cell hu (List.Mem.tail _ (List.Mem.tail _ (List.Mem.tail _ (List.Mem.head _)))) HSK.out)) rfl) ?_ hw36; intro K hK; go_big_quiet_op; go_big_quiet_on)
          clear hone hw36
          refine wpG_nil ?_
          intro u38 E2'
          have EX37 := Lib.hid E2'
          clear E2'
          cases sk with
          | true =>
            have HJ : Hid (∀ u, Calls Tryd.prog 21 #[.agg (totA x), .agg (totA pk)] u fun e w' => e = .returned (.agg (totA (joinT x pk))) ∧ Below u.heap.size u w') := fun u => rmjoin_any x pk u HX.out HPK.out
            go_upto_region 16 with (fail)
            refine wp_region_H (w0 := w) [(g13, Obj.cells (totA x) 29 (0, 0)), (g12, Obj.cells (wcs a) 27 (0, 0)), (gz, Obj.cells curgz 3 (0, 0)), (gs, Obj.cells curgs 4 (0, 0)), (w.heap.size + 1 + 1, Obj.cells (wcs 0) 27 (0, 0)), (w.heap.size + 1, Obj.cells (totA leaf) 29 (0, 0)), (w.heap.size, Obj.cells (totA root) 29 (0, 0))] (by kernel_rfl) EX37.out ?_
            refine anyH_phase [0, 1, 2, 3, 4, 5] 1 rfl ⟨_, (EnvX.drew EX37.out)⟩ (by kernel_rfl) ?_
            have hw39 : EnvX w _ [(g13, Obj.cells (totA x) 29 (0, 0)), (g12, Obj.cells (wcs a) 27 (0, 0)), (gz, Obj.cells curgz 3 (0, 0)), (gs, Obj.cells curgs 4 (0, 0)), (w.heap.size + 1 + 1, Obj.cells (wcs 0) 27 (0, 0)), (w.heap.size + 1, Obj.cells (totA leaf) 29 (0, 0)), (w.heap.size, Obj.cells (totA root) 29 (0, 0))] := (EnvX.drew EX37.out)
            have hone := @EnvC.one _ _ _ hw39
            (refine wpG_val (v := .agg (totA x)) rfl rfl (fun u hu => load_any_op u (box_tot hu (List.Mem.head _) HX.out.len) rfl) ?_ hw39; intro K hK; go_big_quiet_op; go_big_quiet_on)
            (refine wpG_op rfl rfl rfl ?_; intro K hK; go_big_quiet_op; go_big_quiet_on)
            (refine wpG_op rfl rfl rfl ?_; intro K hK; go_big_quiet_op; go_big_quiet_on)
            (refine wpG_val (v := .pointer (some (ad.add (k * 37)))) rfl rfl (fun u hu => idxSl_op Tryd.underlying22 aggTot.size HKM.out u rfl rfl) ?_ hw39; intro K hK; go_big_quiet_op; go_big_quiet_on)
            (refine wpG_val (v := .agg (totA pk)) rfl rfl (fun u hu => load_any_op u (HLD.out u (EnvX.sub hu (fun _ h => by cases h))).1 rfl) ?_ hw39; intro K hK; go_big_quiet_op; go_big_quiet_on)
            (refine wpG_call (f := 21) (args := #[.agg (totA x), .agg (totA pk)]) (v := .agg (totA (joinT x pk))) rfl rfl rfl Tryd.func21 rfl rfl (fun u hu => HJ.out u) ?_ hw39; intro K hK; go_big_quiet_op; go_big_quiet_on)
            clear hone hw39
            refine wpG_nil ?_
            refine anyH_one (i := 6) (by kernel_rfl) (hOp_store rfl (g13) (totA (joinT x pk)) rfl rfl HG13.out.1 29 ((totA x)) (List.Mem.head _) (infoTot _ (totA_size join_ok.len)) ((totA_size HX.out.len).trans (totA_size join_ok.len).symm) (totA_one _) [(g13, Obj.cells (totA (joinT x pk)) 29 (0, 0)), (g12, Obj.cells (wcs a) 27 (0, 0)), (gz, Obj.cells curgz 3 (0, 0)), (gs, Obj.cells curgs 4 (0, 0)), (w.heap.size + 1 + 1, Obj.cells (wcs 0) 27 (0, 0)), (w.heap.size + 1, Obj.cells (totA leaf) 29 (0, 0)), (w.heap.size, Obj.cells (totA root) 29 (0, 0))] (List.forall_mem_cons.2 ⟨.inl rfl, List.forall_mem_cons.2 ⟨.inr ⟨(List.Mem.tail _ (List.Mem.head _)), Ng13_0.out⟩, List.forall_mem_cons.2 ⟨.inr ⟨(List.Mem.tail _ (List.Mem.tail _ (List.Mem.head _))), Ng13_1.out⟩, List.forall_mem_cons.2 ⟨.inr ⟨(List.Mem.tail _ (List.Mem.tail _ (List.Mem.tail _ (List.Mem.head _)))), Ng13_2.out⟩, List.forall_mem_cons.2 ⟨.inr ⟨(List.Mem.tail _ (List.Mem.tail _ (List.Mem.tail _ (List.Mem.tail _ (List.Mem.head _))))), Ng13_3.out⟩, List.forall_mem_cons.2 ⟨.inr ⟨(List.Mem.tail _ (List.Mem.tail _ (List.Mem.tail _ (List.Mem.tail _ (List.Mem.tail _ (List.Mem.head _)))))), Ng13_4.out⟩, List.forall_mem_cons.2 ⟨.inr ⟨(List.Mem.tail _ (List.Mem.tail _ (List.Mem.tail _ (List.Mem.tail _ (List.Mem.tail _ (List.Mem.tail _ (List.Mem.head _))))))), Ng13_5.out⟩, fun _ h => by cases h⟩⟩⟩⟩⟩⟩⟩) ?_)
            intro he40
            refine anyH_done (by kernel_rfl) ?_
            intro u42 E2'
            have EX41 := Lib.hid E2'
            clear E2'
            have EN : Hid (∃ x a, mclimbK s z p leaf (k + 1) = some (x, a) ∧ okT x ∧ a < Big ∧ EnvX w u42 [(g13, Obj.cells (totA x) 29 (0, 0)), (g12, Obj.cells (wcs a) 27 (0, 0)), (gz, Obj.cells curgz 3 (0, 0)), (gs, Obj.cells curgs 4 (0, 0)), (w.heap.size + 1 + 1, Obj.cells (wcs 0) 27 (0, 0)), (w.heap.size + 1, Obj.cells (totA leaf) 29 (0, 0)), (w.heap.size, Obj.cells (totA root) 29 (0, 0))]) := ⟨joinT x pk, a, by rw [HST.out, HSY.out]; rfl, join_ok, HAB.out, EnvX.sub EX41.out (List.forall_mem_cons.2 ⟨(List.Mem.head _), (List.forall_mem_cons.2 ⟨(List.Mem.tail _ (List.Mem.head _)), (List.forall_mem_cons.2 ⟨(List.Mem.tail _ (List.Mem.tail _ (List.Mem.head _))), (List.forall_mem_cons.2 ⟨(List.Mem.tail _ (List.Mem.tail _ (List.Mem.tail _ (List.Mem.head _)))), (List.forall_mem_cons.2 ⟨(List.Mem.tail _ (List.Mem.tail _ (List.Mem.tail _ (List.Mem.tail _ (List.Mem.head _))))), (List.forall_mem_cons.2 ⟨(List.Mem.tail _ (List.Mem.tail _ (List.Mem.tail _ (List.Mem.tail _ (List.Mem.tail _ (List.Mem.head _)))))), (List.forall_mem_cons.2 ⟨(List.Mem.tail _ (List.Mem.tail _ (List.Mem.tail _ (List.Mem.tail _ (List.Mem.tail _ (List.Mem.tail _ (List.Mem.head _))))))), (fun _ h => by cases h)⟩)⟩)⟩)⟩)⟩)⟩)⟩)⟩
            go_wp2
            go_roundw
            case rel => exact ⟨k + 1, by omega, by go_num, EN⟩
            case measure => simp [intOf]; omega
          | false =>
            have HJ : Hid (∀ u, Calls Tryd.prog 21 #[.agg (totA pk), .agg (totA x)] u fun e w' => e = .returned (.agg (totA (joinT pk x))) ∧ Below u.heap.size u w') := fun u => rmjoin_any pk x u HPK.out HX.out
            have HAD2 : Hid (∀ u, Calls Tryd.prog 42 #[.agg (wcs a), .agg (wcs pk.w)] u fun e w' => e = .returned (.tuple #[.agg (wcs ((a + pk.w) % Big)), .bool (decide (a + pk.w < Big))]) ∧ Below u.heap.size u w') := fun u => radd_any a pk.w u HAB.out HPK.out.2.1
            go_upto_region 17 with (fail)
            refine wp_region_H (w0 := w) [(g13, Obj.cells (totA x) 29 (0, 0)), (g12, Obj.cells (wcs a) 27 (0, 0)), (gz, Obj.cells curgz 3 (0, 0)), (gs, Obj.cells curgs 4 (0, 0)), (w.heap.size + 1 + 1, Obj.cells (wcs 0) 27 (0, 0)), (w.heap.size + 1, Obj.cells (totA leaf) 29 (0, 0)), (w.heap.size, Obj.cells (totA root) 29 (0, 0))] (by kernel_rfl) EX37.out ?_
            refine anyH_phase [0, 1, 2, 3, 4, 5, 6, 7, 8, 9] 1 rfl ⟨_, (EnvX.drew EX37.out)⟩ (by kernel_rfl) ?_
            have hw79 : EnvX w _ [(g13, Obj.cells (totA x) 29 (0, 0)), (g12, Obj.cells (wcs a) 27 (0, 0)), (gz, Obj.cells curgz 3 (0, 0)), (gs, Obj.cells curgs 4 (0, 0)), (w.heap.size + 1 + 1, Obj.cells (wcs 0) 27 (0, 0)), (w.heap.size + 1, Obj.cells (totA leaf) 29 (0, 0)), (w.heap.size, Obj.cells (totA root) 29 (0, 0))] := (EnvX.drew EX37.out)
            have hone := @EnvC.one _ _ _ hw79
            (refine wpG_val (v := .agg (wcs a)) rfl rfl (fun u hu => load_any_op u (box_wide hu (List.Mem.tail _ (List.Mem.head _))) rfl) ?_ hw79; intro K hK; go_big_quiet_op; go_big_quiet_on)
            (refine wpG_op rfl rfl rfl ?_; intro K hK; go_big_quiet_op; go_big_quiet_on)
            (refine wpG_op rfl rfl rfl ?_; intro K hK; go_big_quiet_op; go_big_quiet_on)
            (refine wpG_val (v := .pointer (some (ad.add (k * 37)))) rfl rfl (fun u hu => idxSl_op Tryd.underlying22 aggTot.size HKM.out u rfl rfl) ?_ hw79; intro K hK; go_big_quiet_op; go_big_quiet_on)
            (refine wpG_val (v := .pointer (some ((ad.add (k * 37)).add 32))) rfl rfl (fun u hu => fieldT_op (k := 1) (off := 32) rfl u rfl) ?_ hw79; intro K hK; go_big_quiet_op; go_big_quiet_on)
            (refine wpG_val (v := .agg (wcs pk.w)) rfl rfl (fun u hu => load_any_op u (HLD.out u (EnvX.sub hu (fun _ h => by cases h))).2.2.1 rfl) ?_ hw79; intro K hK; go_big_quiet_op; go_big_quiet_on)
            (refine wpG_call (f := 42) (args := #[.agg (wcs a), .agg (wcs pk.w)]) (v := .tuple #[.agg (wcs ((a + pk.w) % Big)), .bool (decide (a + pk.w < Big))]) rfl rfl rfl Tryd.func42 rfl rfl (fun u hu => HAD2.out u) ?_ hw79; intro K hK; go_big_quiet_op; go_big_quiet_on)
            (refine wpG_op rfl rfl rfl ?_; intro K hK; go_big_quiet_op; go_big_quiet_on)
            (refine wpG_op rfl rfl rfl ?_; intro K hK; go_big_quiet_op; go_big_quiet_on)
            (refine wpG_op rfl rfl rfl ?_; intro K hK; go_big_quiet_op; go_big_quiet_on)
            clear hone hw79
            refine wpG_nil ?_
            refine anyH_one (i := 10) (by kernel_rfl) (hOp_store rfl (g12) (wcs ((a + pk.w) % Big)) rfl rfl HG12.out.1 27 ((wcs a)) (List.Mem.tail _ (List.Mem.head _)) (wc_info _) ((wc_size _).trans (wc_size _).symm) (wc_one _) [(g12, Obj.cells (wcs ((a + pk.w) % Big)) 27 (0, 0)), (g13, Obj.cells (totA x) 29 (0, 0)), (gz, Obj.cells curgz 3 (0, 0)), (gs, Obj.cells curgs 4 (0, 0)), (w.heap.size + 1 + 1, Obj.cells (wcs 0) 27 (0, 0)), (w.heap.size + 1, Obj.cells (totA leaf) 29 (0, 0)), (w.heap.size, Obj.cells (totA root) 29 (0, 0))] (List.forall_mem_cons.2 ⟨.inl rfl, List.forall_mem_cons.2 ⟨.inr ⟨(List.Mem.head _), Ne.symm Ng13_0.out⟩, List.forall_mem_cons.2 ⟨.inr ⟨(List.Mem.tail _ (List.Mem.tail _ (List.Mem.head _))), Ng12_0.out⟩, List.forall_mem_cons.2 ⟨.inr ⟨(List.Mem.tail _ (List.Mem.tail _ (List.Mem.tail _ (List.Mem.head _)))), Ng12_1.out⟩, List.forall_mem_cons.2 ⟨.inr ⟨(List.Mem.tail _ (List.Mem.tail _ (List.Mem.tail _ (List.Mem.tail _ (List.Mem.head _))))), Ng12_2.out⟩, List.forall_mem_cons.2 ⟨.inr ⟨(List.Mem.tail _ (List.Mem.tail _ (List.Mem.tail _ (List.Mem.tail _ (List.Mem.tail _ (List.Mem.head _)))))), Ng12_3.out⟩, List.forall_mem_cons.2 ⟨.inr ⟨(List.Mem.tail _ (List.Mem.tail _ (List.Mem.tail _ (List.Mem.tail _ (List.Mem.tail _ (List.Mem.tail _ (List.Mem.head _))))))), Ng12_4.out⟩, fun _ h => by cases h⟩⟩⟩⟩⟩⟩⟩) ?_)
            intro he80
            refine anyH_done (by kernel_rfl) ?_
            intro u82 E2'
            have EX81 := Lib.hid E2'
            clear E2'
            go_upto_region 18 with (fail)
            refine wp_region_H (w0 := w) [(g12, Obj.cells (wcs ((a + pk.w) % Big)) 27 (0, 0)), (g13, Obj.cells (totA x) 29 (0, 0)), (gz, Obj.cells curgz 3 (0, 0)), (gs, Obj.cells curgs 4 (0, 0)), (w.heap.size + 1 + 1, Obj.cells (wcs 0) 27 (0, 0)), (w.heap.size + 1, Obj.cells (totA leaf) 29 (0, 0)), (w.heap.size, Obj.cells (totA root) 29 (0, 0))] (by kernel_rfl) EX81.out ?_
            refine anyH_phase [0, 1, 2, 3, 4, 5] 1 rfl ⟨_, (EnvX.drew EX81.out)⟩ (by kernel_rfl) ?_
            have hw83 : EnvX w _ [(g12, Obj.cells (wcs ((a + pk.w) % Big)) 27 (0, 0)), (g13, Obj.cells (totA x) 29 (0, 0)), (gz, Obj.cells curgz 3 (0, 0)), (gs, Obj.cells curgs 4 (0, 0)), (w.heap.size + 1 + 1, Obj.cells (wcs 0) 27 (0, 0)), (w.heap.size + 1, Obj.cells (totA leaf) 29 (0, 0)), (w.heap.size, Obj.cells (totA root) 29 (0, 0))] := (EnvX.drew EX81.out)
            have hone := @EnvC.one _ _ _ hw83
            (refine wpG_op rfl rfl rfl ?_; intro K hK; go_big_quiet_op; go_big_quiet_on)
            (refine wpG_op rfl rfl rfl ?_; intro K hK; go_big_quiet_op; go_big_quiet_on)
            (refine wpG_val (v := .pointer (some (ad.add (k * 37)))) rfl rfl (fun u hu => idxSl_op Tryd.underlying22 aggTot.size HKM.out u rfl rfl) ?_ hw83; intro K hK; go_big_quiet_op; go_big_quiet_on)
            (refine wpG_val (v := .agg (totA pk)) rfl rfl (fun u hu => load_any_op u (HLD.out u (EnvX.sub hu (fun _ h => by cases h))).1 rfl) ?_ hw83; intro K hK; go_big_quiet_op; go_big_quiet_on)
            (refine wpG_val (v := .agg (totA x)) rfl rfl (fun u hu => load_any_op u (box_tot hu (List.Mem.tail _ (List.Mem.head _)) HX.out.len) rfl) ?_ hw83; intro K hK; go_big_quiet_op; go_big_quiet_on)
            (refine wpG_call (f := 21) (args := #[.agg (totA pk), .agg (totA x)]) (v := .agg (totA (joinT pk x))) rfl rfl rfl Tryd.func21 rfl rfl (fun u hu => HJ.out u) ?_ hw83; intro K hK; go_big_quiet_op; go_big_quiet_on)
            clear hone hw83
            refine wpG_nil ?_
            refine anyH_one (i := 6) (by kernel_rfl) (hOp_store rfl (g13) (totA (joinT pk x)) rfl rfl HG13.out.1 29 ((totA x)) (List.Mem.tail _ (List.Mem.head _)) (infoTot _ (totA_size join_ok.len)) ((totA_size HX.out.len).trans (totA_size join_ok.len).symm) (totA_one _) [(g13, Obj.cells (totA (joinT pk x)) 29 (0, 0)), (g12, Obj.cells (wcs ((a + pk.w) % Big)) 27 (0, 0)), (gz, Obj.cells curgz 3 (0, 0)), (gs, Obj.cells curgs 4 (0, 0)), (w.heap.size + 1 + 1, Obj.cells (wcs 0) 27 (0, 0)), (w.heap.size + 1, Obj.cells (totA leaf) 29 (0, 0)), (w.heap.size, Obj.cells (totA root) 29 (0, 0))] (List.forall_mem_cons.2 ⟨.inl rfl, List.forall_mem_cons.2 ⟨.inr ⟨(List.Mem.head _), Ng13_0.out⟩, List.forall_mem_cons.2 ⟨.inr ⟨(List.Mem.tail _ (List.Mem.tail _ (List.Mem.head _))), Ng13_1.out⟩, List.forall_mem_cons.2 ⟨.inr ⟨(List.Mem.tail _ (List.Mem.tail _ (List.Mem.tail _ (List.Mem.head _)))), Ng13_2.out⟩, List.forall_mem_cons.2 ⟨.inr ⟨(List.Mem.tail _ (List.Mem.tail _ (List.Mem.tail _ (List.Mem.tail _ (List.Mem.head _))))), Ng13_3.out⟩, List.forall_mem_cons.2 ⟨.inr ⟨(List.Mem.tail _ (List.Mem.tail _ (List.Mem.tail _ (List.Mem.tail _ (List.Mem.tail _ (List.Mem.head _)))))), Ng13_4.out⟩, List.forall_mem_cons.2 ⟨.inr ⟨(List.Mem.tail _ (List.Mem.tail _ (List.Mem.tail _ (List.Mem.tail _ (List.Mem.tail _ (List.Mem.tail _ (List.Mem.head _))))))), Ng13_5.out⟩, fun _ h => by cases h⟩⟩⟩⟩⟩⟩⟩) ?_)
            intro he84
            refine anyH_done (by kernel_rfl) ?_
            intro u86 E2'
            have EX85 := Lib.hid E2'
            clear E2'
            have EN : Hid (∃ x a, mclimbK s z p leaf (k + 1) = some (x, a) ∧ okT x ∧ a < Big ∧ EnvX w u86 [(g13, Obj.cells (totA x) 29 (0, 0)), (g12, Obj.cells (wcs a) 27 (0, 0)), (gz, Obj.cells curgz 3 (0, 0)), (gs, Obj.cells curgs 4 (0, 0)), (w.heap.size + 1 + 1, Obj.cells (wcs 0) 27 (0, 0)), (w.heap.size + 1, Obj.cells (totA leaf) 29 (0, 0)), (w.heap.size, Obj.cells (totA root) 29 (0, 0))]) := ⟨joinT pk x, ((a + pk.w) % Big), by rw [HST.out, HSY.out]; rfl, join_ok, Nat.mod_lt _ (by unfold Big; decide), EnvX.sub EX85.out (List.forall_mem_cons.2 ⟨(List.Mem.head _), (List.forall_mem_cons.2 ⟨(List.Mem.tail _ (List.Mem.head _)), (List.forall_mem_cons.2 ⟨(List.Mem.tail _ (List.Mem.tail _ (List.Mem.head _))), (List.forall_mem_cons.2 ⟨(List.Mem.tail _ (List.Mem.tail _ (List.Mem.tail _ (List.Mem.head _)))), (List.forall_mem_cons.2 ⟨(List.Mem.tail _ (List.Mem.tail _ (List.Mem.tail _ (List.Mem.tail _ (List.Mem.head _))))), (List.forall_mem_cons.2 ⟨(List.Mem.tail _ (List.Mem.tail _ (List.Mem.tail _ (List.Mem.tail _ (List.Mem.tail _ (List.Mem.head _)))))), (List.forall_mem_cons.2 ⟨(List.Mem.tail _ (List.Mem.tail _ (List.Mem.tail _ (List.Mem.tail _ (List.Mem.tail _ (List.Mem.tail _ (List.Mem.head _))))))), (fun _ h => by cases h)⟩)⟩)⟩)⟩)⟩)⟩)⟩)⟩
            go_wp2
            go_roundw
            case rel => exact ⟨k + 1, by omega, by go_num, EN⟩
            case measure => simp [intOf]; omega
      · have C9 : Hid (decide (pk.n ≠ (zk : Int)) = true) := decide_eq_true hc1
        have HMM : Hid (mcheckT root i leaf p = (0, false)) := HNO.out (mstep_no (fun h => hc1 h.1))
        clear hc1
        refine wp_region_H (w0 := w) [(g13, Obj.cells (totA x) 29 (0, 0)), (g12, Obj.cells (wcs a) 27 (0, 0)), (gz, Obj.cells curgz 3 (0, 0)), (gs, Obj.cells curgs 4 (0, 0)), (w.heap.size + 1 + 1, Obj.cells (wcs 0) 27 (0, 0)), (w.heap.size + 1, Obj.cells (totA leaf) 29 (0, 0)), (w.heap.size, Obj.cells (totA root) 29 (0, 0))] (by kernel_rfl) ER.out ?_
        refine anyH_phase [0, 1, 2, 3, 4, 5, 6, 7, 8, 9, 10, 11, 12, 13] 0 rfl ⟨_, (EnvX.drew ER.out)⟩ (by kernel_rfl) ?_
        have hw33 : EnvX w _ [(g13, Obj.cells (totA x) 29 (0, 0)), (g12, Obj.cells (wcs a) 27 (0, 0)), (gz, Obj.cells curgz 3 (0, 0)), (gs, Obj.cells curgs 4 (0, 0)), (w.heap.size + 1 + 1, Obj.cells (wcs 0) 27 (0, 0)), (w.heap.size + 1, Obj.cells (totA leaf) 29 (0, 0)), (w.heap.size, Obj.cells (totA root) 29 (0, 0))] := (EnvX.drew ER.out)
        have hone := @EnvC.one _ _ _ hw33
        (refine wpG_op rfl rfl rfl ?_; intro K hK; go_big_quiet_op; go_big_quiet_on)
        (refine wpG_op rfl rfl rfl ?_; intro K hK; go_big_quiet_op; go_big_quiet_on)
        (refine wpG_val (v := .pointer (some (ad.add (k * 37)))) rfl rfl (fun u hu => idxSl_op Tryd.underlying22 aggTot.size HKM.out u rfl rfl) ?_ hw33; intro K hK; go_big_quiet_op; go_big_quiet_on)
        (refine wpG_val (v := .pointer (some ((ad.add (k * 37)).add 36))) rfl rfl (fun u hu => fieldT_op (k := 2) (off := 36) rfl u rfl) ?_ hw33; intro K hK; go_big_quiet_op; go_big_quiet_on)
        (refine wpG_val (v := .int .i64 pk.n) rfl rfl (fun u hu => load_any_op u (HLD.out u (EnvX.sub hu (fun _ h => by cases h))).2.2.2 rfl) ?_ hw33; intro K hK; go_big_quiet_op; go_big_quiet_on)
        (refine wpG_op rfl rfl rfl ?_; intro K hK; go_big_quiet_op; go_big_quiet_on)
        (refine wpG_op rfl rfl rfl ?_; intro K hK; go_big_quiet_op; go_big_quiet_on)
        (refine wpG_val (v := .pointer (some ((⟨gz, 0, none⟩ : Addr).add (k * 1)))) rfl rfl (fun u hu => idxSl_op Tryd.underlying69 (by kernel_rfl) HKQ.out u rfl rfl) ?_ hw33; intro K hK; go_big_quiet_op; go_big_quiet_on)
        (refine wpG_val (v := .int .i64 (zk : Int)) rfl rfl (fun u hu => load_any_op u (run_load_one oneInt u (by rw [Addr.add_mid]; exact box_cell hu (List.Mem.tail _ (List.Mem.tail _ (List.Mem.head _))) HZK.out)) rfl) ?_ hw33; intro K hK; go_big_quiet_op; go_big_quiet_on)
        (refine wpG_val (v := .bool true) rfl rfl (fun u hu => neqI_op u C9.out rfl rfl) ?_ hw33; intro K hK; go_big_quiet_op; go_big_quiet_on)
        (refine wpG_op rfl rfl rfl ?_; intro K hK; go_big_quiet_op; go_big_quiet_on)
        (refine wpG_skip rfl rfl ?_ hw33; intro K hK; go_big_quiet_op; go_big_quiet_on)
        (refine wpG_skip rfl rfl ?_ hw33; intro K hK; go_big_quiet_op; go_big_quiet_on)
        (refine wpG_op rfl rfl rfl ?_; intro K hK; go_big_quiet_op; go_big_quiet_on)
        clear hone hw33
        refine wpG_nil ?_
        refine anyH_done (by kernel_rfl) ?_
        intro u35 E2'
        have EX34 := Lib.hid E2'
        clear E2'
        go_upto_region 14 with (fail)
        refine wp_region_Hx (w0 := w) [0, 1, 2] [(g13, Obj.cells (totA x) 29 (0, 0)), (g12, Obj.cells (wcs a) 27 (0, 0)), (gz, Obj.cells curgz 3 (0, 0)), (gs, Obj.cells curgs 4 (0, 0)), (w.heap.size + 1 + 1, Obj.cells (wcs 0) 27 (0, 0)), (w.heap.size + 1, Obj.cells (totA leaf) 29 (0, 0)), (w.heap.size, Obj.cells (totA root) 29 (0, 0))] rfl EX34.out ?_
        refine lexH_phase [0] [1, 2] ?_
        have hw36 : EnvX w _ [(g13, Obj.cells (totA x) 29 (0, 0)), (g12, Obj.cells (wcs a) 27 (0, 0)), (gz, Obj.cells curgz 3 (0, 0)), (gs, Obj.cells curgs 4 (0, 0)), (w.heap.size + 1 + 1, Obj.cells (wcs 0) 27 (0, 0)), (w.heap.size + 1, Obj.cells (totA leaf) 29 (0, 0)), (w.heap.size, Obj.cells (totA root) 29 (0, 0))] := EX34.out
        have hone := @EnvC.one _ _ _ hw36
        (refine wpG_val (v := .agg (wcs 0)) rfl rfl (fun u hu => buildA_op u built_w0) ?_ hw36; intro K hK; go_big_quiet_op; go_big_quiet_on)
        clear hone hw36
        refine wpG_nil ?_
        refine (hOp_store rfl (w.heap.size + 1 + 1) (wcs 0) rfl rfl HLE.out 27 ((wcs 0)) (List.Mem.tail _ (List.Mem.tail _ (List.Mem.tail _ (List.Mem.tail _ (List.Mem.head _))))) (wc_info _) ((wc_size _).trans (wc_size _).symm) (wc_one _) [(w.heap.size + 1 + 1, Obj.cells (wcs 0) 27 (0, 0))] (List.forall_mem_cons.2 ⟨.inl rfl, (fun _ h => by cases h)⟩) ?_)
        intro he37
        refine lexH_phase [2] [] ?_
        have hw38 : EnvX w _ [(w.heap.size + 1 + 1, Obj.cells (wcs 0) 27 (0, 0))] := he37.choose_spec
        have hone := @EnvC.one _ _ _ hw38
        (refine wpG_op rfl rfl rfl ?_; intro K hK; go_big_quiet_op; go_big_quiet_on)
        clear hone hw38
        refine wpG_nil ?_
        intro u40 E2'
        have EX39 := Lib.hid E2'
        clear E2'
        have Q0 := Lib.hid (EnvX.box EX39.out _ _ (List.Mem.head _))
        have HBEL := Lib.hid EX39.out.bel
        clear EX39
        go_wp2_with ((with_reducible refine bodyPost_ret (v := .tuple #[.agg (wcs 0), .bool false]) ?_ ?_ ?_); (exact results_row_slot (p := 8) (q := 9) (ty := 27) Tryd.results16 _ _ (w.heap.size + 1 + 1) 27 (wcs 0) (0, 0) _ rfl _ rfl Q0.out Tryd.underlying27 rfl (wc_info _)); (rfl))
        exact ⟨by rw [HMM.out]; first | done | exact ⟨rfl, rfl⟩, HBEL.out⟩
    · obtain rfl : k = q := by omega
      have hge : ¬ (k : Int) < (k : Int) := by omega
      have HVV := Lib.hid (HV.out.1 x a HCL.out)
      by_cases hxr : x = root
      · have C2' : Hid ((!eqT x root) = false) := by show _ = _; simp [eqT, hxr]
        rw [if_pos hxr] at HVV
        clear hxr
        go_upto_region 19 with (fail)
        refine wp_region_Hx (w0 := w) [0, 1, 2] [(g13, Obj.cells (totA x) 29 (0, 0)), (g12, Obj.cells (wcs a) 27 (0, 0)), (gz, Obj.cells curgz 3 (0, 0)), (gs, Obj.cells curgs 4 (0, 0)), (w.heap.size + 1 + 1, Obj.cells (wcs 0) 27 (0, 0)), (w.heap.size + 1, Obj.cells (totA leaf) 29 (0, 0)), (w.heap.size, Obj.cells (totA root) 29 (0, 0))] rfl EK.out ?_
        refine lexH_phase [0, 1, 2] [] ?_
        have hw501 : EnvX w _ [(g13, Obj.cells (totA x) 29 (0, 0)), (g12, Obj.cells (wcs a) 27 (0, 0)), (gz, Obj.cells curgz 3 (0, 0)), (gs, Obj.cells curgs 4 (0, 0)), (w.heap.size + 1 + 1, Obj.cells (wcs 0) 27 (0, 0)), (w.heap.size + 1, Obj.cells (totA leaf) 29 (0, 0)), (w.heap.size, Obj.cells (totA root) 29 (0, 0))] := EK.out
        have hone := @EnvC.one _ _ _ hw501
        (refine wpG_val (v := totV x) rfl rfl (fun u hu => load_any_op u (box_tot hu (List.Mem.head _) HX.out.len) rfl) ?_ hw501; intro K hK; go_big_quiet_op; go_big_quiet_on)
        (refine wpG_val (v := totV root) rfl rfl (fun u hu => load_any_op u (box_tot hu (List.Mem.tail _ (List.Mem.tail _ (List.Mem.tail _ (List.Mem.tail _ (List.Mem.tail _ (List.Mem.tail _ (List.Mem.head _))))))) HR.out.len) rfl) ?_ hw501; intro K hK; go_big_quiet_op; go_big_quiet_on)
        (refine wpG_val (v := .bool false) rfl rfl (fun u hu => neqTb_op HX.out HR.out C2'.out u rfl rfl) ?_ hw501; intro K hK; go_big_quiet_op; go_big_quiet_on)
        clear hone hw501
        refine wpG_nil ?_
        intro u503 E2'
        have EX502 := Lib.hid E2'
        clear E2'
        go_upto_region 21 with (fail)
        refine wp_region_Hx (w0 := w) [0, 1, 2] [(g13, Obj.cells (totA x) 29 (0, 0)), (g12, Obj.cells (wcs a) 27 (0, 0)), (gz, Obj.cells curgz 3 (0, 0)), (gs, Obj.cells curgs 4 (0, 0)), (w.heap.size + 1 + 1, Obj.cells (wcs 0) 27 (0, 0)), (w.heap.size + 1, Obj.cells (totA leaf) 29 (0, 0)), (w.heap.size, Obj.cells (totA root) 29 (0, 0))] rfl EX502.out ?_
        refine lexH_phase [0] [1, 2] ?_
        have hw504 : EnvX w _ [(g13, Obj.cells (totA x) 29 (0, 0)), (g12, Obj.cells (wcs a) 27 (0, 0)), (gz, Obj.cells curgz 3 (0, 0)), (gs, Obj.cells curgs 4 (0, 0)), (w.heap.size + 1 + 1, Obj.cells (wcs 0) 27 (0, 0)), (w.heap.size + 1, Obj.cells (totA leaf) 29 (0, 0)), (w.heap.size, Obj.cells (totA root) 29 (0, 0))] := EX502.out
        have hone := @EnvC.one _ _ _ hw504
        (refine wpG_val (v := .agg (wcs a)) rfl rfl (fun u hu => load_any_op u (box_wide hu (List.Mem.tail _ (List.Mem.head _))) rfl) ?_ hw504; intro K hK; go_big_quiet_op; go_big_quiet_on)
        clear hone hw504
        refine wpG_nil ?_
        refine (hOp_store rfl (w.heap.size + 1 + 1) (wcs a) rfl rfl HLE.out 27 ((wcs 0)) (List.Mem.tail _ (List.Mem.tail _ (List.Mem.tail _ (List.Mem.tail _ (List.Mem.head _))))) (wc_info _) ((wc_size _).trans (wc_size _).symm) (wc_one _) [(w.heap.size + 1 + 1, Obj.cells (wcs a) 27 (0, 0))] (List.forall_mem_cons.2 ⟨.inl rfl, (fun _ h => by cases h)⟩) ?_)
        intro he505
        refine lexH_phase [2] [] ?_
        have hw506 : EnvX w _ [(w.heap.size + 1 + 1, Obj.cells (wcs a) 27 (0, 0))] := he505.choose_spec
        have hone := @EnvC.one _ _ _ hw506
        (refine wpG_op rfl rfl rfl ?_; intro K hK; go_big_quiet_op; go_big_quiet_on)
        clear hone hw506
        refine wpG_nil ?_
        intro u508 E2'
        have EX507 := Lib.hid E2'
        clear E2'
        have Q0 := Lib.hid (EnvX.box EX507.out _ _ (List.Mem.head _))
        have HBEL := Lib.hid EX507.out.bel
        clear EX507
        go_wp2_with ((with_reducible refine bodyPost_ret (v := .tuple #[.agg (wcs a), .bool true]) ?_ ?_ ?_); (exact results_row_slot (p := 8) (q := 9) (ty := 27) Tryd.results16 _ _ (w.heap.size + 1 + 1) 27 (wcs a) (0, 0) _ rfl _ rfl Q0.out Tryd.underlying27 rfl (wc_info _)); (rfl))
        exact ⟨by rw [HVV.out]; first | done | exact ⟨rfl, rfl⟩, HBEL.out⟩
      · have C2' : Hid ((!eqT x root) = true) := by show _ = _; simp [eqT, hxr]
        rw [if_neg hxr] at HVV
        clear hxr
        go_upto_region 19 with (fail)
        refine wp_region_Hx (w0 := w) [0, 1, 2] [(g13, Obj.cells (totA x) 29 (0, 0)), (g12, Obj.cells (wcs a) 27 (0, 0)), (gz, Obj.cells curgz 3 (0, 0)), (gs, Obj.cells curgs 4 (0, 0)), (w.heap.size + 1 + 1, Obj.cells (wcs 0) 27 (0, 0)), (w.heap.size + 1, Obj.cells (totA leaf) 29 (0, 0)), (w.heap.size, Obj.cells (totA root) 29 (0, 0))] rfl EK.out ?_
        refine lexH_phase [0, 1, 2] [] ?_
        have hw501 : EnvX w _ [(g13, Obj.cells (totA x) 29 (0, 0)), (g12, Obj.cells (wcs a) 27 (0, 0)), (gz, Obj.cells curgz 3 (0, 0)), (gs, Obj.cells curgs 4 (0, 0)), (w.heap.size + 1 + 1, Obj.cells (wcs 0) 27 (0, 0)), (w.heap.size + 1, Obj.cells (totA leaf) 29 (0, 0)), (w.heap.size, Obj.cells (totA root) 29 (0, 0))] := EK.out
        have hone := @EnvC.one _ _ _ hw501
        (refine wpG_val (v := totV x) rfl rfl (fun u hu => load_any_op u (box_tot hu (List.Mem.head _) HX.out.len) rfl) ?_ hw501; intro K hK; go_big_quiet_op; go_big_quiet_on)
        (refine wpG_val (v := totV root) rfl rfl (fun u hu => load_any_op u (box_tot hu (List.Mem.tail _ (List.Mem.tail _ (List.Mem.tail _ (List.Mem.tail _ (List.Mem.tail _ (List.Mem.tail _ (List.Mem.head _))))))) HR.out.len) rfl) ?_ hw501; intro K hK; go_big_quiet_op; go_big_quiet_on)
        (refine wpG_val (v := .bool true) rfl rfl (fun u hu => neqTb_op HX.out HR.out C2'.out u rfl rfl) ?_ hw501; intro K hK; go_big_quiet_op; go_big_quiet_on)
        clear hone hw501
        refine wpG_nil ?_
        intro u503 E2'
        have EX502 := Lib.hid E2'
        clear E2'
        go_upto_region 20 with (fail)
        refine wp_region_Hx (w0 := w) [0, 1, 2] [(g13, Obj.cells (totA x) 29 (0, 0)), (g12, Obj.cells (wcs a) 27 (0, 0)), (gz, Obj.cells curgz 3 (0, 0)), (gs, Obj.cells curgs 4 (0, 0)), (w.heap.size + 1 + 1, Obj.cells (wcs 0) 27 (0, 0)), (w.heap.size + 1, Obj.cells (totA leaf) 29 (0, 0)), (w.heap.size, Obj.cells (totA root) 29 (0, 0))] rfl EX502.out ?_
        refine lexH_phase [0] [1, 2] ?_
        have hw504 : EnvX w _ [(g13, Obj.cells (totA x) 29 (0, 0)), (g12, Obj.cells (wcs a) 27 (0, 0)), (gz, Obj.cells curgz 3 (0, 0)), (gs, Obj.cells curgs 4 (0, 0)), (w.heap.size + 1 + 1, Obj.cells (wcs 0) 27 (0, 0)), (w.heap.size + 1, Obj.cells (totA leaf) 29 (0, 0)), (w.heap.size, Obj.cells (totA root) 29 (0, 0))] := EX502.out
        have hone := @EnvC.one _ _ _ hw504
        (refine wpG_val (v := .agg (wcs 0)) rfl rfl (fun u hu => buildA_op u built_w0) ?_ hw504; intro K hK; go_big_quiet_op; go_big_quiet_on)
        clear hone hw504
        refine wpG_nil ?_
        refine (hOp_store rfl (w.heap.size + 1 + 1) (wcs 0) rfl rfl HLE.out 27 ((wcs 0)) (List.Mem.tail _ (List.Mem.tail _ (List.Mem.tail _ (List.Mem.tail _ (List.Mem.head _))))) (wc_info _) ((wc_size _).trans (wc_size _).symm) (wc_one _) [(w.heap.size + 1 + 1, Obj.cells (wcs 0) 27 (0, 0))] (List.forall_mem_cons.2 ⟨.inl rfl, (fun _ h => by cases h)⟩) ?_)
        intro he505
        refine lexH_phase [2] [] ?_
        have hw506 : EnvX w _ [(w.heap.size + 1 + 1, Obj.cells (wcs 0) 27 (0, 0))] := he505.choose_spec
        have hone := @EnvC.one _ _ _ hw506
        (refine wpG_op rfl rfl rfl ?_; intro K hK; go_big_quiet_op; go_big_quiet_on)
        clear hone hw506
        refine wpG_nil ?_
        intro u508 E2'
        have EX507 := Lib.hid E2'
        clear E2'
        have Q0 := Lib.hid (EnvX.box EX507.out _ _ (List.Mem.head _))
        have HBEL := Lib.hid EX507.out.bel
        clear EX507
        go_wp2_with ((with_reducible refine bodyPost_ret (v := .tuple #[.agg (wcs 0), .bool false]) ?_ ?_ ?_); (exact results_row_slot (p := 8) (q := 9) (ty := 27) Tryd.results16 _ _ (w.heap.size + 1 + 1) 27 (wcs 0) (0, 0) _ rfl _ rfl Q0.out Tryd.underlying27 rfl (wc_info _)); (rfl))
        exact ⟨by rw [HVV.out]; first | done | exact ⟨rfl, rfl⟩, HBEL.out⟩
theorem rmcheck_any (root leaf : Tot) (i : Int) (p : List Tot) (A : Option Addr) (m c : Nat) (w : World) (hr : okT root) (hlf : okT leaf) (hi : -9223372036854775808 ≤ i ∧ i ≤ 9223372036854775807) (hm : p.length = m) (hm6 : m ≤ 1000000) (hmc : m ≤ c) (hcm : c ≤ maxLen) (hI : okTs p) (hA : TotsIn w w.heap.size A p) :
    Calls Tryd.prog 16 #[totV root, .int .i64 i, totV leaf, .slice A m c] w fun e w' => e = .returned (.tuple #[.agg (wcs (mcheckT root i leaf p).1), .bool (mcheckT root i leaf p).2]) ∧ Below w.heap.size w w' := by
  by_cases k1 : root.n < 1
  · exact rmcheck_a root leaf i p A m c w hr hlf hm hm6 hmc hcm hI hA k1
  · by_cases k2 : 64 < root.n
    · exact rmcheck_b root leaf i p A m c w hr hlf hm hm6 hmc hcm hI hA k1 k2
    · by_cases k3 : i < 0
      · exact rmcheck_d root leaf i p A m c w hr hlf hm hm6 hmc hcm hI hA k1 k2 k3
      · by_cases k4 : root.n ≤ i
        · exact rmcheck_e root leaf i p A m c w hr hlf hm hm6 hmc hcm hI hA k1 k2 k3 k4
        · by_cases k5 : leaf.n = 1
          · obtain ⟨j, rfl⟩ := Int.eq_ofNat_of_zero_le (by omega : 0 ≤ i)
            obtain ⟨N, hN⟩ := Int.eq_ofNat_of_zero_le (by omega : 0 ≤ root.n)
            by_cases hmq : m = (sidesT N j).length
            · by_cases hq0 : (sidesT N j).length = 0
              · exact rmcheck_z root leaf j p A m c w hr hlf hm hm6 hmc hcm hI hA N _ _ _ hN (by omega) (by omega) k5 rfl rfl rfl hmq hq0
              · exact rmcheck_p root leaf j p A m c w hr hlf hm hm6 hmc hcm hI hA N _ _ _ hN (by omega) (by omega) k5 rfl rfl rfl hmq (by omega)
            · exact rmcheck_l root leaf j p A m c w hr hlf hm hm6 hmc hcm hI hA N _ _ _ hN (by omega) (by omega) k5 rfl rfl rfl hmq
          · exact rmcheck_f root leaf i p A m c w hr hlf hm hm6 hmc hcm hI hA k1 k2 k3 k4 k5
end Go.Proofs.YtbmiecogjmbciaaDoor

namespace Go.Proofs.YtbmiecogjmbciaaDoor
set_option maxRecDepth 8000
open Go.RowKit

section
variable {st e : TypeId} {z bytes : Nat} {zero : Value}
/-- an append to nothing out of a slice that came in -/
theorem FAt_appC (T : ElemT st e z bytes zero) {u : World} {B m c : Nat} {A : Option Addr} {ys : List Value} {a : Act} {dst : Option Tmp} {x : Operand} {pos : String} {after : Array Edge} {gd : Option (Nat × Bool)}
    (hy : ys.length = m * z) (h1 : ∀ u ∈ ys, u.oneCell' = true) (hc : CellsIn u B A ys) (hs : m ≤ 2000000) (hx : a.eval x = .slice A m c) :
    FAt Tryd.prog ⟨dst, .call { callee := .builtin .append, args := #[.const (.slice none 0 0), x], argTypes := #[st, st] }, st, pos, after, gd⟩ a (FreshR e z m ys) u := by
  cases A with
  | none =>
    have h0 : ys = [] := by
      refine List.eq_nil_of_length_eq_zero (Nat.eq_zero_of_not_pos fun hp => ?_)
      obtain ⟨ad, e, _⟩ := hc hp
      cases e
    subst h0
    have hm : m = 0 := by
      rcases Nat.eq_zero_or_pos m with h | h
      · exact h
      · have := Nat.mul_pos h T.pos
        simp at hy
        omega
    subst hm
    have he : a.eval (.const (.slice none 0 0)) = .slice none 0 0 := rfl
    cases hi : Tryd.prog.info? e with
    | none => have := T.info; rw [hi] at this; cases this
    | some i =>
      have hrun : (Builtin.append_ #[st, st] st #[.slice none 0 0, .slice none 0 c]).run Tryd.prog u = .ok (.slice none 0 0) u := by
        simp [Builtin.append_, run_underlying T.und, sizeOf, typeInfo, hi, Builtin.lenOf, Builtin.firstCells]
      unfold FAt execOp
      simp only [resolve, invoke, builtin, Sem.run_bind, Sem.run_pure, Result.andThen_ok, List.map_toArray, List.map_cons, List.map_nil, he, hx, hrun]
      exact ⟨Below.refl _ _, [], .inr ⟨rfl, rfl, rfl, rfl⟩, fun y hy => by cases hy⟩
  | some ad =>
    refine FAt_appX T (c := c) hy h1 (fun j v hv => ?_) hs hx
    have hp : 0 < ys.length := by
      rcases Nat.eq_zero_or_pos ys.length with h0 | h0
      · rw [List.eq_nil_of_length_eq_zero h0] at hv
        simp at hv
      · exact h0
    obtain ⟨ad', e, _, hcc⟩ := hc hp
    obtain rfl := Option.some.inj e
    exact hcc j v hv
end
set_option maxRecDepth 20000 in
set_option maxHeartbeats 8000000 in
theorem rmapp_any (p : List Tot) (leaf : Tot) (A : Option Addr) (n c : Nat) (w : World) (hl : p.length = n) (hn : n ≤ 1000000) (hnc : n ≤ c) (hcm : c ≤ maxLen) (hI : okTs p) (hlf : okT leaf) (hA : TotsIn w w.heap.size A p) :
    Calls Tryd.prog 12 #[.slice A n c, totV leaf] w fun e w' => (∃ v, e = .returned v ∧ OwnT w' w.heap.size v (appT p leaf)) ∧ Below w.heap.size w w' := by
  have HPL : Hid ((p.map totC).flatten.length = n * 37) := by show _ = _; rw [flatT_len hI, hl]
  have HLF := Lib.hid hlf
  have HNB : Hid (n ≤ 2000000) := by show _ ≤ _; omega
  have HP := Lib.hid (And.intro hI hl)
  have HA : Hid (CellsIn w w.heap.size A (p.map totC).flatten) := hA
  have E1 : Hid (EnvX w (w.alloc (.cells (totA leaf) 29)) [(w.heap.size, Obj.cells (totA leaf) 29 (0, 0))]) := (EnvX.start w).new _
  clear hI hlf hA hl
  unfold totV
  go_enter Tryd.func12, Tryd.ntmps12
  go_upto_region 1 with (fail)
  generalize w.alloc (.cells (totA leaf) 29) = W at *
  refine wp_region_Hx (w0 := w) [0, 1, 2] [(w.heap.size, Obj.cells (totA leaf) 29 (0, 0))] rfl E1.out ?_
  refine lexH_phase [0] [1, 2] ?_
  have hw1 : EnvX w _ [(w.heap.size, Obj.cells (totA leaf) 29 (0, 0))] := E1.out
  have hone := @EnvC.one _ _ _ hw1
  (refine wpG_op rfl rfl rfl ?_; intro K hK; go_big_quiet_op; go_big_quiet_on)
  clear hone hw1
  refine wpG_nil ?_
  refine (hOp_fresh (R := FreshR 29 37 n (p.map totC).flatten) (M0 := [(w.heap.size, Obj.cells (totA leaf) 29 (0, 0))]) rfl rfl (fun _ h => h) (fun u hu => FAt_appC elTot HPL.out flatT_one (HA.out.up (EnvX.bel hu)) HNB.out rfl) ?_)
  rintro x0 N0 hF hf he2; intro K' hK'; go_big_quiet_op; go_big_quiet_on
  have HF := Lib.hid hF
  have HN := Lib.hid hf
  clear hF
  clear hf
  change lexH _ _ _ _ _ _ (N0 ++ ((w.heap.size, Obj.cells (totA leaf) 29 (0, 0)) :: []))
  refine lexH_phase [2] [] ?_
  have hw3 : EnvX w _ (N0 ++ ((w.heap.size, Obj.cells (totA leaf) 29 (0, 0)) :: [])) := he2.choose_spec
  have hone := @EnvC.one _ _ _ hw3
  (refine wpG_op rfl rfl rfl ?_; intro K hK; go_big_quiet_op; go_big_quiet_on)
  clear hone hw3
  refine wpG_nil ?_
  intro u5 E2'
  have EX4 := Lib.hid E2'
  clear E2'
  go_upto_region 2 with (fail)
  refine wp_region_Hx (w0 := w) [0, 1, 2, 3, 4] (N0 ++ ((w.heap.size, Obj.cells (totA leaf) 29 (0, 0)) :: [])) rfl EX4.out ?_
  refine lexH_phase [0, 1] [2, 3, 4] ?_
  have hw6 : EnvX w _ (N0 ++ ((w.heap.size, Obj.cells (totA leaf) 29 (0, 0)) :: [])) := EX4.out
  have hone := @EnvC.one _ _ _ hw6
  (refine wpG_op rfl rfl rfl ?_; intro K hK; go_big_quiet_op; go_big_quiet_on)
  (refine wpG_val (v := .agg (totA leaf)) rfl rfl (fun u hu => load_any_op u (box_tot hu (List.mem_append_right _ (List.Mem.head _)) HLF.out.len) rfl) ?_ hw6; intro K hK; go_big_quiet_op; go_big_quiet_on)
  clear hone hw6
  refine wpG_nil ?_
  refine (hOp_fresh (R := BuiltR 29 (totC leaf)) (M0 := (N0 ++ ((w.heap.size, Obj.cells (totA leaf) 29 (0, 0)) :: []))) rfl rfl (fun _ h => h) (fun u hu => FAt_buildR elTot (totC_len HLF.out.len) (totC_one _) rfl u) ?_)
  rintro _ _ ⟨gb, rfl, rfl⟩ hf he7; intro K' hK'; go_big_quiet_op; go_big_quiet_on
  clear hf
  change lexH _ _ _ _ _ _ ((gb, Obj.cells (totC leaf).toArray 29 (0, 0)) :: (N0 ++ ((w.heap.size, Obj.cells (totA leaf) 29 (0, 0)) :: [])))
  refine (hOp_own (gd := none) (R := GrownR w 29 37 (n + 1) ((p.map totC).flatten ++ totC leaf) []) rfl rfl rfl rfl (fun u hu => appX_op elTot (m := 1) [] hu HPL.out (by rw [Nat.one_mul]; exact totC_len HLF.out.len) (totC_one _) HF.out (fun y hy => ⟨List.mem_cons_of_mem _ (List.mem_append_left _ hy), (HN.out y hy).1⟩) (src_box (k := 0) hu (List.Mem.head _) (by rw [List.drop_zero, List.take_length])) (fun _ h => by cases h) (by have := HNB.out; omega) rfl rfl) ?_)
  rintro x1 M' ⟨N2, rfl, hF2, hn2⟩ he8; intro K' hK'; go_big_quiet_op; go_big_quiet_on
  have HF2 := Lib.hid (And.intro hF2 hn2)
  clear hF2 hn2
  change lexH _ _ _ _ _ _ (N2 ++ [])
  refine lexH_phase [4] [] ?_
  have hw9 : EnvX w _ (N2 ++ []) := he8.choose_spec
  have hone := @EnvC.one _ _ _ hw9
  (refine wpG_op rfl rfl rfl ?_; intro K hK; go_big_quiet_op; go_big_quiet_on)
  clear hone hw9
  refine wpG_nil ?_
  intro u11 E2'
  have EX10 := Lib.hid E2'
  clear E2'
  have HINV : Hid (∃ r x N, okTs (x :: r) ∧ (carryT x r).reverse = appT p leaf ∧ r.length + 1 ≤ n + 1 ∧ FreshR 29 37 (r.length + 1) (((x :: r).reverse).map totC).flatten x1 N ∧ freshN w N [] ∧ EnvX w u11 N) := by
    refine ⟨p.reverse, leaf, N2, ?_, rfl, ?_, ?_, HF2.out.2, ?_⟩
    · intro t ht
      rcases List.mem_cons.1 ht with rfl | h
      · exact HLF.out
      · exact HP.out.1 t (List.mem_reverse.1 h)
    · rw [List.length_reverse, HP.out.2]; exact Nat.le_refl _
    · have h := HF2.out.1
      rw [List.length_reverse, HP.out.2, List.reverse_cons, List.reverse_reverse, List.map_append, List.flatten_append, List.map_singleton, List.flatten_singleton]
      exact h
    · have h := EX10.out
      rwa [List.append_nil] at h
  clear EX10 HF2
  go_upto_region 3 with (fail)
  go_loopw [5, 6, 7] (fun v _ _ u => Hid (∃ r x N, okTs (x :: r) ∧ (carryT x r).reverse = appT p leaf ∧ r.length + 1 ≤ n + 1 ∧ FreshR 29 37 (r.length + 1) (((x :: r).reverse).map totC).flatten v N ∧ freshN w N [] ∧ EnvX w u N)) (fun v _ _ _ => lenV v)
  case atStart => exact HINV
  case round =>
    obtain ⟨r, x, N, hok, hcar, hlen, hF, hfr, hE⟩ := hrel.out
    clear hrel HINV
    obtain ⟨g, cap, cur, rfl, rfl, hcur⟩ | ⟨_, _, h0, _⟩ := hF
    case inr => cases h0
    have HGW := Lib.hid (hfr _ (List.mem_singleton.2 rfl)).1
    have HCUR := Lib.hid hcur
    have hcap := hcur.2.1
    have hcap2 := hcur.1
    have EK := Lib.hid hE
    have HCAR := Lib.hid hcar
    clear hcur hE hfr hcar
    unfold maxLen at hcap
    cases r with
    | nil =>
      have HOUT : Hid (appT p leaf = [x]) := HCAR.out.symm
      have HOK1 := Lib.hid (hok x (List.mem_cons_self ..))
      have hl0 : ([] : List Tot).length + 1 = 1 := rfl
      rw [hl0] at HCUR hcap2 ⊢
      have HG0 : Hid (decide ((2 : Int) ≤ ((1 : Nat) : Int)) = false) := Lib.hid (by decide : decide ((2 : Int) ≤ ((1 : Nat) : Int)) = false)
      have H1B : Hid (1 < 9223372036854775808) := Lib.hid (by decide : 1 < 9223372036854775808)
      clear hok hl0
      go_upto_region 3 with (fail)
      refine wp_region_H (w0 := w) [(g, Obj.cells cur 29 (0, 0))] (by kernel_rfl) EK.out ?_
      refine anyH_phase [0, 1, 2, 3, 4, 5, 6, 7, 8, 9, 10, 11, 12, 13, 14, 15, 16, 17, 18, 19] 0 rfl ⟨_, (EnvX.drew EK.out)⟩ (by kernel_rfl) ?_
      have hw101 : EnvX w _ [(g, Obj.cells cur 29 (0, 0))] := (EnvX.drew EK.out)
      have hone := @EnvC.one _ _ _ hw101
      (refine wpG_op rfl rfl rfl ?_; intro K hK; go_big_quiet_op; go_big_quiet_on)
      (refine wpG_val (v := .int .i64 ((1 : Nat) : Int)) rfl rfl (fun u hu => len_op Tryd.underlying22 H1B.out u rfl) ?_ hw101; intro K hK; go_big_quiet_op; go_big_quiet_on)
      (refine wpG_val (v := .bool false) rfl rfl (fun u hu => geq_op u HG0.out rfl rfl) ?_ hw101; intro K hK; go_big_quiet_op; go_big_quiet_on)
      (refine wpG_op rfl rfl rfl ?_; intro K hK; go_big_quiet_op; go_big_quiet_on)
      (refine wpG_skip rfl rfl ?_ hw101; intro K hK; go_big_quiet_op; go_big_quiet_on)
      (refine wpG_skip rfl rfl ?_ hw101; intro K hK; go_big_quiet_op; go_big_quiet_on)
      (refine wpG_skip rfl rfl ?_ hw101; intro K hK; go_big_quiet_op; go_big_quiet_on)
      (refine wpG_skip rfl rfl ?_ hw101; intro K hK; go_big_quiet_op; go_big_quiet_on)
      (refine wpG_skip rfl rfl ?_ hw101; intro K hK; go_big_quiet_op; go_big_quiet_on)
      (refine wpG_skip rfl rfl ?_ hw101; intro K hK; go_big_quiet_op; go_big_quiet_on)
      (refine wpG_skip rfl rfl ?_ hw101; intro K hK; go_big_quiet_op; go_big_quiet_on)
      (refine wpG_skip rfl rfl ?_ hw101; intro K hK; go_big_quiet_op; go_big_quiet_on)
      (refine wpG_skip rfl rfl ?_ hw101; intro K hK; go_big_quiet_op; go_big_quiet_on)
      (refine wpG_skip rfl rfl ?_ hw101; intro K hK; go_big_quiet_op; go_big_quiet_on)
      (refine wpG_skip rfl rfl ?_ hw101; intro K hK; go_big_quiet_op; go_big_quiet_on)
      (refine wpG_skip rfl rfl ?_ hw101; intro K hK; go_big_quiet_op; go_big_quiet_on)
      (refine wpG_skip rfl rfl ?_ hw101; intro K hK; go_big_quiet_op; go_big_quiet_on)
      (refine wpG_skip rfl rfl ?_ hw101; intro K hK; go_big_quiet_op; go_big_quiet_on)
      (refine wpG_skip rfl rfl ?_ hw101; intro K hK; go_big_quiet_op; go_big_quiet_on)
      (refine wpG_op rfl rfl rfl ?_; intro K hK; go_big_quiet_op; go_big_quiet_on)
      clear hone hw101
      refine wpG_nil ?_
      refine anyH_done (by kernel_rfl) ?_
      intro u103 E2'
      have EX102 := Lib.hid E2'
      clear E2'
      go_wp2
      go_ret
      refine ⟨⟨_, rfl, ?_⟩, EnvX.bel EX102.out⟩
      unfold OwnT
      rw [HOUT.out]
      exact ⟨flatT_len (fun t ht => by cases List.mem_singleton.1 ht; exact HOK1.out), .inr ⟨g, cap, cur, rfl, HGW.out, EnvX.box EX102.out _ _ (List.Mem.head _), HCUR.out⟩⟩
    | cons y r =>
      obtain ⟨k, hk⟩ : ∃ k, r.length = k := ⟨_, rfl⟩
      have hkl : (y :: r).length + 1 = k + 2 := by rw [List.length_cons, hk]
      rw [hkl] at HCUR hlen hcap2 ⊢
      obtain ⟨q, hq⟩ : ∃ q, r.reverse = q := ⟨_, rfl⟩
      have hl2 : (x :: y :: r).reverse = q ++ [y, x] := by rw [List.reverse_cons, List.reverse_cons, hq, List.append_assoc]; rfl
      have hql : q.length = k := by rw [← hq, List.length_reverse, hk]
      have hokl : okTs (q ++ [y, x]) := fun t ht => hok t (by rw [← List.mem_reverse, hl2]; exact ht)
      have hokq : okTs q := fun t ht => hokl t (List.mem_append_left _ ht)
      rw [hl2] at HCUR
      have HX := Lib.hid (hok x (List.mem_cons_self ..))
      have HY := Lib.hid (hok y (List.mem_cons_of_mem _ (List.mem_cons_self ..)))
      have HOKR : Hid (∀ t ∈ r, okT t) := fun t ht => hok t (List.mem_cons_of_mem _ (List.mem_cons_of_mem _ ht))
      have hll : (q ++ [y, x]).length = k + 2 := by rw [List.length_append, hql]; rfl
      have hgx : (q ++ [y, x]).getD (k + 1) noTot = x := by
        rw [List.getD_eq_getElem?_getD, List.getElem?_append_right (by omega), hql, show k + 1 - k = 1 by omega]
        rfl
      have hgy : (q ++ [y, x]).getD k noTot = y := by
        rw [List.getD_eq_getElem?_getD, List.getElem?_append_right (by omega), hql, Nat.sub_self]
        rfl
      have HLD : Hid (∀ u : World, Row u g 29 cur → ((loadVar 29 ((⟨g, 0, none⟩ : Addr).add ((k + 1) * 37))).run Tryd.prog u = .ok (totV x) u ∧ (loadVar 29 ((⟨g, 0, none⟩ : Addr).add ((k + 1) * 37))).run Tryd.prog u = .ok (totV x) u ∧ (loadVar 3 (((⟨g, 0, none⟩ : Addr).add ((k + 1) * 37)).add 36)).run Tryd.prog u = .ok (.int .i64 x.n) u) ∧
          (loadVar 29 ((⟨g, 0, none⟩ : Addr).add (k * 37))).run Tryd.prog u = .ok (totV y) u ∧ (loadVar 29 ((⟨g, 0, none⟩ : Addr).add (k * 37))).run Tryd.prog u = .ok (totV y) u ∧ (loadVar 3 (((⟨g, 0, none⟩ : Addr).add (k * 37)).add 36)).run Tryd.prog u = .ok (.int .i64 y.n) u) := fun u hu => by
        have hT := row_tots (cap := cap) hu hokl hll HCUR.out.2.2.2
        obtain ⟨a1, e1, h1⟩ := hT.loads hokl (k := k + 1) (by omega)
        obtain ⟨a2, e2, h2⟩ := hT.loads hokl (k := k) (by omega)
        cases e1
        cases e2
        have h1 := h1 u (EnvX.start u)
        have h2 := h2 u (EnvX.start u)
        rw [hgx] at h1
        rw [hgy] at h2
        exact ⟨⟨h1.1, h1.1, h1.2.2.2⟩, h2.1, h2.1, h2.2.2.2⟩
      have HK : Hid (k + 2 < 9223372036854775808) := by show _ < _; omega
      have HS1 : Hid (((k + 2 : Nat) : Int) - 1 = ((k + 1 : Nat) : Int) ∧ InI ((k + 1 : Nat) : Int)) := ⟨by omega, by unfold InI; omega⟩
      have HS2 : Hid (((k + 2 : Nat) : Int) - 2 = (k : Int) ∧ InI (k : Int)) := ⟨by omega, by unfold InI; omega⟩
      have HX1 : Hid (k + 1 < k + 2) := by show _ < _; omega
      have HX2 : Hid (k < k + 2) := by show _ < _; omega
      have HG2 : Hid (decide ((2 : Int) ≤ ((k + 2 : Nat) : Int)) = true) := decide_eq_true (by omega)
      have HKB : Hid (k ≤ 1000000) := by show _ ≤ _; omega
      have HKC : Hid (k ≤ cap) := by show _ ≤ _; omega
      have HQQ := Lib.hid hq
      have HLEN := Lib.hid (And.intro hlen hk)
      have HQI := Lib.hid (And.intro hokl (And.intro hql hll))
      clear hok hokl hkl hk hq hl2 hgx hgy hlen hql hll hcap2
      by_cases hxy : x.n = y.n
      · have HEQ : Hid (decide (x.n = y.n) = true) := decide_eq_true hxy
        have HCT : Hid (carryT x (y :: r) = carryT (joinT y x) r) := by show _ = _; rw [carryT, if_pos hxy]
        have HJ : Hid (∀ u, Calls Tryd.prog 21 #[.agg (totA y), .agg (totA x)] u fun e w' => e = .returned (.agg (totA (joinT y x))) ∧ Below u.heap.size u w') := fun u => rmjoin_any y x u HY.out HX.out
        have HQL : Hid ((q.map totC).flatten.length = k * 37) := by show _ = _; rw [flatT_len hokq, HQI.out.2.1]
        clear hxy
        go_upto_region 3 with (fail)
        refine wp_region_H (w0 := w) [(g, Obj.cells cur 29 (0, 0))] (by kernel_rfl) EK.out ?_
        refine anyH_phase [0, 1, 2, 3, 4, 5, 6, 7, 8, 9, 10, 11, 12, 13, 14, 15, 16, 17, 18, 19] 0 rfl ⟨_, (EnvX.drew EK.out)⟩ (by kernel_rfl) ?_
        have hw101 : EnvX w _ [(g, Obj.cells cur 29 (0, 0))] := (EnvX.drew EK.out)
        have hone := @EnvC.one _ _ _ hw101
        (refine wpG_op rfl rfl rfl ?_; intro K hK; go_big_quiet_op; go_big_quiet_on)
        (refine wpG_val (v := .int .i64 ((k + 2 : Nat) : Int)) rfl rfl (fun u hu => len_op Tryd.underlying22 HK.out u rfl) ?_ hw101; intro K hK; go_big_quiet_op; go_big_quiet_on)
        (refine wpG_val (v := .bool true) rfl rfl (fun u hu => geq_op u HG2.out rfl rfl) ?_ hw101; intro K hK; go_big_quiet_op; go_big_quiet_on)
        (refine wpG_op rfl rfl rfl ?_; intro K hK; go_big_quiet_op; go_big_quiet_on)
        (refine wpG_op rfl rfl rfl ?_; intro K hK; go_big_quiet_op; go_big_quiet_on)
        (refine wpG_op rfl rfl rfl ?_; intro K hK; go_big_quiet_op; go_big_quiet_on)
        (refine wpG_val (v := .int .i64 ((k + 2 : Nat) : Int)) rfl rfl (fun u hu => len_op Tryd.underlying22 HK.out u rfl) ?_ hw101; intro K hK; go_big_quiet_op; go_big_quiet_on)
        (refine wpG_val (v := .int .i64 ((k + 1 : Nat) : Int)) rfl rfl (fun u hu => sub_op u HS1.out.1 HS1.out.2 rfl rfl) ?_ hw101; intro K hK; go_big_quiet_op; go_big_quiet_on)
        (refine wpG_val (v := .pointer (some ((⟨g, 0, none⟩ : Addr).add ((k + 1) * 37)))) rfl rfl (fun u hu => idxSl_op Tryd.underlying22 aggTot.size HX1.out u rfl rfl) ?_ hw101; intro K hK; go_big_quiet_op; go_big_quiet_on)
        (refine wpG_val (v := .pointer (some (((⟨g, 0, none⟩ : Addr).add ((k + 1) * 37)).add 36))) rfl rfl (fun u hu => fieldT_op (k := 2) (off := 36) rfl u rfl) ?_ hw101; intro K hK; go_big_quiet_op; go_big_quiet_on)
        (refine wpG_val (v := .int .i64 x.n) rfl rfl (fun u hu => load_any_op u (HLD.out u (EnvX.row hu (List.Mem.head _))).1.2.2 rfl) ?_ hw101; intro K hK; go_big_quiet_op; go_big_quiet_on)
        (refine wpG_op rfl rfl rfl ?_; intro K hK; go_big_quiet_op; go_big_quiet_on)
        (refine wpG_op rfl rfl rfl ?_; intro K hK; go_big_quiet_op; go_big_quiet_on)
        (refine wpG_val (v := .int .i64 ((k + 2 : Nat) : Int)) rfl rfl (fun u hu => len_op Tryd.underlying22 HK.out u rfl) ?_ hw101; intro K hK; go_big_quiet_op; go_big_quiet_on)
        (refine wpG_val (v := .int .i64 (k : Int)) rfl rfl (fun u hu => sub_op u HS2.out.1 HS2.out.2 rfl rfl) ?_ hw101; intro K hK; go_big_quiet_op; go_big_quiet_on)
        (refine wpG_val (v := .pointer (some ((⟨g, 0, none⟩ : Addr).add (k * 37)))) rfl rfl (fun u hu => idxSl_op Tryd.underlying22 aggTot.size HX2.out u rfl rfl) ?_ hw101; intro K hK; go_big_quiet_op; go_big_quiet_on)
        (refine wpG_val (v := .pointer (some (((⟨g, 0, none⟩ : Addr).add (k * 37)).add 36))) rfl rfl (fun u hu => fieldT_op (k := 2) (off := 36) rfl u rfl) ?_ hw101; intro K hK; go_big_quiet_op; go_big_quiet_on)
        (refine wpG_val (v := .int .i64 y.n) rfl rfl (fun u hu => load_any_op u (HLD.out u (EnvX.row hu (List.Mem.head _))).2.2.2 rfl) ?_ hw101; intro K hK; go_big_quiet_op; go_big_quiet_on)
        (refine wpG_val (v := .bool true) rfl rfl (fun u hu => eqlI_op u HEQ.out rfl rfl) ?_ hw101; intro K hK; go_big_quiet_op; go_big_quiet_on)
        (refine wpG_op rfl rfl rfl ?_; intro K hK; go_big_quiet_op; go_big_quiet_on)
        clear hone hw101
        refine wpG_nil ?_
        refine anyH_done (by kernel_rfl) ?_
        intro u103 E2'
        have EX102 := Lib.hid E2'
        clear E2'
        go_upto_region 5 with (fail)
        refine wp_region_H (w0 := w) [(g, Obj.cells cur 29 (0, 0))] (by kernel_rfl) EX102.out ?_
        refine anyH_phase [0, 1, 2, 3, 4, 5, 6, 7, 8, 9, 10] 2 rfl ⟨_, (EnvX.drew EX102.out)⟩ (by kernel_rfl) ?_
        have hw104 : EnvX w _ [(g, Obj.cells cur 29 (0, 0))] := (EnvX.drew EX102.out)
        have hone := @EnvC.one _ _ _ hw104
        (refine wpG_op rfl rfl rfl ?_; intro K hK; go_big_quiet_op; go_big_quiet_on)
        (refine wpG_op rfl rfl rfl ?_; intro K hK; go_big_quiet_op; go_big_quiet_on)
        (refine wpG_val (v := .int .i64 (k : Int)) rfl rfl (fun u hu => sub_op u HS2.out.1 HS2.out.2 rfl rfl) ?_ hw104; intro K hK; go_big_quiet_op; go_big_quiet_on)
        (refine wpG_val (v := .pointer (some ((⟨g, 0, none⟩ : Addr).add (k * 37)))) rfl rfl (fun u hu => idxSl_op Tryd.underlying22 aggTot.size HX2.out u rfl rfl) ?_ hw104; intro K hK; go_big_quiet_op; go_big_quiet_on)
        (refine wpG_val (v := .agg (totA y)) rfl rfl (fun u hu => load_any_op u (HLD.out u (EnvX.row hu (List.Mem.head _))).2.1 rfl) ?_ hw104; intro K hK; go_big_quiet_op; go_big_quiet_on)
        (refine wpG_op rfl rfl rfl ?_; intro K hK; go_big_quiet_op; go_big_quiet_on)
        (refine wpG_op rfl rfl rfl ?_; intro K hK; go_big_quiet_op; go_big_quiet_on)
        (refine wpG_val (v := .int .i64 ((k + 1 : Nat) : Int)) rfl rfl (fun u hu => sub_op u HS1.out.1 HS1.out.2 rfl rfl) ?_ hw104; intro K hK; go_big_quiet_op; go_big_quiet_on)
        (refine wpG_val (v := .pointer (some ((⟨g, 0, none⟩ : Addr).add ((k + 1) * 37)))) rfl rfl (fun u hu => idxSl_op Tryd.underlying22 aggTot.size HX1.out u rfl rfl) ?_ hw104; intro K hK; go_big_quiet_op; go_big_quiet_on)
        (refine wpG_val (v := .agg (totA x)) rfl rfl (fun u hu => load_any_op u (HLD.out u (EnvX.row hu (List.Mem.head _))).1.1 rfl) ?_ hw104; intro K hK; go_big_quiet_op; go_big_quiet_on)
        (refine wpG_call (f := 21) (args := #[.agg (totA y), .agg (totA x)]) (v := .agg (totA (joinT y x))) rfl rfl rfl Tryd.func21 rfl rfl (fun u hu => HJ.out u) ?_ hw104; intro K hK; go_big_quiet_op; go_big_quiet_on)
        clear hone hw104
        refine wpG_nil ?_
        refine anyH_one (i := 11) (by kernel_rfl) (hOp_fresh (R := fun x N => ∃ g, x = .pointer (some ⟨g, 0, none⟩) ∧ N = [(g, Obj.cells (totA zTot) 29 (0, 0))]) (M0 := [(g, Obj.cells cur 29 (0, 0))]) rfl rfl (fun _ h => h) (fun u hu => FAt_new (new_tot _) u) ?_)
        rintro _ _ ⟨g7, rfl, rfl⟩ hf he105; intro K' hK'; go_big_quiet_op; go_big_quiet_on
        have HG7 := Lib.hid (hf _ (List.mem_singleton.2 rfl))
        clear hf
        change anyH _ _ _ _ _ _ _ _ [(g7, Obj.cells (totA zTot) 29 (0, 0)), (g, Obj.cells cur 29 (0, 0))]
        refine anyH_one (i := 12) (by kernel_rfl) (hOp_store rfl (g7) (totA (joinT y x)) rfl rfl HG7.out.1 29 ((totA zTot)) (List.Mem.head _) (infoTot _ (totA_size join_ok.len)) (zTot_size.trans (totA_size join_ok.len).symm) (totA_one _) [(g7, Obj.cells (totA (joinT y x)) 29 (0, 0)), (g, Obj.cells cur 29 (0, 0))] (List.forall_mem_cons.2 ⟨.inl rfl, fun y hy => .inr ⟨List.mem_cons_of_mem _ hy, HG7.out.2 y hy⟩⟩) ?_)
        intro he106
        refine anyH_done (by kernel_rfl) ?_
        intro u108 E2'
        have EX107 := Lib.hid E2'
        clear E2'
        have H25 := Lib.hid (EnvX.bel EX107.out)
        have HTU : Hid (CellsIn u108 u108.heap.size (some ⟨g, 0, none⟩) (q.map totC).flatten) := by
          have hT := row_tots (cap := cap) (EnvX.row EX107.out (List.Mem.tail _ (List.Mem.head _))) HQI.out.1 HQI.out.2.2 HCUR.out.2.2.2
          have h := hT.take HQI.out.1 k
          rw [List.take_left' HQI.out.2.1] at h
          exact h
        have HL7 : Hid (∀ u, EnvX u108 u [] → (loadVar 29 ⟨g7, 0, none⟩).run Tryd.prog u = .ok (.agg (totA (joinT y x))) u) := fun u hu => box_tot (EnvX.comb EX107.out hu) (List.mem_append_right _ (List.Mem.head _)) join_ok.len
        clear EX107
        generalize u108 = U at *
        have EU : Hid (EnvX U U []) := EnvX.start U
        go_upto_region 6 with (fail)
        refine wp_region_H (w0 := U) [] (by kernel_rfl) EU.out ?_
        refine anyH_phaseN [0, 1, 2, 3, 5] 4 rfl (by kernel_rfl) ?_
        have hw109 : EnvX U _ [] := EnvX.sub (EnvX.drew EU.out) (fun _ h => by cases h)
        have hone := @EnvC.one _ _ _ hw109
        (refine wpG_op rfl rfl rfl ?_; intro K hK; go_big_quiet_op; go_big_quiet_on)
        (refine wpG_op rfl rfl rfl ?_; intro K hK; go_big_quiet_op; go_big_quiet_on)
        (refine wpG_val (v := .int .i64 (k : Int)) rfl rfl (fun u hu => sub_op u HS2.out.1 HS2.out.2 rfl rfl) ?_ hw109; intro K hK; go_big_quiet_op; go_big_quiet_on)
        (refine wpG_val (v := .slice (some ⟨g, 0, none⟩) k cap) rfl rfl (fun u hu => cutXh_op elTot u HKC.out rfl rfl) ?_ hw109; intro K hK; go_big_quiet_op; go_big_quiet_on)
        (refine wpG_val (v := .agg (totA (joinT y x))) rfl rfl (fun u hu => load_any_op u (HL7.out u (EnvX.sub hu (fun _ h => by cases h))) rfl) ?_ hw109; intro K hK; go_big_quiet_op; go_big_quiet_on)
        clear hone hw109
        refine wpG_nil ?_
        refine anyH_twoFreshG (i := 4) (j := 6) (fun _ _ _ hM hh => env_perm _ _ _ hM hh) (by kernel_rfl) (by kernel_rfl) (by kernel_rfl) rfl rfl (by decide) (by kernel_rfl) rfl rfl (FreshR 29 37 k (q.map totC).flatten) (BuiltR 29 (totC (joinT y x))) [] [] (fun _ h => h) (fun _ h => h) (fun u hu => FAt_appC elTot HQL.out flatT_one (HTU.out.up (EnvX.bel hu)) (by have := HKB.out; omega) rfl) (fun u hu => FAt_buildR elTot (totC_len join_ok.len) (totC_one _) rfl u) ?_
        rintro x1 N1 x2 N2 hF1 ⟨gj, rfl, rfl⟩ hf1 hf2 he110 K1 hK1; go_big_quiet_op; go_big_quiet_on; intro K' hK'; go_big_quiet_op; go_big_quiet_on
        have HF1 := Lib.hid hF1
        have HN1 := Lib.hid hf1
        clear hF1
        clear hf1 hf2
        change anyH _ _ _ _ _ _ _ _ ((gj, Obj.cells (totC (joinT y x)).toArray 29 (0, 0)) :: (N1 ++ []))
        refine anyH_one (i := 7) (by kernel_rfl) (hOp_own (gd := none) (R := GrownR U 29 37 (k + 1) ((q.map totC).flatten ++ totC (joinT y x)) []) rfl rfl rfl rfl (fun u hu => appX_op elTot (m := 1) [] hu HQL.out (by rw [Nat.one_mul]; exact totC_len join_ok.len) (totC_one _) HF1.out (fun y hy => ⟨List.mem_cons_of_mem _ (List.mem_append_left _ hy), (HN1.out y hy).1⟩) (src_box (k := 0) hu (List.Mem.head _) (by rw [List.drop_zero, List.take_length])) (fun _ h => by cases h) (by have := HKB.out; omega) rfl rfl) ?_)
        rintro x9 M' ⟨N9, rfl, hF9, hn9⟩ he111; intro K' hK'; go_big_quiet_op; go_big_quiet_on
        have HF9 := Lib.hid (And.intro hF9 hn9)
        clear hF9 hn9
        change anyH _ _ _ _ _ _ _ _ (N9 ++ [])
        refine anyH_phaseN [8] 0 rfl (by kernel_rfl) ?_
        have hw112 : EnvX U _ [] := EnvX.sub he111.choose_spec (fun _ h => by cases h)
        have hone := @EnvC.one _ _ _ hw112
        (refine wpG_op rfl rfl rfl ?_; intro K hK; go_big_quiet_op; go_big_quiet_on)
        clear hone hw112
        refine wpG_nil ?_
        refine anyH_done (by kernel_rfl) ?_
        intro u114 E2'
        have EX113 := Lib.hid E2'
        clear E2'
        have HNX : Hid (∃ r x N, okTs (x :: r) ∧ (carryT x r).reverse = appT p leaf ∧ r.length + 1 ≤ n + 1 ∧ FreshR 29 37 (r.length + 1) (((x :: r).reverse).map totC).flatten x9 N ∧ freshN w N [] ∧ EnvX w u114 N) := by
          refine ⟨r, joinT y x, N9, ?_, by rw [← HCT.out]; exact HCAR.out, by have := HLEN.out; omega, ?_, fun z hz => ⟨Nat.le_trans H25.out.size (HF9.out.2 z hz).1, fun _ h => by cases h⟩, ?_⟩
          · intro t ht
            rcases List.mem_cons.1 ht with rfl | h
            · exact join_ok
            · exact HOKR.out t h
          · have h := HF9.out.1
            rw [List.reverse_cons, HQQ.out, List.map_append, List.flatten_append, List.map_singleton, List.flatten_singleton, HLEN.out.2]
            exact h
          · have h := EX113.out
            rw [List.append_nil] at h
            exact ⟨H25.out.trans (h.bel.mono H25.out.size), h.box⟩
        have HLV : Hid (lenV x9 = k + 1) := by
          rcases HF9.out.1 with ⟨_, _, _, e, _⟩ | ⟨_, _, e, _⟩
          · show _ = _; rw [e]; rfl
          · cases e
        go_wp2
        go_roundw
        case rel => exact HNX
        case measure => rw [HLV.out]; show k + 1 < k + 2; omega
      · have HEQ : Hid (decide (x.n = y.n) = false) := decide_eq_false hxy
        have HOUT : Hid (appT p leaf = q ++ [y, x]) := by
          show _ = _
          rw [← HCAR.out, carryT, if_neg hxy, List.reverse_cons, List.reverse_cons, HQQ.out, List.append_assoc]
          rfl
        clear hxy
        go_upto_region 3 with (fail)
        refine wp_region_H (w0 := w) [(g, Obj.cells cur 29 (0, 0))] (by kernel_rfl) EK.out ?_
        refine anyH_phase [0, 1, 2, 3, 4, 5, 6, 7, 8, 9, 10, 11, 12, 13, 14, 15, 16, 17, 18, 19] 0 rfl ⟨_, (EnvX.drew EK.out)⟩ (by kernel_rfl) ?_
        have hw101 : EnvX w _ [(g, Obj.cells cur 29 (0, 0))] := (EnvX.drew EK.out)
        have hone := @EnvC.one _ _ _ hw101
        (refine wpG_op rfl rfl rfl ?_; intro K hK; go_big_quiet_op; go_big_quiet_on)
        (refine wpG_val (v := .int .i64 ((k + 2 : Nat) : Int)) rfl rfl (fun u hu => len_op Tryd.underlying22 HK.out u rfl) ?_ hw101; intro K hK; go_big_quiet_op; go_big_quiet_on)
        (refine wpG_val (v := .bool true) rfl rfl (fun u hu => geq_op u HG2.out rfl rfl) ?_ hw101; intro K hK; go_big_quiet_op; go_big_quiet_on)
        (refine wpG_op rfl rfl rfl ?_; intro K hK; go_big_quiet_op; go_big_quiet_on)
        (refine wpG_op rfl rfl rfl ?_; intro K hK; go_big_quiet_op; go_big_quiet_on)
        (refine wpG_op rfl rfl rfl ?_; intro K hK; go_big_quiet_op; go_big_quiet_on)
        (refine wpG_val (v := .int .i64 ((k + 2 : Nat) : Int)) rfl rfl (fun u hu => len_op Tryd.underlying22 HK.out u rfl) ?_ hw101; intro K hK; go_big_quiet_op; go_big_quiet_on)
        (refine wpG_val (v := .int .i64 ((k + 1 : Nat) : Int)) rfl rfl (fun u hu => sub_op u HS1.out.1 HS1.out.2 rfl rfl) ?_ hw101; intro K hK; go_big_quiet_op; go_big_quiet_on)
        (refine wpG_val (v := .pointer (some ((⟨g, 0, none⟩ : Addr).add ((k + 1) * 37)))) rfl rfl (fun u hu => idxSl_op Tryd.underlying22 aggTot.size HX1.out u rfl rfl) ?_ hw101; intro K hK; go_big_quiet_op; go_big_quiet_on)
        (refine wpG_val (v := .pointer (some (((⟨g, 0, none⟩ : Addr).add ((k + 1) * 37)).add 36))) rfl rfl (fun u hu => fieldT_op (k := 2) (off := 36) rfl u rfl) ?_ hw101; intro K hK; go_big_quiet_op; go_big_quiet_on)
        (refine wpG_val (v := .int .i64 x.n) rfl rfl (fun u hu => load_any_op u (HLD.out u (EnvX.row hu (List.Mem.head _))).1.2.2 rfl) ?_ hw101; intro K hK; go_big_quiet_op; go_big_quiet_on)
        (refine wpG_op rfl rfl rfl ?_; intro K hK; go_big_quiet_op; go_big_quiet_on)
        (refine wpG_op rfl rfl rfl ?_; intro K hK; go_big_quiet_op; go_big_quiet_on)
        (refine wpG_val (v := .int .i64 ((k + 2 : Nat) : Int)) rfl rfl (fun u hu => len_op Tryd.underlying22 HK.out u rfl) ?_ hw101; intro K hK; go_big_quiet_op; go_big_quiet_on)
        (refine wpG_val (v := .int .i64 (k : Int)) rfl rfl (fun u hu => sub_op u HS2.out.1 HS2.out.2 rfl rfl) ?_ hw101; intro K hK; go_big_quiet_op; go_big_quiet_on)
        (refine wpG_val (v := .pointer (some ((⟨g, 0, none⟩ : Addr).add (k * 37)))) rfl rfl (fun u hu => idxSl_op Tryd.underlying22 aggTot.size HX2.out u rfl rfl) ?_ hw101; intro K hK; go_big_quiet_op; go_big_quiet_on)
        (refine wpG_val (v := .pointer (some (((⟨g, 0, none⟩ : Addr).add (k * 37)).add 36))) rfl rfl (fun u hu => fieldT_op (k := 2) (off := 36) rfl u rfl) ?_ hw101; intro K hK; go_big_quiet_op; go_big_quiet_on)
        (refine wpG_val (v := .int .i64 y.n) rfl rfl (fun u hu => load_any_op u (HLD.out u (EnvX.row hu (List.Mem.head _))).2.2.2 rfl) ?_ hw101; intro K hK; go_big_quiet_op; go_big_quiet_on)
        (refine wpG_val (v := .bool false) rfl rfl (fun u hu => eqlI_op u HEQ.out rfl rfl) ?_ hw101; intro K hK; go_big_quiet_op; go_big_quiet_on)
        (refine wpG_op rfl rfl rfl ?_; intro K hK; go_big_quiet_op; go_big_quiet_on)
        clear hone hw101
        refine wpG_nil ?_
        refine anyH_done (by kernel_rfl) ?_
        intro u103 E2'
        have EX102 := Lib.hid E2'
        clear E2'
        go_wp2
        go_ret
        refine ⟨⟨_, rfl, ?_⟩, EnvX.bel EX102.out⟩
        unfold OwnT
        rw [HOUT.out, HQI.out.2.2]
        exact ⟨by rw [flatT_len HQI.out.1, HQI.out.2.2], .inr ⟨g, cap, cur, rfl, HGW.out, EnvX.box EX102.out _ _ (List.Mem.head _), HCUR.out⟩⟩
end Go.Proofs.YtbmiecogjmbciaaDoor

namespace Go.Proofs.YtbmiecogjmbciaaDoor
set_option maxRecDepth 8000
open Go.RowKit

set_option maxRecDepth 20000 in
set_option maxHeartbeats 1000000 in
theorem rmleaf_any (h : List Int) (n : Nat) (w : World) (hh : h.length = 32 ∧ ∀ b ∈ h, 0 ≤ b ∧ b ≤ 255) (hn : n < Big) :
    Calls Tryd.prog 23 #[idv h, .agg (wcs n)] w fun e w' => e = .returned (totV ⟨h, n, 1⟩) ∧ Below w.heap.size w w' := by
  have HH := Lib.hid hh
  have HO : Hid (len32 ⟨h, n, 1⟩) := hh.1
  have HLE : Hid (w.heap.size ≤ w.heap.size + 1 + 1) := by show _ ≤ _; omega
  have E1 : Hid (EnvX w (((w.alloc (.cells (arrB 32 h) 24)).alloc (.cells (wcs n) 27)).alloc (.cells (totA zTot) 29)) [(w.heap.size + 1 + 1, Obj.cells (totA zTot) 29 (0, 0)), (w.heap.size + 1, Obj.cells (wcs n) 27 (0, 0)), (w.heap.size, Obj.cells (arrB 32 h) 24 (0, 0))]) := EnvX.three _ _ _
  clear hh hn
  unfold totV idv
  go_enter Tryd.func23, Tryd.ntmps23
  go_upto_region 1 with (fail)
  rw [zero_totA]
  generalize ((w.alloc (.cells (arrB 32 h) 24)).alloc (.cells (wcs n) 27)).alloc (.cells (totA zTot) 29) = W at *
  refine wp_region_Hx (w0 := w) [0, 1, 2, 3] [(w.heap.size + 1 + 1, Obj.cells (totA zTot) 29 (0, 0)), (w.heap.size + 1, Obj.cells (wcs n) 27 (0, 0)), (w.heap.size, Obj.cells (arrB 32 h) 24 (0, 0))] rfl E1.out ?_
  refine lexH_phase [0, 1, 2] [3] ?_
  have hw1 : EnvX w _ [(w.heap.size + 1 + 1, Obj.cells (totA zTot) 29 (0, 0)), (w.heap.size + 1, Obj.cells (wcs n) 27 (0, 0)), (w.heap.size, Obj.cells (arrB 32 h) 24 (0, 0))] := E1.out
  have hone := @EnvC.one _ _ _ hw1
  (refine wpG_val (v := idv h) rfl rfl (fun u hu => load_run_op u (box_load hu (List.Mem.tail _ (List.Mem.tail _ (List.Mem.head _))) HH.out.1) rfl) ?_ hw1; intro K hK; go_big_quiet_op; go_big_quiet_on)
  (refine wpG_val (v := .agg (wcs n)) rfl rfl (fun u hu => load_any_op u (box_wide hu (List.Mem.tail _ (List.Mem.head _))) rfl) ?_ hw1; intro K hK; go_big_quiet_op; go_big_quiet_on)
  (refine wpG_val (v := .agg (totA ⟨h, n, 1⟩)) rfl rfl (fun u hu => buildA_op u (built_tot HH.out.1)) ?_ hw1; intro K hK; go_big_quiet_op; go_big_quiet_on)
  clear hone hw1
  refine wpG_nil ?_
  refine (hOp_store rfl (w.heap.size + 1 + 1) (totA ⟨h, n, 1⟩) rfl rfl HLE.out 29 ((totA zTot)) (List.Mem.head _) (infoTot _ (totA_size HO.out)) (zTot_size.trans (totA_size HO.out).symm) (totA_one _) [(w.heap.size + 1 + 1, Obj.cells (totA ⟨h, n, 1⟩) 29 (0, 0))] (List.forall_mem_cons.2 ⟨.inl rfl, (fun _ h => by cases h)⟩) ?_)
  intro he2
  intro u4 E2'
  have EX3 := Lib.hid E2'
  clear E2'
  have Q0 := Lib.hid (EnvX.box EX3.out _ _ (List.Mem.head _))
  have HBEL := Lib.hid EX3.out.bel
  clear EX3
  go_wp2_with ((with_reducible refine bodyPost_ret (v := .agg (totA ⟨h, n, 1⟩)) ?_ ?_ ?_); (exact results_cell_row (p := 4) (ty := 29) Tryd.results23 _ _ (w.heap.size + 1 + 1) 29 (totA ⟨h, n, 1⟩) (0, 0) _ rfl Q0.out Tryd.underlying29 rfl (infoTot _ (totA_size HO.out))); (rfl))
  exact HBEL.out
end Go.Proofs.YtbmiecogjmbciaaDoor

namespace Go.Proofs.YtbmiecogjmbciaaDoor
set_option maxRecDepth 8000
open Go.RowKit

theorem root_ok {p : List Tot} (hp : okTs p) : okT (rootP p) := by
  have key : ∀ (r : List Tot) (x : Tot), okT x → okT (upT x r) := fun r => by
    induction r with
    | nil => intro x hx; exact hx
    | cons y r ih => intro x _; exact ih _ join_ok
  unfold rootP
  cases h : p.reverse with
  | nil => exact noTot_ok
  | cons x r => exact key r x (hp x (List.mem_reverse.1 (by rw [h]; exact List.mem_cons_self ..)))
end Go.Proofs.YtbmiecogjmbciaaDoor

namespace Go.Proofs.YtbmiecogjmbciaaDoor
set_option maxRecDepth 8000
open Go.RowKit

section
variable {a : Act} {dst : Option Tmp} {x y : Operand} {ty : TypeId} {pos : String} {after : Array Edge} {gd : Option (Nat × Bool)}
theorem neqBB_op {b : Bool} (u : World) (hx : a.eval x = .bool b) (hy : a.eval y = .bool b) :
    (execOp a.eval ⟨dst, .binOp .neq 4 x y 4, ty, pos, after, gd⟩).run Tryd.prog u = .ok (.value (.bool false)) u := by
  unfold execOp
  simp only [hx, hy]
  cases b <;> go_simp
end
end Go.Proofs.YtbmiecogjmbciaaDoor

namespace Go.Proofs.YtbmiecogjmbciaaDoor
set_option maxRecDepth 8000
open Go.RowKit

theorem mpathR_facts {l : List Tot} (hI : okTs l) (i : Int) : okTs (mpathR l i).1 ∧ (mpathR l i).1.length ≤ 64 := by
  unfold mpathR
  by_cases h : 0 ≤ i ∧ i < l.length ∧ l.length ≤ 64
  · rw [if_pos h]
    refine ⟨mpath_ok _ _ l rfl hI, ?_⟩
    show (mpathT l _).length ≤ 64
    rw [mpath_len _ l _ rfl]
    exact Nat.le_trans (sides_le 6 l.length _ (by omega)) (by omega)
  · rw [if_neg h]
    exact ⟨fun x hx => (by cases hx), Nat.zero_le _⟩
theorem mclimb_lt {s : List Bool} {m : List Nat} {p : List Tot} {x : Tot} : ∀ (k : Nat) (y : Tot) (a : Nat), mclimbK s m p x k = some (y, a) → a < Big
  | 0, y, a, h => by
    cases h
    unfold Big
    decide
  | k + 1, y, a, h => by
    unfold mclimbK at h
    cases hk : mclimbK s m p x k with
    | none => rw [hk] at h; cases h
    | some z =>
      obtain ⟨z1, z2⟩ := z
      rw [hk, Option.bind_some] at h
      have h0 := mclimb_lt k z1 z2 hk
      unfold mstep at h
      simp only at h
      split at h
      · split at h
        · cases h
          exact h0
        · cases h
          exact Nat.mod_lt _ (by unfold Big; decide)
      · cases h
theorem mcheck_lt {root leaf : Tot} {i : Int} {p : List Tot} (_h : leaf.w < Big) (_hp : okTs p) : (mcheckT root i leaf p).1 < Big := by
  have h0 : 0 < Big := by unfold Big; decide
  unfold mcheckT
  split
  · split
    · rename_i x a hc
      split
      · exact mclimb_lt _ _ _ hc
      · exact h0
    · exact h0
  · exact h0
section
variable {a : Act} {dst : Option Tmp} {x y : Operand} {ty : TypeId} {pos : String} {after : Array Edge} {gd : Option (Nat × Bool)}
theorem neqW_op {m n : Nat} (hm : m < Big) (hn : n < Big) {b : Bool} (hb : (!eqN m n) = b) (u : World) (hx : a.eval x = .agg (wcs m)) (hy : a.eval y = .agg (wcs n)) :
    (execOp a.eval ⟨dst, .binOp .neq 27 x y 27, ty, pos, after, gd⟩).run Tryd.prog u = .ok (.value (.bool b)) u := by
  have h : (Op.equalIn 10000 27 (.agg (wcs m)) (.agg (wcs n))).run Tryd.prog u = .ok (eqN m n) u := run_equal_wide m n hm hn u
  subst hb
  unfold execOp
  simp only [hx, hy]
  generalize wcs m = cm at *
  generalize wcs n = cn at *
  go_simp
end
set_option maxHeartbeats 1000000 in
theorem law_mtells_a (T : MmrC) (l q p : List Tot) (leaf root : Tot) (A A2 A3 : Option Addr) (n c m c2 k c3 : Nat) (i : Int) (w : World)
    (hl : l.length = n) (hq : q.length = m) (hp : p.length = k) (hnc : n ≤ c) (hcm : c ≤ maxLen) (hmc : m ≤ c2) (hc2 : c2 ≤ maxLen) (hkc : k ≤ c3) (hc3 : c3 ≤ maxLen) (hlf : okT leaf) (hrt : okT root) (hI : okTs l) (hA : TotsIn w w.heap.size A l) (hJ : okTs q) (hA2 : TotsIn w w.heap.size A2 q) (hK : okTs p) (hA3 : TotsIn w w.heap.size A3 p) (hi : -9223372036854775808 ≤ i ∧ i ≤ 9223372036854775807) (ht : Tables w) (g0 : 70 < n) :
    Calls Tryd.prog 3 #[.slice A n c, .slice A2 m c2, totV leaf, totV root, .int .i64 i, .slice A3 k c3] w fun e w' => e = .returned (.bool true) ∧ Below w.heap.size w w' := by
  have g0' : (70 : Int) < (n : Int) := by omega
  have E0 : Hid (EnvX w ((w.alloc (.cells (totA leaf) 29)).alloc (.cells (totA root) 29)) [(w.heap.size + 1, Obj.cells (totA root) 29 (0, 0)), (w.heap.size, Obj.cells (totA leaf) 29 (0, 0))]) := (EnvX.start w).two _ _
  have HAW := Lib.hid (mawake_any T ((w.alloc (.cells (totA leaf) 29)).alloc (.cells (totA root) 29)) (ht.below (EnvX.bel E0.out)))
  have HT := Lib.hid ht
  have HM := Lib.hid T
  clear ht T
  have HL := Lib.hid (And.intro hl (And.intro hI hA))
  have HQ := Lib.hid (And.intro hq (And.intro hJ hA2))
  have HP := Lib.hid (And.intro hp (And.intro hK hA3))
  have HLF := Lib.hid hlf
  have HR := Lib.hid hrt
  have HCM := Lib.hid (And.intro hcm (And.intro hc2 hc3))
  unfold maxLen at hcm hc2 hc3
  clear hl hI hA hq hJ hA2 hp hK hA3 hlf hrt
  unfold totV
  go_enter Tryd.func3, Tryd.ntmps3
  go_upto_region 1 with (fail)
  generalize ((w.alloc (.cells (totA leaf) 29)).alloc (.cells (totA root) 29)) = W at *
  go_wp2_with fail
  refine HAW.out.mono ?_
  rintro e w1 ⟨rfl, hb1⟩
  have HB1 := Lib.hid (EnvX.below E0.out hb1).bel
  have E1 : Hid (EnvX w1 w1 [(w.heap.size + 1, Obj.cells (totA root) 29 (0, 0)), (w.heap.size, Obj.cells (totA leaf) 29 (0, 0))]) := ⟨Below.refl _ _, (EnvX.below E0.out hb1).box⟩
  have HT1 := Lib.hid (HT.out.below HB1.out)
  clear hb1 E0 HAW
  go_wp2
  go_ret
  exact ⟨rfl, HB1.out⟩
set_option maxHeartbeats 1000000 in
theorem law_mtells_b (T : MmrC) (l q p : List Tot) (leaf root : Tot) (A A2 A3 : Option Addr) (n c m c2 k c3 : Nat) (i : Int) (w : World)
    (hl : l.length = n) (hq : q.length = m) (hp : p.length = k) (hnc : n ≤ c) (hcm : c ≤ maxLen) (hmc : m ≤ c2) (hc2 : c2 ≤ maxLen) (hkc : k ≤ c3) (hc3 : c3 ≤ maxLen) (hlf : okT leaf) (hrt : okT root) (hI : okTs l) (hA : TotsIn w w.heap.size A l) (hJ : okTs q) (hA2 : TotsIn w w.heap.size A2 q) (hK : okTs p) (hA3 : TotsIn w w.heap.size A3 p) (hi : -9223372036854775808 ≤ i ∧ i ≤ 9223372036854775807) (ht : Tables w) (g0 : n ≤ 70) (g1 : 70 < m) :
    Calls Tryd.prog 3 #[.slice A n c, .slice A2 m c2, totV leaf, totV root, .int .i64 i, .slice A3 k c3] w fun e w' => e = .returned (.bool true) ∧ Below w.heap.size w w' := by
  have g0' : ¬ (70 : Int) < (n : Int) := by omega
  have g1' : (70 : Int) < (m : Int) := by omega
  have E0 : Hid (EnvX w ((w.alloc (.cells (totA leaf) 29)).alloc (.cells (totA root) 29)) [(w.heap.size + 1, Obj.cells (totA root) 29 (0, 0)), (w.heap.size, Obj.cells (totA leaf) 29 (0, 0))]) := (EnvX.start w).two _ _
  have HAW := Lib.hid (mawake_any T ((w.alloc (.cells (totA leaf) 29)).alloc (.cells (totA root) 29)) (ht.below (EnvX.bel E0.out)))
  have HT := Lib.hid ht
  have HM := Lib.hid T
  clear ht T
  have HL := Lib.hid (And.intro hl (And.intro hI hA))
  have HQ := Lib.hid (And.intro hq (And.intro hJ hA2))
  have HP := Lib.hid (And.intro hp (And.intro hK hA3))
  have HLF := Lib.hid hlf
  have HR := Lib.hid hrt
  have HCM := Lib.hid (And.intro hcm (And.intro hc2 hc3))
  unfold maxLen at hcm hc2 hc3
  clear hl hI hA hq hJ hA2 hp hK hA3 hlf hrt
  unfold totV
  go_enter Tryd.func3, Tryd.ntmps3
  go_upto_region 1 with (fail)
  generalize ((w.alloc (.cells (totA leaf) 29)).alloc (.cells (totA root) 29)) = W at *
  go_wp2_with fail
  refine HAW.out.mono ?_
  rintro e w1 ⟨rfl, hb1⟩
  have HB1 := Lib.hid (EnvX.below E0.out hb1).bel
  have E1 : Hid (EnvX w1 w1 [(w.heap.size + 1, Obj.cells (totA root) 29 (0, 0)), (w.heap.size, Obj.cells (totA leaf) 29 (0, 0))]) := ⟨Below.refl _ _, (EnvX.below E0.out hb1).box⟩
  have HT1 := Lib.hid (HT.out.below HB1.out)
  clear hb1 E0 HAW
  go_wp2
  go_ret
  exact ⟨rfl, HB1.out⟩
set_option maxHeartbeats 1000000 in
theorem law_mtells_d (T : MmrC) (l q p : List Tot) (leaf root : Tot) (A A2 A3 : Option Addr) (n c m c2 k c3 : Nat) (i : Int) (w : World)
    (hl : l.length = n) (hq : q.length = m) (hp : p.length = k) (hnc : n ≤ c) (hcm : c ≤ maxLen) (hmc : m ≤ c2) (hc2 : c2 ≤ maxLen) (hkc : k ≤ c3) (hc3 : c3 ≤ maxLen) (hlf : okT leaf) (hrt : okT root) (hI : okTs l) (hA : TotsIn w w.heap.size A l) (hJ : okTs q) (hA2 : TotsIn w w.heap.size A2 q) (hK : okTs p) (hA3 : TotsIn w w.heap.size A3 p) (hi : -9223372036854775808 ≤ i ∧ i ≤ 9223372036854775807) (ht : Tables w) (g0 : n ≤ 70) (g1 : m ≤ 70) (g2 : 12 < k) :
    Calls Tryd.prog 3 #[.slice A n c, .slice A2 m c2, totV leaf, totV root, .int .i64 i, .slice A3 k c3] w fun e w' => e = .returned (.bool true) ∧ Below w.heap.size w w' := by
  have g0' : ¬ (70 : Int) < (n : Int) := by omega
  have g1' : ¬ (70 : Int) < (m : Int) := by omega
  have g2' : (12 : Int) < (k : Int) := by omega
  have E0 : Hid (EnvX w ((w.alloc (.cells (totA leaf) 29)).alloc (.cells (totA root) 29)) [(w.heap.size + 1, Obj.cells (totA root) 29 (0, 0)), (w.heap.size, Obj.cells (totA leaf) 29 (0, 0))]) := (EnvX.start w).two _ _
  have HAW := Lib.hid (mawake_any T ((w.alloc (.cells (totA leaf) 29)).alloc (.cells (totA root) 29)) (ht.below (EnvX.bel E0.out)))
  have HT := Lib.hid ht
  have HM := Lib.hid T
  clear ht T
  have HL := Lib.hid (And.intro hl (And.intro hI hA))
  have HQ := Lib.hid (And.intro hq (And.intro hJ hA2))
  have HP := Lib.hid (And.intro hp (And.intro hK hA3))
  have HLF := Lib.hid hlf
  have HR := Lib.hid hrt
  have HCM := Lib.hid (And.intro hcm (And.intro hc2 hc3))
  unfold maxLen at hcm hc2 hc3
  clear hl hI hA hq hJ hA2 hp hK hA3 hlf hrt
  unfold totV
  go_enter Tryd.func3, Tryd.ntmps3
  go_upto_region 1 with (fail)
  generalize ((w.alloc (.cells (totA leaf) 29)).alloc (.cells (totA root) 29)) = W at *
  go_wp2_with fail
  refine HAW.out.mono ?_
  rintro e w1 ⟨rfl, hb1⟩
  have HB1 := Lib.hid (EnvX.below E0.out hb1).bel
  have E1 : Hid (EnvX w1 w1 [(w.heap.size + 1, Obj.cells (totA root) 29 (0, 0)), (w.heap.size, Obj.cells (totA leaf) 29 (0, 0))]) := ⟨Below.refl _ _, (EnvX.below E0.out hb1).box⟩
  have HT1 := Lib.hid (HT.out.below HB1.out)
  clear hb1 E0 HAW
  go_wp2
  go_ret
  exact ⟨rfl, HB1.out⟩
set_option maxRecDepth 20000 in
set_option maxHeartbeats 4000000 in
theorem law_mtells_f (T : MmrC) (l q p : List Tot) (leaf root : Tot) (A A2 A3 : Option Addr) (n c m c2 k c3 : Nat) (i : Int) (w : World)
    (hl : l.length = n) (hq : q.length = m) (hp : p.length = k) (hnc : n ≤ c) (hcm : c ≤ maxLen) (hmc : m ≤ c2) (hc2 : c2 ≤ maxLen) (hkc : k ≤ c3) (hc3 : c3 ≤ maxLen) (hlf : okT leaf) (hrt : okT root) (hI : okTs l) (hA : TotsIn w w.heap.size A l) (hJ : okTs q) (hA2 : TotsIn w w.heap.size A2 q) (hK : okTs p) (hA3 : TotsIn w w.heap.size A3 p) (hi : -9223372036854775808 ≤ i ∧ i ≤ 9223372036854775807) (ht : Tables w) (g0 : n ≤ 70) (g1 : m ≤ 70) (g2 : k ≤ 12) :
    Calls Tryd.prog 3 #[.slice A n c, .slice A2 m c2, totV leaf, totV root, .int .i64 i, .slice A3 k c3] w fun e w' => e = .returned (.bool true) ∧ Below w.heap.size w w' := by
  have g0' : ¬ (70 : Int) < (n : Int) := by omega
  have g1' : ¬ (70 : Int) < (m : Int) := by omega
  have g2' : ¬ (12 : Int) < (k : Int) := by omega
  have E0 : Hid (EnvX w ((w.alloc (.cells (totA leaf) 29)).alloc (.cells (totA root) 29)) [(w.heap.size + 1, Obj.cells (totA root) 29 (0, 0)), (w.heap.size, Obj.cells (totA leaf) 29 (0, 0))]) := (EnvX.start w).two _ _
  have HAW := Lib.hid (mawake_any T ((w.alloc (.cells (totA leaf) 29)).alloc (.cells (totA root) 29)) (ht.below (EnvX.bel E0.out)))
  have HT := Lib.hid ht
  have HM := Lib.hid T
  clear ht T
  have HL := Lib.hid (And.intro hl (And.intro hI hA))
  have HQ := Lib.hid (And.intro hq (And.intro hJ hA2))
  have HP := Lib.hid (And.intro hp (And.intro hK hA3))
  have HLF := Lib.hid hlf
  have HR := Lib.hid hrt
  have HCM := Lib.hid (And.intro hcm (And.intro hc2 hc3))
  unfold maxLen at hcm hc2 hc3
  clear hl hI hA hq hJ hA2 hp hK hA3 hlf hrt
  unfold totV
  go_enter Tryd.func3, Tryd.ntmps3
  go_upto_region 1 with (fail)
  generalize ((w.alloc (.cells (totA leaf) 29)).alloc (.cells (totA root) 29)) = W at *
  go_wp2_with fail
  refine HAW.out.mono ?_
  rintro e w1 ⟨rfl, hb1⟩
  have HB1 := Lib.hid (EnvX.below E0.out hb1).bel
  have E1 : Hid (EnvX w1 w1 [(w.heap.size + 1, Obj.cells (totA root) 29 (0, 0)), (w.heap.size, Obj.cells (totA leaf) 29 (0, 0))]) := ⟨Below.refl _ _, (EnvX.below E0.out hb1).box⟩
  have HT1 := Lib.hid (HT.out.below HB1.out)
  clear hb1 E0 HAW
  obtain ⟨al, hal⟩ : ∃ al, (appT l leaf).length = al := ⟨_, rfl⟩
  have hal7 : al ≤ 71 := by have := app_len l leaf; rw [HL.out.1] at this; omega
  have HAL := Lib.hid (And.intro hal (And.intro hal7 (app_ok HL.out.2.1 HLF.out)))
  have HAP1 : Hid (∀ u, EnvX w1 u [] → Calls Tryd.prog 11 #[.slice A n c, .agg (totA leaf)] u fun e w' => (∃ v, e = .returned v ∧ w'.ownsRow u.heap.size 29 37 v al ((appT l leaf).map totC).flatten) ∧ Below u.heap.size u w') := fun u hu => by
    have h := HM.out.app l leaf A n c u HL.out.1 (by omega) hnc HCM.out.1 HL.out.2.1 HLF.out ((HL.out.2.2.up HB1.out).up (EnvX.bel hu)) (HT1.out.below (EnvX.bel hu))
    unfold OwnT at h
    rwa [hal] at h
  have HAP2 : Hid (∀ u, EnvX w1 u [] → Calls Tryd.prog 12 #[.slice A n c, .agg (totA leaf)] u fun e w' => (∃ v, e = .returned v ∧ w'.ownsRow u.heap.size 29 37 v al ((appT l leaf).map totC).flatten) ∧ Below u.heap.size u w') := fun u hu => by
    have h := rmapp_any l leaf A n c u HL.out.1 (by omega) hnc HCM.out.1 HL.out.2.1 HLF.out ((HL.out.2.2.up HB1.out).up (EnvX.bel hu))
    unfold OwnT at h
    rwa [hal] at h
  clear hal hal7
  go_upto_region 4 with (fail)
  refine wp_region_H (w0 := w1) [(w.heap.size + 1, Obj.cells (totA root) 29 (0, 0)), (w.heap.size, Obj.cells (totA leaf) 29 (0, 0))] (by kernel_rfl) E1.out ?_
  refine anyH_phase [0, 1, 3, 4] 4 rfl ⟨_, (EnvX.drew E1.out)⟩ (by kernel_rfl) ?_
  have hw1 : EnvX w1 _ [(w.heap.size + 1, Obj.cells (totA root) 29 (0, 0)), (w.heap.size, Obj.cells (totA leaf) 29 (0, 0))] := (EnvX.drew E1.out)
  have hone := @EnvC.one _ _ _ hw1
  (refine wpG_op rfl rfl rfl ?_; intro K hK; go_big_quiet_op; go_big_quiet_on)
  (refine wpG_val (v := .agg (totA leaf)) rfl rfl (fun u hu => load_any_op u (box_tot hu (List.Mem.tail _ (List.Mem.head _)) HLF.out.len) rfl) ?_ hw1; intro K hK; go_big_quiet_op; go_big_quiet_on)
  (refine wpG_op rfl rfl rfl ?_; intro K hK; go_big_quiet_op; go_big_quiet_on)
  (refine wpG_val (v := .agg (totA leaf)) rfl rfl (fun u hu => load_any_op u (box_tot hu (List.Mem.tail _ (List.Mem.head _)) HLF.out.len) rfl) ?_ hw1; intro K hK; go_big_quiet_op; go_big_quiet_on)
  clear hone hw1
  refine wpG_nil ?_
  refine anyH_one (i := 2) (by kernel_rfl) (hOp_fresh (R := FreshR 29 37 al ((appT l leaf).map totC).flatten) (M0 := [(w.heap.size + 1, Obj.cells (totA root) 29 (0, 0)), (w.heap.size, Obj.cells (totA leaf) 29 (0, 0))]) rfl rfl (fun _ h => h) (fun u hu => FAt_call (fid := 11) (xs := #[.tmp 44, .tmp 45]) (args := #[.slice A n c, .agg (totA leaf)]) rfl Tryd.func11 rfl rfl u (callsR_fresh (HAP1.out u (EnvX.sub hu (fun _ h => by cases h))))) ?_)
  rintro x N1 hF hf he2; intro K' hK'; go_big_quiet_op; go_big_quiet_on
  obtain ⟨B1, d1, rfl, hd1, he1⟩ := FreshR.full hF
  have HF1 := Lib.hid (And.intro hF (And.intro hd1 he1))
  clear hF hd1 he1
  clear hf
  change anyH _ _ _ _ _ _ _ _ (N1 ++ ((w.heap.size + 1, Obj.cells (totA root) 29 (0, 0)) :: ((w.heap.size, Obj.cells (totA leaf) 29 (0, 0)) :: [])))
  refine anyH_one (i := 5) (by kernel_rfl) (hOp_fresh (R := FreshR 29 37 al ((appT l leaf).map totC).flatten) (M0 := (N1 ++ ((w.heap.size + 1, Obj.cells (totA root) 29 (0, 0)) :: ((w.heap.size, Obj.cells (totA leaf) 29 (0, 0)) :: [])))) rfl rfl (fun _ h => h) (fun u hu => FAt_call (fid := 12) (xs := #[.tmp 47, .tmp 48]) (args := #[.slice A n c, .agg (totA leaf)]) rfl Tryd.func12 rfl rfl u (callsR_fresh (HAP2.out u (EnvX.sub hu (fun _ h => by cases h))))) ?_)
  rintro x N2 hF hf he3; intro K' hK'; go_big_quiet_op; go_big_quiet_on
  obtain ⟨B2, d2, rfl, hd2, he2⟩ := FreshR.full hF
  have HF2 := Lib.hid (And.intro hF (And.intro hd2 he2))
  clear hF hd2 he2
  clear hf
  change anyH _ _ _ _ _ _ _ _ (N2 ++ (N1 ++ ((w.heap.size + 1, Obj.cells (totA root) 29 (0, 0)) :: ((w.heap.size, Obj.cells (totA leaf) 29 (0, 0)) :: []))))
  refine anyH_phase [6, 7] 0 rfl ⟨_, he3.choose_spec⟩ (by kernel_rfl) ?_
  have hw4 : EnvX w1 _ (N2 ++ (N1 ++ ((w.heap.size + 1, Obj.cells (totA root) 29 (0, 0)) :: ((w.heap.size, Obj.cells (totA leaf) 29 (0, 0)) :: [])))) := he3.choose_spec
  have hone := @EnvC.one _ _ _ hw4
  (refine wpG_call (f := 10) (args := #[.slice B1 al d1, .slice B2 al d2]) (v := .bool true) rfl rfl rfl Tryd.func10 rfl rfl (fun u hu => (by have h := rmsame_any (appT l leaf) (appT l leaf) B1 B2 al d1 al d2 u HAL.out.1 HAL.out.1 (by have := HAL.out.2.1; omega) (by have := HAL.out.2.1; omega) HF1.out.2.1 HF1.out.2.2 HF2.out.2.1 HF2.out.2.2 HAL.out.2.2 HAL.out.2.2 (fresh_tots HF1.out.1 HAL.out.1 HAL.out.2.2 (fun y hy => EnvX.box hu _ _ (List.mem_append_right _ (List.mem_append_left _ hy)))) (fresh_tots HF2.out.1 HAL.out.1 HAL.out.2.2 (fun y hy => EnvX.box hu _ _ (List.mem_append_left _ hy))); rwa [decide_eq_true rfl] at h)) ?_ hw4; intro K hK; go_big_quiet_op; go_big_quiet_on)
  (refine wpG_op rfl rfl rfl ?_; intro K hK; go_big_quiet_op; go_big_quiet_on)
  clear hone hw4
  refine wpG_nil ?_
  refine anyH_done (by kernel_rfl) ?_
  intro u6 E2'
  have EX5 := Lib.hid E2'
  clear E2'
  have E4 : Hid (EnvX w1 u6 [(w.heap.size + 1, Obj.cells (totA root) 29 (0, 0)), (w.heap.size, Obj.cells (totA leaf) 29 (0, 0))]) := EnvX.sub EX5.out (List.forall_mem_cons.2 ⟨(List.mem_append_right _ (List.mem_append_right _ (List.Mem.head _))), List.forall_mem_cons.2 ⟨(List.mem_append_right _ (List.mem_append_right _ (List.Mem.tail _ (List.Mem.head _)))), fun _ h => by cases h⟩⟩)
  clear EX5 E1 HAP1 HAP2
  have HPA : Hid (Calls Tryd.prog 13 #[.slice A n c, .int .i64 i] u6 fun e w' => (∃ v, e = .returned (.tuple #[v, .bool (mpathR l i).2]) ∧ OwnT w' (u6).heap.size v (mpathR l i).1) ∧ Below (u6).heap.size u6 w') := HM.out.path l i A n c u6 HL.out.1 (by omega) hnc HCM.out.1 hi HL.out.2.1 ((HL.out.2.2.up HB1.out).up (EnvX.bel E4.out)) (HT1.out.below (EnvX.bel E4.out))
  go_upto_region 5 with (fail)
  go_wp2_with fail
  refine HPA.out.mono ?_
  rintro e w5 ⟨⟨v, rfl, hv⟩, hb⟩
  have E5 : Hid (EnvX w1 w5 [(w.heap.size + 1, Obj.cells (totA root) 29 (0, 0)), (w.heap.size, Obj.cells (totA leaf) 29 (0, 0))]) := EnvX.below E4.out hb
  obtain ⟨P0, e0, rfl, hv0, hm0⟩ := hv.form
  have HV0 := Lib.hid (hv.tots rfl)
  have HM0 := Lib.hid (And.intro hv0 hm0)
  have HW0 := Lib.hid hb
  clear hb hv HPA hv0 hm0 E4
  have HPA : Hid (Calls Tryd.prog 14 #[.slice A n c, .int .i64 i] w5 fun e w' => (∃ v, e = .returned (.tuple #[v, .bool (mpathR l i).2]) ∧ OwnT w' (w5).heap.size v (mpathR l i).1) ∧ Below (w5).heap.size w5 w') := rmPath_all l i A n c w5 HL.out.1 (by omega) hnc HCM.out.1 hi HL.out.2.1 ((HL.out.2.2.up HB1.out).up (EnvX.bel E5.out))
  go_upto_region 6 with (fail)
  go_wp2_with fail
  refine HPA.out.mono ?_
  rintro e w6 ⟨⟨v, rfl, hv⟩, hb⟩
  have E6 : Hid (EnvX w1 w6 [(w.heap.size + 1, Obj.cells (totA root) 29 (0, 0)), (w.heap.size, Obj.cells (totA leaf) 29 (0, 0))]) := EnvX.below E5.out hb
  obtain ⟨P1, e1, rfl, hv1, hm1⟩ := hv.form
  have HV1 := Lib.hid (hv.tots rfl)
  have HM1 := Lib.hid (And.intro hv1 hm1)
  have HW1 := Lib.hid hb
  clear hb hv HPA hv1 hm1 E5
  have HPF := Lib.hid (mpathR_facts HL.out.2.1 i)
  obtain ⟨pp, hpp⟩ : ∃ pp, (mpathR l i).1 = pp := ⟨_, rfl⟩
  obtain ⟨bb, hbb⟩ : ∃ bb, (mpathR l i).2 = bb := ⟨_, rfl⟩
  rw [hpp] at HPF HV0 HV1 HM0 HM1 ⊢
  rw [hbb]
  clear hpp hbb
  obtain ⟨pn, hpn⟩ : ∃ pn, pp.length = pn := ⟨_, rfl⟩
  rw [hpn] at HM0 HM1 HPF ⊢
  have HPN := Lib.hid hpn
  clear hpn
  have hpn64 := HPF.out.2
  have HSP : Hid (Calls Tryd.prog 10 #[.slice P0 pn e0, .slice P1 pn e1] w6 fun e w' => e = .returned (.bool true) ∧ Below w6.heap.size w6 w') := by
    have h := rmsame_any pp pp P0 P1 pn e0 pn e1 w6 HPN.out HPN.out (by omega) (by omega) HM0.out.1 HM0.out.2 HM1.out.1 HM1.out.2 HPF.out.1 HPF.out.1 (HV0.out.up HW1.out) HV1.out
    rwa [decide_eq_true rfl] at h
  go_upto_region 7 with (fail)
  go_wp2_with fail
  refine HSP.out.mono ?_
  rintro e w7 ⟨rfl, hb⟩
  have E7 : Hid (EnvX w1 w7 [(w.heap.size + 1, Obj.cells (totA root) 29 (0, 0)), (w.heap.size, Obj.cells (totA leaf) 29 (0, 0))]) := EnvX.below E6.out hb
  clear hb HSP E6 HV0 HV1
  obtain ⟨cv, hcv⟩ : ∃ cv, (mcheckT root i leaf p).1 = cv := ⟨_, rfl⟩
  obtain ⟨cb, hcb⟩ : ∃ cb, (mcheckT root i leaf p).2 = cb := ⟨_, rfl⟩
  have HCB : Hid (cv < Big) := by show _ < _; rw [← hcv]; exact mcheck_lt HLF.out.2.1 HP.out.2.1
  have HC1 : Hid (∀ u, EnvX w1 u [] → Calls Tryd.prog 15 #[.agg (totA root), .int .i64 i, .agg (totA leaf), .slice A3 k c3] u fun e w' => e = .returned (.tuple #[.agg (wcs cv), .bool cb]) ∧ Below u.heap.size u w') := fun u hu => by have h := HM.out.check root leaf i p A3 k c3 u HR.out HLF.out hi HP.out.1 (by omega) hkc HCM.out.2.2 HP.out.2.1 ((HP.out.2.2.up HB1.out).up (EnvX.bel hu)) (HT1.out.below (EnvX.bel hu)); rwa [hcv, hcb] at h
  have HC2 : Hid (∀ u, EnvX w1 u [] → Calls Tryd.prog 16 #[.agg (totA root), .int .i64 i, .agg (totA leaf), .slice A3 k c3] u fun e w' => e = .returned (.tuple #[.agg (wcs cv), .bool cb]) ∧ Below u.heap.size u w') := fun u hu => by have h := rmcheck_any root leaf i p A3 k c3 u HR.out HLF.out hi HP.out.1 (by omega) hkc HCM.out.2.2 HP.out.2.1 ((HP.out.2.2.up HB1.out).up (EnvX.bel hu)); rwa [hcv, hcb] at h
  obtain ⟨sb, hsb⟩ : ∃ sb, decide (l = q) = sb := ⟨_, rfl⟩
  have HS1 : Hid (∀ u, EnvX w1 u [] → Calls Tryd.prog 17 #[.slice A n c, .slice A2 m c2] u fun e w' => e = .returned (.bool sb) ∧ Below u.heap.size u w') := fun u hu => by have h := HM.out.same l q A A2 n c m c2 u HL.out.1 HQ.out.1 (by omega) (by omega) hnc HCM.out.1 hmc HCM.out.2.1 HL.out.2.1 HQ.out.2.1 ((HL.out.2.2.up HB1.out).up (EnvX.bel hu)) ((HQ.out.2.2.up HB1.out).up (EnvX.bel hu)); rwa [hsb] at h
  have HS2 : Hid (∀ u, EnvX w1 u [] → Calls Tryd.prog 10 #[.slice A n c, .slice A2 m c2] u fun e w' => e = .returned (.bool sb) ∧ Below u.heap.size u w') := fun u hu => by have h := rmsame_any l q A A2 n c m c2 u HL.out.1 HQ.out.1 (by omega) (by omega) hnc HCM.out.1 hmc HCM.out.2.1 HL.out.2.1 HQ.out.2.1 ((HL.out.2.2.up HB1.out).up (EnvX.bel hu)) ((HQ.out.2.2.up HB1.out).up (EnvX.bel hu)); rwa [hsb] at h
  clear hcv hcb hsb
  have HR1 : Hid (∀ u, EnvX w1 u [] → Calls Tryd.prog 18 #[.slice A n c] u fun e w' => e = .returned (.agg (totA (rootP l))) ∧ Below u.heap.size u w') := fun u hu => HM.out.root l A n c u HL.out.1 (by omega) hnc HCM.out.1 HL.out.2.1 ((HL.out.2.2.up HB1.out).up (EnvX.bel hu)) (HT1.out.below (EnvX.bel hu))
  have HR2 : Hid (∀ u, EnvX w1 u [] → Calls Tryd.prog 19 #[.slice A n c] u fun e w' => e = .returned (.agg (totA (rootP l))) ∧ Below u.heap.size u w') := fun u hu => rmroot_any l A n c u HL.out.1 (by omega) hnc HCM.out.1 HL.out.2.1 ((HL.out.2.2.up HB1.out).up (EnvX.bel hu))
  have HJ1 : Hid (∀ u, EnvX w1 u [] → Calls Tryd.prog 20 #[.agg (totA leaf), .agg (totA root)] u fun e w' => e = .returned (.agg (totA (joinT leaf root))) ∧ Below u.heap.size u w') := fun u hu => HM.out.join leaf root u HLF.out HR.out (HT1.out.below (EnvX.bel hu))
  have HJ2 : Hid (∀ u, EnvX w1 u [] → Calls Tryd.prog 21 #[.agg (totA leaf), .agg (totA root)] u fun e w' => e = .returned (.agg (totA (joinT leaf root))) ∧ Below u.heap.size u w') := fun u hu => rmjoin_any leaf root u HLF.out HR.out
  have HF1 : Hid (∀ u, EnvX w1 u [] → Calls Tryd.prog 22 #[idv leaf.h, .agg (wcs leaf.w)] u fun e w' => e = .returned (.agg (totA ⟨leaf.h, leaf.w, 1⟩)) ∧ Below u.heap.size u w') := fun u hu => HM.out.leaf leaf.h leaf.w u HLF.out.1 HLF.out.2.1 (HT1.out.below (EnvX.bel hu))
  have HF2 : Hid (∀ u, EnvX w1 u [] → Calls Tryd.prog 23 #[idv leaf.h, .agg (wcs leaf.w)] u fun e w' => e = .returned (.agg (totA ⟨leaf.h, leaf.w, 1⟩)) ∧ Below u.heap.size u w') := fun u hu => rmleaf_any leaf.h leaf.w u HLF.out.1 HLF.out.2.1
  have HRO := Lib.hid (root_ok HL.out.2.1)
  have HLO : Hid (okT ⟨leaf.h, leaf.w, 1⟩) := ⟨HLF.out.1, HLF.out.2.1, by show (-9223372036854775808 : Int) ≤ 1; decide, by show (1 : Int) ≤ 9223372036854775807; decide⟩
  have HEW : Hid ((!eqN cv cv) = false) := by show _ = _; simp [eqN]
  have HET : Hid (∀ t : Tot, eqT t t = true) := fun t => decide_eq_true rfl
  go_upto_region 8 with (fail)
  refine wp_region_Hx (w0 := w1) [0, 1, 2, 3, 4, 5, 6, 7, 8, 9, 10] [(w.heap.size + 1, Obj.cells (totA root) 29 (0, 0)), (w.heap.size, Obj.cells (totA leaf) 29 (0, 0))] rfl E7.out ?_
  refine lexH_phase [0, 1, 2, 3, 4, 5, 6, 7] [8, 9, 10] ?_
  have hw201 : EnvX w1 _ [(w.heap.size + 1, Obj.cells (totA root) 29 (0, 0)), (w.heap.size, Obj.cells (totA leaf) 29 (0, 0))] := E7.out
  have hone := @EnvC.one _ _ _ hw201
  (refine wpG_val (v := .agg (totA root)) rfl rfl (fun u hu => load_any_op u (box_tot hu (List.Mem.head _) HR.out.len) rfl) ?_ hw201; intro K hK; go_big_quiet_op; go_big_quiet_on)
  (refine wpG_op rfl rfl rfl ?_; intro K hK; go_big_quiet_op; go_big_quiet_on)
  (refine wpG_val (v := .agg (totA leaf)) rfl rfl (fun u hu => load_any_op u (box_tot hu (List.Mem.tail _ (List.Mem.head _)) HLF.out.len) rfl) ?_ hw201; intro K hK; go_big_quiet_op; go_big_quiet_on)
  (refine wpG_op rfl rfl rfl ?_; intro K hK; go_big_quiet_op; go_big_quiet_on)
  (refine wpG_call (f := 15) (args := #[.agg (totA root), .int .i64 i, .agg (totA leaf), .slice A3 k c3]) (v := .tuple #[.agg (wcs cv), .bool cb]) rfl rfl rfl Tryd.func15 rfl rfl (fun u hu => HC1.out u (EnvX.sub hu (fun _ h => by cases h))) ?_ hw201; intro K hK; go_big_quiet_op; go_big_quiet_on)
  (refine wpG_op rfl rfl rfl ?_; intro K hK; go_big_quiet_op; go_big_quiet_on)
  (refine wpG_op rfl rfl rfl ?_; intro K hK; go_big_quiet_op; go_big_quiet_on)
  (refine wpG_op rfl rfl rfl ?_; intro K hK; go_big_quiet_op; go_big_quiet_on)
  clear hone hw201
  refine wpG_nil ?_
  refine (hOp_fresh (R := fun x N => ∃ g, x = .pointer (some ⟨g, 0, none⟩) ∧ N = [(g, Obj.cells (wcs 0) 27 (0, 0))]) (M0 := [(w.heap.size + 1, Obj.cells (totA root) 29 (0, 0)), (w.heap.size, Obj.cells (totA leaf) 29 (0, 0))]) rfl rfl (fun _ h => h) (fun u hu => FAt_new (new_wd _) u) ?_)
  rintro _ _ ⟨g20, rfl, rfl⟩ hf he202; intro K' hK'; go_big_quiet_op; go_big_quiet_on
  have HGg20 := Lib.hid (hf _ (List.mem_singleton.2 rfl))
  clear hf
  change lexH _ _ _ _ _ _ [(g20, Obj.cells (wcs 0) 27 (0, 0)), (w.heap.size + 1, Obj.cells (totA root) 29 (0, 0)), (w.heap.size, Obj.cells (totA leaf) 29 (0, 0))]
  refine (hOp_store rfl (g20) (wcs (cv)) rfl rfl HGg20.out.1 27 ((wcs 0)) (List.Mem.head _) (wc_info _) ((wc_size _).trans (wc_size _).symm) (wc_one _) [(g20, Obj.cells (wcs (cv)) 27 (0, 0)), (w.heap.size + 1, Obj.cells (totA root) 29 (0, 0)), (w.heap.size, Obj.cells (totA leaf) 29 (0, 0))] (List.forall_mem_cons.2 ⟨.inl rfl, fun y hy => .inr ⟨List.mem_cons_of_mem _ hy, HGg20.out.2 y hy⟩⟩) ?_)
  intro he203
  refine lexH_phase [10] [] ?_
  have hw204 : EnvX w1 _ [(g20, Obj.cells (wcs (cv)) 27 (0, 0)), (w.heap.size + 1, Obj.cells (totA root) 29 (0, 0)), (w.heap.size, Obj.cells (totA leaf) 29 (0, 0))] := he203.choose_spec
  have hone := @EnvC.one _ _ _ hw204
  (refine wpG_op rfl rfl rfl ?_; intro K hK; go_big_quiet_op; go_big_quiet_on)
  clear hone hw204
  refine wpG_nil ?_
  intro u206 E2'
  have EX205 := Lib.hid E2'
  clear E2'
  go_upto_region 9 with (fail)
  refine wp_region_Hx (w0 := w1) [0, 1, 2, 3, 4, 5, 6, 7, 8, 9, 10] [(g20, Obj.cells (wcs (cv)) 27 (0, 0)), (w.heap.size + 1, Obj.cells (totA root) 29 (0, 0)), (w.heap.size, Obj.cells (totA leaf) 29 (0, 0))] rfl EX205.out ?_
  refine lexH_phase [0, 1, 2, 3, 4, 5, 6, 7] [8, 9, 10] ?_
  have hw207 : EnvX w1 _ [(g20, Obj.cells (wcs (cv)) 27 (0, 0)), (w.heap.size + 1, Obj.cells (totA root) 29 (0, 0)), (w.heap.size, Obj.cells (totA leaf) 29 (0, 0))] := EX205.out
  have hone := @EnvC.one _ _ _ hw207
  (refine wpG_val (v := .agg (totA root)) rfl rfl (fun u hu => load_any_op u (box_tot hu (List.Mem.tail _ (List.Mem.head _)) HR.out.len) rfl) ?_ hw207; intro K hK; go_big_quiet_op; go_big_quiet_on)
  (refine wpG_op rfl rfl rfl ?_; intro K hK; go_big_quiet_op; go_big_quiet_on)
  (refine wpG_val (v := .agg (totA leaf)) rfl rfl (fun u hu => load_any_op u (box_tot hu (List.Mem.tail _ (List.Mem.tail _ (List.Mem.head _))) HLF.out.len) rfl) ?_ hw207; intro K hK; go_big_quiet_op; go_big_quiet_on)
  (refine wpG_op rfl rfl rfl ?_; intro K hK; go_big_quiet_op; go_big_quiet_on)
  (refine wpG_call (f := 16) (args := #[.agg (totA root), .int .i64 i, .agg (totA leaf), .slice A3 k c3]) (v := .tuple #[.agg (wcs cv), .bool cb]) rfl rfl rfl Tryd.func16 rfl rfl (fun u hu => HC2.out u (EnvX.sub hu (fun _ h => by cases h))) ?_ hw207; intro K hK; go_big_quiet_op; go_big_quiet_on)
  (refine wpG_op rfl rfl rfl ?_; intro K hK; go_big_quiet_op; go_big_quiet_on)
  (refine wpG_op rfl rfl rfl ?_; intro K hK; go_big_quiet_op; go_big_quiet_on)
  (refine wpG_op rfl rfl rfl ?_; intro K hK; go_big_quiet_op; go_big_quiet_on)
  clear hone hw207
  refine wpG_nil ?_
  refine (hOp_fresh (R := fun x N => ∃ g, x = .pointer (some ⟨g, 0, none⟩) ∧ N = [(g, Obj.cells (wcs 0) 27 (0, 0))]) (M0 := [(g20, Obj.cells (wcs (cv)) 27 (0, 0)), (w.heap.size + 1, Obj.cells (totA root) 29 (0, 0)), (w.heap.size, Obj.cells (totA leaf) 29 (0, 0))]) rfl rfl (fun _ h => h) (fun u hu => FAt_new (new_wd _) u) ?_)
  rintro _ _ ⟨g22, rfl, rfl⟩ hf he208; intro K' hK'; go_big_quiet_op; go_big_quiet_on
  have HGg22 := Lib.hid (hf _ (List.mem_singleton.2 rfl))
  clear hf
  change lexH _ _ _ _ _ _ [(g22, Obj.cells (wcs 0) 27 (0, 0)), (g20, Obj.cells (wcs (cv)) 27 (0, 0)), (w.heap.size + 1, Obj.cells (totA root) 29 (0, 0)), (w.heap.size, Obj.cells (totA leaf) 29 (0, 0))]
  refine (hOp_store rfl (g22) (wcs (cv)) rfl rfl HGg22.out.1 27 ((wcs 0)) (List.Mem.head _) (wc_info _) ((wc_size _).trans (wc_size _).symm) (wc_one _) [(g22, Obj.cells (wcs (cv)) 27 (0, 0)), (g20, Obj.cells (wcs (cv)) 27 (0, 0)), (w.heap.size + 1, Obj.cells (totA root) 29 (0, 0)), (w.heap.size, Obj.cells (totA leaf) 29 (0, 0))] (List.forall_mem_cons.2 ⟨.inl rfl, fun y hy => .inr ⟨List.mem_cons_of_mem _ hy, HGg22.out.2 y hy⟩⟩) ?_)
  intro he209
  refine lexH_phase [10] [] ?_
  have hw210 : EnvX w1 _ [(g22, Obj.cells (wcs (cv)) 27 (0, 0)), (g20, Obj.cells (wcs (cv)) 27 (0, 0)), (w.heap.size + 1, Obj.cells (totA root) 29 (0, 0)), (w.heap.size, Obj.cells (totA leaf) 29 (0, 0))] := he209.choose_spec
  have hone := @EnvC.one _ _ _ hw210
  (refine wpG_op rfl rfl rfl ?_; intro K hK; go_big_quiet_op; go_big_quiet_on)
  clear hone hw210
  refine wpG_nil ?_
  intro u212 E2'
  have EX211 := Lib.hid E2'
  clear E2'
  go_upto_region 10 with (fail)
  refine wp_region_Hx (w0 := w1) [0, 1, 2, 3] [(g22, Obj.cells (wcs (cv)) 27 (0, 0)), (g20, Obj.cells (wcs (cv)) 27 (0, 0)), (w.heap.size + 1, Obj.cells (totA root) 29 (0, 0)), (w.heap.size, Obj.cells (totA leaf) 29 (0, 0))] rfl EX211.out ?_
  refine lexH_phase [0, 1, 2, 3] [] ?_
  have hw213 : EnvX w1 _ [(g22, Obj.cells (wcs (cv)) 27 (0, 0)), (g20, Obj.cells (wcs (cv)) 27 (0, 0)), (w.heap.size + 1, Obj.cells (totA root) 29 (0, 0)), (w.heap.size, Obj.cells (totA leaf) 29 (0, 0))] := EX211.out
  have hone := @EnvC.one _ _ _ hw213
  (refine wpG_op rfl rfl rfl ?_; intro K hK; go_big_quiet_op; go_big_quiet_on)
  (refine wpG_op rfl rfl rfl ?_; intro K hK; go_big_quiet_op; go_big_quiet_on)
  (refine wpG_call (f := 10) (args := #[.slice A n c, .slice A2 m c2]) (v := .bool sb) rfl rfl rfl Tryd.func10 rfl rfl (fun u hu => HS2.out u (EnvX.sub hu (fun _ h => by cases h))) ?_ hw213; intro K hK; go_big_quiet_op; go_big_quiet_on)
  (refine wpG_op rfl rfl rfl ?_; intro K hK; go_big_quiet_op; go_big_quiet_on)
  clear hone hw213
  refine wpG_nil ?_
  intro u215 E2'
  have EX214 := Lib.hid E2'
  clear E2'
  go_upto_region 11 with (fail)
  refine wp_region_Hx (w0 := w1) [0, 1, 2, 3, 4, 5, 6, 7, 8, 9, 10, 11, 12, 13, 14, 15, 16, 17, 18, 19, 20, 21, 22, 23, 24, 25, 26, 27] [(g22, Obj.cells (wcs (cv)) 27 (0, 0)), (g20, Obj.cells (wcs (cv)) 27 (0, 0)), (w.heap.size + 1, Obj.cells (totA root) 29 (0, 0)), (w.heap.size, Obj.cells (totA leaf) 29 (0, 0))] rfl EX214.out ?_
  refine lexH_phase [0, 1, 2, 3, 4, 5, 6, 7, 8, 9, 10, 11, 12, 13, 14, 15, 16, 17, 18, 19, 20, 21, 22, 23, 24, 25, 26, 27] [] ?_
  have hw216 : EnvX w1 _ [(g22, Obj.cells (wcs (cv)) 27 (0, 0)), (g20, Obj.cells (wcs (cv)) 27 (0, 0)), (w.heap.size + 1, Obj.cells (totA root) 29 (0, 0)), (w.heap.size, Obj.cells (totA leaf) 29 (0, 0))] := EX214.out
  have hone := @EnvC.one _ _ _ hw216
  (refine wpG_op rfl rfl rfl ?_; intro K hK; go_big_quiet_op; go_big_quiet_on)
  (refine wpG_op rfl rfl rfl ?_; intro K hK; go_big_quiet_op; go_big_quiet_on)
  (refine wpG_op rfl rfl rfl ?_; intro K hK; go_big_quiet_op; go_big_quiet_on)
  (refine wpG_op rfl rfl rfl ?_; intro K hK; go_big_quiet_op; go_big_quiet_on)
  (refine wpG_op rfl rfl rfl ?_; intro K hK; go_big_quiet_op; go_big_quiet_on)
  (refine wpG_op rfl rfl rfl ?_; intro K hK; go_big_quiet_op; go_big_quiet_on)
  (refine wpG_op rfl rfl rfl ?_; intro K hK; go_big_quiet_op; go_big_quiet_on)
  (refine wpG_op rfl rfl rfl ?_; intro K hK; go_big_quiet_op; go_big_quiet_on)
  (refine wpG_op rfl rfl rfl ?_; intro K hK; go_big_quiet_op; go_big_quiet_on)
  (refine wpG_val (v := .bool false) rfl rfl (fun u hu => neqBB_op u rfl rfl) ?_ hw216; intro K hK; go_big_quiet_op; go_big_quiet_on)
  (refine wpG_op rfl rfl rfl ?_; intro K hK; go_big_quiet_op; go_big_quiet_on)
  (refine wpG_op rfl rfl rfl ?_; intro K hK; go_big_quiet_op; go_big_quiet_on)
  (refine wpG_val (v := .agg (wcs cv)) rfl rfl (fun u hu => load_any_op u (box_wide hu (List.Mem.tail _ (List.Mem.head _))) rfl) ?_ hw216; intro K hK; go_big_quiet_op; go_big_quiet_on)
  (refine wpG_val (v := .agg (wcs cv)) rfl rfl (fun u hu => load_any_op u (box_wide hu (List.Mem.head _)) rfl) ?_ hw216; intro K hK; go_big_quiet_op; go_big_quiet_on)
  (refine wpG_val (v := .bool false) rfl rfl (fun u hu => neqW_op HCB.out HCB.out HEW.out u rfl rfl) ?_ hw216; intro K hK; go_big_quiet_op; go_big_quiet_on)
  (refine wpG_op rfl rfl rfl ?_; intro K hK; go_big_quiet_op; go_big_quiet_on)
  (refine wpG_op rfl rfl rfl ?_; intro K hK; go_big_quiet_op; go_big_quiet_on)
  (refine wpG_op rfl rfl rfl ?_; intro K hK; go_big_quiet_op; go_big_quiet_on)
  (refine wpG_op rfl rfl rfl ?_; intro K hK; go_big_quiet_op; go_big_quiet_on)
  (refine wpG_val (v := .bool false) rfl rfl (fun u hu => neqBB_op u rfl rfl) ?_ hw216; intro K hK; go_big_quiet_op; go_big_quiet_on)
  (refine wpG_op rfl rfl rfl ?_; intro K hK; go_big_quiet_op; go_big_quiet_on)
  (refine wpG_op rfl rfl rfl ?_; intro K hK; go_big_quiet_op; go_big_quiet_on)
  (refine wpG_op rfl rfl rfl ?_; intro K hK; go_big_quiet_op; go_big_quiet_on)
  (refine wpG_op rfl rfl rfl ?_; intro K hK; go_big_quiet_op; go_big_quiet_on)
  (refine wpG_call (f := 17) (args := #[.slice A n c, .slice A2 m c2]) (v := .bool sb) rfl rfl rfl Tryd.func17 rfl rfl (fun u hu => HS1.out u (EnvX.sub hu (fun _ h => by cases h))) ?_ hw216; intro K hK; go_big_quiet_op; go_big_quiet_on)
  (refine wpG_op rfl rfl rfl ?_; intro K hK; go_big_quiet_op; go_big_quiet_on)
  (refine wpG_val (v := .bool false) rfl rfl (fun u hu => neqBB_op u rfl rfl) ?_ hw216; intro K hK; go_big_quiet_op; go_big_quiet_on)
  (refine wpG_op rfl rfl rfl ?_; intro K hK; go_big_quiet_op; go_big_quiet_on)
  clear hone hw216
  refine wpG_nil ?_
  intro u218 E2'
  have EX217 := Lib.hid E2'
  clear E2'
  go_upto_region 13 with (fail)
  refine wp_region_H (w0 := w1) [(g22, Obj.cells (wcs (cv)) 27 (0, 0)), (g20, Obj.cells (wcs (cv)) 27 (0, 0)), (w.heap.size + 1, Obj.cells (totA root) 29 (0, 0)), (w.heap.size, Obj.cells (totA leaf) 29 (0, 0))] (by kernel_rfl) EX217.out ?_
  refine anyH_phase [0, 1, 2, 3, 4, 5, 6, 7, 8, 9, 10, 11, 12, 13, 14, 15, 16, 17, 18, 19, 20, 21, 22, 23, 24, 25, 26, 27] 0 rfl ⟨_, (EnvX.drew EX217.out)⟩ (by kernel_rfl) ?_
  have hw219 : EnvX w1 _ [(g22, Obj.cells (wcs (cv)) 27 (0, 0)), (g20, Obj.cells (wcs (cv)) 27 (0, 0)), (w.heap.size + 1, Obj.cells (totA root) 29 (0, 0)), (w.heap.size, Obj.cells (totA leaf) 29 (0, 0))] := (EnvX.drew EX217.out)
  have hone := @EnvC.one _ _ _ hw219
  (refine wpG_op rfl rfl rfl ?_; intro K hK; go_big_quiet_op; go_big_quiet_on)
  (refine wpG_call (f := 18) (args := #[.slice A n c]) (v := .agg (totA (rootP l))) rfl rfl rfl Tryd.func18 rfl rfl (fun u hu => HR1.out u (EnvX.sub hu (fun _ h => by cases h))) ?_ hw219; intro K hK; go_big_quiet_op; go_big_quiet_on)
  (refine wpG_op rfl rfl rfl ?_; intro K hK; go_big_quiet_op; go_big_quiet_on)
  (refine wpG_call (f := 19) (args := #[.slice A n c]) (v := .agg (totA (rootP l))) rfl rfl rfl Tryd.func19 rfl rfl (fun u hu => HR2.out u (EnvX.sub hu (fun _ h => by cases h))) ?_ hw219; intro K hK; go_big_quiet_op; go_big_quiet_on)
  (refine wpG_val (v := .bool true) rfl rfl (fun u hu => eqlTb_op HRO.out HRO.out (HET.out _) u rfl rfl) ?_ hw219; intro K hK; go_big_quiet_op; go_big_quiet_on)
  (refine wpG_op rfl rfl rfl ?_; intro K hK; go_big_quiet_op; go_big_quiet_on)
  (refine wpG_val (v := .agg (totA leaf)) rfl rfl (fun u hu => load_any_op u (box_tot hu (List.Mem.tail _ (List.Mem.tail _ (List.Mem.tail _ (List.Mem.head _)))) HLF.out.len) rfl) ?_ hw219; intro K hK; go_big_quiet_op; go_big_quiet_on)
  (refine wpG_val (v := .agg (totA root)) rfl rfl (fun u hu => load_any_op u (box_tot hu (List.Mem.tail _ (List.Mem.tail _ (List.Mem.head _))) HR.out.len) rfl) ?_ hw219; intro K hK; go_big_quiet_op; go_big_quiet_on)
  (refine wpG_call (f := 20) (args := #[.agg (totA leaf), .agg (totA root)]) (v := .agg (totA (joinT leaf root))) rfl rfl rfl Tryd.func20 rfl rfl (fun u hu => HJ1.out u (EnvX.sub hu (fun _ h => by cases h))) ?_ hw219; intro K hK; go_big_quiet_op; go_big_quiet_on)
  (refine wpG_val (v := .agg (totA leaf)) rfl rfl (fun u hu => load_any_op u (box_tot hu (List.Mem.tail _ (List.Mem.tail _ (List.Mem.tail _ (List.Mem.head _)))) HLF.out.len) rfl) ?_ hw219; intro K hK; go_big_quiet_op; go_big_quiet_on)
  (refine wpG_val (v := .agg (totA root)) rfl rfl (fun u hu => load_any_op u (box_tot hu (List.Mem.tail _ (List.Mem.tail _ (List.Mem.head _))) HR.out.len) rfl) ?_ hw219; intro K hK; go_big_quiet_op; go_big_quiet_on)
  (refine wpG_call (f := 21) (args := #[.agg (totA leaf), .agg (totA root)]) (v := .agg (totA (joinT leaf root))) rfl rfl rfl Tryd.func21 rfl rfl (fun u hu => HJ2.out u (EnvX.sub hu (fun _ h => by cases h))) ?_ hw219; intro K hK; go_big_quiet_op; go_big_quiet_on)
  (refine wpG_val (v := .bool true) rfl rfl (fun u hu => eqlTb_op join_ok join_ok (HET.out _) u rfl rfl) ?_ hw219; intro K hK; go_big_quiet_op; go_big_quiet_on)
  (refine wpG_op rfl rfl rfl ?_; intro K hK; go_big_quiet_op; go_big_quiet_on)
  (refine wpG_op rfl rfl rfl ?_; intro K hK; go_big_quiet_op; go_big_quiet_on)
  (refine wpG_op rfl rfl rfl ?_; intro K hK; go_big_quiet_op; go_big_quiet_on)
  (refine wpG_val (v := idv leaf.h) rfl rfl (fun u hu => load_any_op u (box_totH hu (List.Mem.tail _ (List.Mem.tail _ (List.Mem.tail _ (List.Mem.head _)))) HLF.out.len) rfl) ?_ hw219; intro K hK; go_big_quiet_op; go_big_quiet_on)
  (refine wpG_op rfl rfl rfl ?_; intro K hK; go_big_quiet_op; go_big_quiet_on)
  (refine wpG_val (v := .agg (wcs leaf.w)) rfl rfl (fun u hu => load_any_op u (box_totW hu (List.Mem.tail _ (List.Mem.tail _ (List.Mem.tail _ (List.Mem.head _)))) HLF.out.len) rfl) ?_ hw219; intro K hK; go_big_quiet_op; go_big_quiet_on)
  (refine wpG_call (f := 22) (args := #[idv leaf.h, .agg (wcs leaf.w)]) (v := .agg (totA ⟨leaf.h, leaf.w, 1⟩)) rfl rfl rfl Tryd.func22 rfl rfl (fun u hu => HF1.out u (EnvX.sub hu (fun _ h => by cases h))) ?_ hw219; intro K hK; go_big_quiet_op; go_big_quiet_on)
  (refine wpG_op rfl rfl rfl ?_; intro K hK; go_big_quiet_op; go_big_quiet_on)
  (refine wpG_val (v := idv leaf.h) rfl rfl (fun u hu => load_any_op u (box_totH hu (List.Mem.tail _ (List.Mem.tail _ (List.Mem.tail _ (List.Mem.head _)))) HLF.out.len) rfl) ?_ hw219; intro K hK; go_big_quiet_op; go_big_quiet_on)
  (refine wpG_op rfl rfl rfl ?_; intro K hK; go_big_quiet_op; go_big_quiet_on)
  (refine wpG_val (v := .agg (wcs leaf.w)) rfl rfl (fun u hu => load_any_op u (box_totW hu (List.Mem.tail _ (List.Mem.tail _ (List.Mem.tail _ (List.Mem.head _)))) HLF.out.len) rfl) ?_ hw219; intro K hK; go_big_quiet_op; go_big_quiet_on)
  (refine wpG_call (f := 23) (args := #[idv leaf.h, .agg (wcs leaf.w)]) (v := .agg (totA ⟨leaf.h, leaf.w, 1⟩)) rfl rfl rfl Tryd.func23 rfl rfl (fun u hu => HF2.out u (EnvX.sub hu (fun _ h => by cases h))) ?_ hw219; intro K hK; go_big_quiet_op; go_big_quiet_on)
  (refine wpG_val (v := .bool true) rfl rfl (fun u hu => eqlTb_op HLO.out HLO.out (HET.out _) u rfl rfl) ?_ hw219; intro K hK; go_big_quiet_op; go_big_quiet_on)
  (refine wpG_op rfl rfl rfl ?_; intro K hK; go_big_quiet_op; go_big_quiet_on)
  (refine wpG_op rfl rfl rfl ?_; intro K hK; go_big_quiet_op; go_big_quiet_on)
  clear hone hw219
  refine wpG_nil ?_
  refine anyH_done (by kernel_rfl) ?_
  intro u221 E2'
  have EX220 := Lib.hid E2'
  clear E2'
  go_wp2
  go_ret
  exact ⟨rfl, HB1.out.trans ((EnvX.bel EX220.out).mono HB1.out.size)⟩
theorem law_mtells (T : MmrC) (l q p : List Tot) (leaf root : Tot) (A A2 A3 : Option Addr) (n c m c2 k c3 : Nat) (i : Int) (w : World)
    (hl : l.length = n) (hq : q.length = m) (hp : p.length = k) (hnc : n ≤ c) (hcm : c ≤ maxLen) (hmc : m ≤ c2) (hc2 : c2 ≤ maxLen) (hkc : k ≤ c3) (hc3 : c3 ≤ maxLen) (hlf : okT leaf) (hrt : okT root) (hI : okTs l) (hA : TotsIn w w.heap.size A l) (hJ : okTs q) (hA2 : TotsIn w w.heap.size A2 q) (hK : okTs p) (hA3 : TotsIn w w.heap.size A3 p) (hi : -9223372036854775808 ≤ i ∧ i ≤ 9223372036854775807) (ht : Tables w) :
    Calls Tryd.prog 3 #[.slice A n c, .slice A2 m c2, totV leaf, totV root, .int .i64 i, .slice A3 k c3] w fun e w' => e = .returned (.bool true) ∧ Below w.heap.size w w' := by
  by_cases g0 : 70 < n
  · exact law_mtells_a T l q p leaf root A A2 A3 n c m c2 k c3 i w hl hq hp hnc hcm hmc hc2 hkc hc3 hlf hrt hI hA hJ hA2 hK hA3 hi ht g0
  · by_cases g1 : 70 < m
    · exact law_mtells_b T l q p leaf root A A2 A3 n c m c2 k c3 i w hl hq hp hnc hcm hmc hc2 hkc hc3 hlf hrt hI hA hJ hA2 hK hA3 hi ht (by omega) g1
    · by_cases g2 : 12 < k
      · exact law_mtells_d T l q p leaf root A A2 A3 n c m c2 k c3 i w hl hq hp hnc hcm hmc hc2 hkc hc3 hlf hrt hI hA hJ hA2 hK hA3 hi ht (by omega) (by omega) g2
      · exact law_mtells_f T l q p leaf root A A2 A3 n c m c2 k c3 i w hl hq hp hnc hcm hmc hc2 hkc hc3 hlf hrt hI hA hJ hA2 hK hA3 hi ht (by omega) (by omega) (by omega)
end Go.Proofs.YtbmiecogjmbciaaDoor

namespace Go.Proofs.YtbmiecogjmbciaaDoor.mmrTells
set_option maxRecDepth 8000
open Go.ChangeShapes Go.WideShapes Go.ChangeAt Go.RowKit

theorem contract (H : Type) (enc : TypeId × Value → H) (W : World) (base : Nat) (args : Array Value) (ds gs : List (DataW H)) (before : List MemPlace)
    (hval : ∀ (j : Nat) t v, Tryd.f3.params[j]? = some t → args[j]? = some v → Value.okWide Tryd.prog W .any base t v)
    (hW : DataW.Whole enc Tryd.prog Tryd.f3.params.toList Rows.mmrTellsSpec.vars false W args.toList ds gs before) (hL : laidMetH Tryd.prog Rows.mmrTellsRow.laid W) :
    Calls Tryd.prog 3 args W fun e W' => ∃ v, e = .returned v ∧ Rows.mmrTellsSpec.post enc Tryd.prog Tryd.f3 false true false false W args v W' := by
  have hW' := hW
  obtain ⟨p, q, hA0, hV, rfl, hfz, hnd⟩ := hW
  have hA : DataW.TrodAll enc Tryd.prog W 0 (fun _ => true) true Tryd.f3.params.toList args.toList ds p := hA0
  rw [Tryd.params3] at hA hval
  obtain ⟨v0, vs0, d0, ds0, p0, q0, hargs, rfl, rfl, h0, r0⟩ := trodAll_cons hA
  obtain ⟨v1, vs1, d1, ds1, p1, q1, rfl, rfl, rfl, h1, r1⟩ := trodAll_cons r0
  obtain ⟨v2, vs2, d2, ds2, p2, q2, rfl, rfl, rfl, h2, r2⟩ := trodAll_cons r1
  obtain ⟨v3, vs3, d3, ds3, p3, q3, rfl, rfl, rfl, h3, r3⟩ := trodAll_cons r2
  obtain ⟨v4, vs4, d4, ds4, p4, q4, rfl, rfl, rfl, h4, r4⟩ := trodAll_cons r3
  obtain ⟨v5, vs5, d5, ds5, p5, q5, rfl, rfl, rfl, h5, r5⟩ := trodAll_cons r4
  obtain ⟨rfl, rfl, rfl⟩ := trodAll_nil r5
  obtain rfl : args = #[v0, v1, v2, v3, v4, v5] := by cases args; simp_all
  obtain ⟨rfl, rfl⟩ := trodVars_none hV
  have lt0 : ∀ x ∈ p0, x.block < W.heap.size := by obtain ⟨m, hm⟩ := h0; exact DataW.trod_lt m _ _ _ hm
  obtain ⟨a0, n0, c0, x0, rfl, lx0, nc0, cm0, kx0, px0⟩ := open_tots (hval 0 22 v0 rfl rfl) h0
  have lt1 : ∀ x ∈ p1, x.block < W.heap.size := by obtain ⟨m, hm⟩ := h1; exact DataW.trod_lt m _ _ _ hm
  obtain ⟨a1, n1, c1, x1, rfl, lx1, nc1, cm1, kx1, px1⟩ := open_tots (hval 1 22 v1 rfl rfl) h1
  have lt2 : ∀ x ∈ p2, x.block < W.heap.size := by obtain ⟨m, hm⟩ := h2; exact DataW.trod_lt m _ _ _ hm
  obtain ⟨x2, rfl, kx2⟩ := open_tot (hval 2 29 v2 rfl rfl) h2
  have lt3 : ∀ x ∈ p3, x.block < W.heap.size := by obtain ⟨m, hm⟩ := h3; exact DataW.trod_lt m _ _ _ hm
  obtain ⟨x3, rfl, kx3⟩ := open_tot (hval 3 29 v3 rfl rfl) h3
  obtain ⟨x4, rfl, rfl, rfl, wx4⟩ := open_int Tryd.underlying3 (hval 4 3 v4 rfl rfl) h4
  have lt5 : ∀ x ∈ p5, x.block < W.heap.size := by obtain ⟨m, hm⟩ := h5; exact DataW.trod_lt m _ _ _ hm
  obtain ⟨a5, n5, c5, x5, rfl, lx5, nc5, cm5, kx5, px5⟩ := open_tots (hval 5 22 v5 rfl rfl) h5
  clear hA0
  refine (law_mtells mmrC x0 x1 x5 x2 x3 a0 a1 a5 n0 c0 n1 c1 n5 c5 x4 W lx0 lx1 lx5 nc0 cm0 nc1 cm1 nc5 cm5 kx2 kx3 kx0 px0 kx1 px1 kx5 px5 (bounds_i64 wx4) (tables_of_laid hL)).mono fun e W' ⟨he, bel⟩ => ?_
  subst he
  exact ⟨_, rfl, _, _, _, [], _, [], hW', trodAll_mk1 (shut_bool Tryd.underlying4 _), (trodAll_cons_mk (Below.trod laidOut (by kernel_rfl) (of_decide_eq_true (by kernel_rfl)) h0 bel lt0) (trodAll_cons_mk (Below.trod laidOut (by kernel_rfl) (of_decide_eq_true (by kernel_rfl)) h1 bel lt1) (trodAll_cons_mk (Below.trod laidOut (by kernel_rfl) (of_decide_eq_true (by kernel_rfl)) h2 bel lt2) (trodAll_cons_mk (Below.trod laidOut (by kernel_rfl) (of_decide_eq_true (by kernel_rfl)) h3 bel lt3) (trodAll_cons_mk (shut_int Tryd.underlying3 wx4) (trodAll_cons_mk (Below.trod laidOut (by kernel_rfl) (of_decide_eq_true (by kernel_rfl)) h5 bel lt5) trodAll_mk0)))))), rfl, bel.frame _, fun h => by cases h⟩

def start : Array Value := #[.slice none 0 0, .slice none 0 0, zeroT, zeroT, .int .i64 0, .slice none 0 0]
theorem reads (os : Os) {H : Type} (enc : TypeId × Value → H) : ∃ places, DataW.whole enc Tryd.prog ((laidWorld os).forCall (fun _ _ => 0) ⟨#[], start, []⟩).memory Tryd.f3.params.toList Rows.mmrTellsSpec.vars false start.toList 8 = some ([.nil, .nil, zeroTD, zeroTD, .lit (.int .i64 0), .nil], [], places) :=
  ⟨[], by kernel_rfl⟩

set_option maxRecDepth 100000 in
theorem lifted (os : Os) (started : os.Started) (H : Type) (enc : TypeId × Value → H) (F : Stop.Interp) :
    ReturnsInHanded {} Tryd.checked os 3 .any ((OpenSpec.ofChange Rows.mmrTellsSpec).preRow enc Tryd.prog Tryd.f3 Rows.mmrTellsRow.domain false Rows.mmrTellsRow.laid) (((OpenSpec.ofChange Rows.mmrTellsSpec).at F).post enc Tryd.prog Tryd.f3 false true false false) := by
  obtain ⟨places, hx⟩ := reads os enc
  refine returnsInHanded_of_row (C := Tryd.checked) (s := OpenSpec.ofChange Rows.mmrTellsSpec) own started (by kernel_rfl) Tryd.func3
    (witness_row_at (enc := enc) (C := Tryd.checked) false (laidWorld os) start rfl (by kernel_rfl) (by kernel_rfl) (by kernel_rfl)
      (OpenSpec.preRow_of_cond 8 hx (by kernel_rfl) (fun k hk => by cases hk) (by kernel_rfl) (laidMet_of_run' 8 (by kernel_rfl) (by kernel_rfl)))) ?_
  intro W base args ds gs before hval hW _ _ _ hL _ _
  exact contract H enc W base args ds gs before hval hW hL

theorem said : Rows.MmrTellsSaid :=
  OpenClaim.holds_of_cond 3 Tryd.f3 rfl rfl rfl rfl rfl rfl rfl ⟨rfl, rfl, rfl, rfl, rfl⟩ rfl rfl rfl rfl rfl (by kernel_rfl) Tryd.func3 (by kernel_rfl)
    (of_decide_eq_true (by kernel_rfl)) (by unfold Func.isWrapper; first | (rw [if_pos (by decide +kernel)]; kernel_rfl) | (rw [if_neg (by decide +kernel)]; exact ⟨rfl, rfl⟩))
    (fun os started H enc _ F => by rw [OpenClaim.pre_eq_preRow]; exact lifted os started H enc F)

theorem plain (f : FuncId) (fn : Func) (hf : Tryd.pinned.checked.prog.funcNamed "stepladder/stepladderlaw06.MmrTells" = some f) (hfn : Tryd.pinned.checked.prog.funcs[f]? = some fn) :
    false = Tryd.pinned.checked.prog.looks [] ∧ ∀ (j : Nat) t, fn.params[j]? = some t → Tryd.pinned.checked.prog.wantsStandIn t = false := by
  obtain rfl : f = 3 := Option.some.inj ((show Tryd.prog.funcNamed "stepladder/stepladderlaw06.MmrTells" = some 3 by kernel_rfl).symm.trans hf) |>.symm
  obtain rfl : fn = Tryd.f3 := (Option.some.inj (Tryd.func3.symm.trans hfn)).symm
  refine ⟨by kernel_rfl, fun j t ht => ?_⟩
  rw [Tryd.params3] at ht
  have hm : t = 22 ∨ t = 22 ∨ t = 29 ∨ t = 29 ∨ t = 3 ∨ t = 22 := by simpa using Array.mem_of_getElem? ht
  rcases hm with rfl | rfl | rfl | rfl | rfl | rfl
  · exact (show Tryd.prog.wantsStandIn 22 = false by kernel_rfl)
  · exact (show Tryd.prog.wantsStandIn 22 = false by kernel_rfl)
  · exact (show Tryd.prog.wantsStandIn 29 = false by kernel_rfl)
  · exact (show Tryd.prog.wantsStandIn 29 = false by kernel_rfl)
  · exact (show Tryd.prog.wantsStandIn 3 = false by kernel_rfl)
  · exact (show Tryd.prog.wantsStandIn 22 = false by kernel_rfl)
theorem card : Rows.MmrTellsCardSaid :=
  Claim7.holds_tied_plain_at .later [] _ _ _ _ said (fun _ h => by cases h) (by kernel_rfl) (fun _ h => by cases h) mmrTells_row_tie rfl ⟨rfl, rfl⟩ (by kernel_rfl) rfl plain (by kernel_rfl)

end Go.Proofs.YtbmiecogjmbciaaDoor.mmrTells
