/- The reference's Root. -/
import Derived.Test.YtgiacilkecoenaaDoorCg
import Derived.Great.BuildSlice
import Derived.Deep.WholeRow
namespace Go.Proofs.YtgiacilkecoenaaDoor
open Go.RowKit

theorem sumL_byte (xs : List Int) : ∀ x ∈ sumL xs, 0 ≤ x ∧ x ≤ 255 := by
  have h : ∀ (s : S8) (k : Nat), ∀ x ∈ idPre s k, 0 ≤ x ∧ x ≤ 255 := by
    intro s k
    induction k with
    | zero => intro x hx; cases hx
    | succ k ih =>
      intro x hx
      unfold idPre at hx
      rcases List.mem_append.1 hx with h | h
      · exact ih x h
      · unfold bytes4 at h
        simp at h
        omega
  unfold sumL
  exact h _ _
theorem node_id (a b : List Int) : (nodeT a b).length = 32 ∧ ∀ x ∈ nodeT a b, 0 ≤ x ∧ x ≤ 255 := ⟨sumL_len _, sumL_byte _⟩
theorem root_id {l : List (List Int)} (h : isIds l) : (rootT l).length = 32 ∧ ∀ x ∈ rootT l, 0 ≤ x ∧ x ≤ 255 := by
  by_cases h0 : l.length = 0
  · rw [List.eq_nil_of_length_eq_zero h0]
    exact ⟨sumL_len _, sumL_byte _⟩
  · by_cases h1 : l.length = 1
    · match l, h1 with
      | [x], _ => exact h x (List.mem_cons_self ..)
    · rw [root_cut (by omega)]
      exact node_id _ _
theorem wpList_load_run {P : Program} {ops : Array Oper} {rest : List Oper} {o : Oper} {a : Act} {w : World} {Q : Exit → Act → World → Prop} {v : Value} (hgd : o.guard = none) (ty : TypeId) (x : Operand) (ho : o.op = .load ty x) (ad : Addr) (hx : a.eval x = .pointer (some ad))
    (hrun : (loadVar ty ad).run P w = .ok v w) (h : wpList P ops Q rest (a.put o.dst v) w) : wpList P ops Q (o :: rest) a w :=
  wpList_plain hgd fun _ hK => by
    unfold Oper.wp execOp
    simp only [ho, hx, Instr.loadAt, Instr.sureAddr, Sem.run_bind, Sem.run_pure, Result.andThen_ok, hrun]
    exact hK _ _ h
set_option maxRecDepth 20000 in
set_option maxHeartbeats 4000000 in
theorem rroot_any : ∀ (n : Nat) (l : List (List Int)) (A : Option Addr) (c : Nat) (w : World), l.length = n → n ≤ 1000000 → n ≤ c → c ≤ maxLen → isIds l → IdsIn w w.heap.size A l →
    Calls Tryd.prog 14 #[.slice A n c] w fun e w' => e = .returned (idv (rootT l)) ∧ Below w.heap.size w w' := by
  intro n
  induction n using Nat.strongRecOn with
  | _ n ih =>
    intro l A c w hl hn hc hcm hI hA
    have hid := root_id hI
    have hz : Hid ((arrB 32 (rootT l)).size = 32 ∧ (arrB 32 []).size = 32 ∧ (arrB 32 (rootT l)).all (·.oneCell') = true) := ⟨arrB_size _ _ (by omega), arrB_size _ _ (by simp), arrB_one _ _⟩
    by_cases h0 : n = 0
    · subst h0
      obtain rfl := List.eq_nil_of_length_eq_zero hl
      rw [root_none] at hz
      rw [root_none]
      have HS := Lib.hid (fun (u : World) (g : Nat) (h : Row u g 5 #[.int .u8 2]) => rsum_any (some ⟨g, 0, none⟩) 1 1 [2] u rfl (by omega) (own_of_row (B := 0) (n := 1) (xs := [2]) h rfl (Nat.zero_le _) (by decide)).up (by intro x hx; simp at hx; omega))
      clear ih hI hA hid hl
      go_enter Tryd.func14, Tryd.ntmps14
      go_upto_region 2 with (fail)
      rw [zero_cells]
      obtain ⟨W, hW⟩ : ∃ W, w.alloc (.cells (arrB 32 []) 29) = W := ⟨_, rfl⟩
      have R2 : Row W w.heap.size 29 (arrB 32 []) := by rw [← hW]; exact Row.new w 29 _
      have HB : Below w.heap.size w W := by rw [← hW]; exact (Below.refl _ _).alloc (Nat.le_refl _) _
      rw [hW]
      clear hW
      go_wp2_with fail
      have hba : Below W.heap.size W (W.alloc (.cells #[.int .u8 2] 5)) := (Below.refl _ _).alloc (Nat.le_refl _) _
      refine (HS.out _ _ (Row.new W 5 _)).mono ?_
      rintro e w2 ⟨rfl, hb2⟩
      have hb3 := hba.trans (hb2.mono hba.size)
      have Q0 : Hid (w2.heap[w.heap.size]? = some (.cells (arrB 32 []) 29 (0, 0))) := R2.below hb3 R2.lt
      have HB2 := Lib.hid (HB.trans (hb3.mono HB.size))
      clear hb2 hb3 hba R2 HB HS
      generalize hcn : arrB 32 (sumL [2]) = cn at *
      have HCN := Lib.hid hcn
      clear hcn
      generalize arrB 32 [] = zs at *
      go_wp2_with (first
        | ((with_reducible refine wpList_store_row (o := ⟨none, .store 29 _ _, _, _, _, _⟩) ?_ 29 (.tmp 2) (.tmp 8) ?_ w.heap.size cn ?_ ?_ 29 zs Q0.out (info26 cn hz.out.1) (by rw [hz.out.1, hz.out.2.1]) hz.out.2.2 ?_); (rfl); (rfl); (rfl); (rfl))
        | ((with_reducible refine bodyPost_ret (v := .agg cn) ?_ ?_ ?_); (exact results_cell_row (p := 2) (ty := 29) Tryd.results14 _ _ w.heap.size 29 cn (0, 0) _ rfl (setRow_heap _ _ zs cn 29 (0, 0) Q0.out) Tryd.underlying29 rfl (info26 cn hz.out.1)); (rfl)))
      exact ⟨by unfold idv; rw [HCN.out], below_setRow HB2.out (Nat.le_refl _) _⟩
    by_cases h1 : n = 1
    · subst h1
      obtain ⟨x, rfl⟩ : ∃ x, l = [x] := by
        match l, hl with
        | [x], _ => exact ⟨x, rfl⟩
      rw [root_one] at hz
      rw [root_one]
      have hba : Below w.heap.size w (w.alloc (.cells (arrB 32 []) 29)) := (Below.refl _ _).alloc (Nat.le_refl _) _
      obtain ⟨ad, rfl, hld⟩ := (hA.up hba).load hI (i := 0) (by simp)
      rw [show ad.add (0 * 32) = ad by simp [Addr.add]] at hld
      have HLD : Hid ((loadVar 29 ad).run Tryd.prog (w.alloc (.cells (arrB 32 []) 29)) = .ok (.agg (arrB 32 x)) (w.alloc (.cells (arrB 32 []) 29))) := hld
      have R2 := Row.new w 29 (arrB 32 [])
      clear ih hI hA hid hl hld
      go_enter Tryd.func14, Tryd.ntmps14
      go_upto_region 4 with (fail)
      rw [zero_cells]
      generalize w.alloc (.cells (arrB 32 []) 29) = W at *
      have Q0 : Hid (W.heap[w.heap.size]? = some (.cells (arrB 32 []) 29 (0, 0))) := R2
      clear R2
      generalize hcn : arrB 32 x = cn at *
      have HCN := Lib.hid hcn
      clear hcn
      generalize arrB 32 [] = zs at *
      go_wp2_with (first
        | ((with_reducible refine wpList_load_run (o := ⟨some 14, _, _, _, _, _⟩) ?_ 29 (.tmp 13) ?_ ad ?_ HLD.out ?_); (rfl); (rfl); (rfl))
        | ((with_reducible refine wpList_store_row (o := ⟨none, .store 29 _ _, _, _, _, _⟩) ?_ 29 (.tmp 2) (.tmp 14) ?_ w.heap.size cn ?_ ?_ 29 zs Q0.out (info26 cn hz.out.1) (by rw [hz.out.1, hz.out.2.1]) hz.out.2.2 ?_); (rfl); (rfl); (rfl); (rfl))
        | ((with_reducible refine bodyPost_ret (v := .agg cn) ?_ ?_ ?_); (exact results_cell_row (p := 2) (ty := 29) Tryd.results14 _ _ w.heap.size 29 cn (0, 0) _ rfl (setRow_heap _ _ zs cn 29 (0, 0) Q0.out) Tryd.underlying29 rfl (info26 cn hz.out.1)); (rfl)))
      exact ⟨by unfold idv; rw [HCN.out], below_setRow hba (Nat.le_refl _) _⟩
    · have h2 : 2 ≤ n := by omega
      obtain ⟨a, b, c2, -⟩ := half_spec h2
      have hcut := root_cut (l := l) (by omega)
      rw [hl] at hcut
      rw [hcut]
      have hi1 := root_id (hI.take (halfT n))
      have hi2 := root_id (hI.drop (halfT n))
      have l1 : (l.take (halfT n)).length = halfT n := by rw [List.length_take]; omega
      have l2 : (l.drop (halfT n)).length = n - halfT n := by rw [List.length_drop]; omega
      have HH := Lib.hid (fun u => rhalf_any n u h2 (by omega))
      have HI1 : Hid (∀ u, EnvC w [(w.heap.size, Obj.cells (arrB 32 []) 29 (0, 0))] u → Calls Tryd.prog 14 #[.slice A (halfT n) c] u fun e w' => e = .returned (idv (rootT (l.take (halfT n)))) ∧ Below u.heap.size u w') := fun u hu =>
        ih (halfT n) b (l.take (halfT n)) A c u l1 (by omega) (by omega) hcm (hI.take _) ((hA.take hI _).up (EnvX.bel hu))
      have HI2 : Hid (∀ u, EnvC w [(w.heap.size, Obj.cells (arrB 32 []) 29 (0, 0))] u → Calls Tryd.prog 14 #[.slice (cutI' A (halfT n) c) (n - halfT n) (c - halfT n)] u fun e w' => e = .returned (idv (rootT (l.drop (halfT n)))) ∧ Below u.heap.size u w') := fun u hu =>
        ih (n - halfT n) (by omega) (l.drop (halfT n)) (cutI' A (halfT n) c) (c - halfT n) u l2 (by omega) (by omega) (by omega) (hI.drop _) ((hA.drop hI _ c (by omega)).up (EnvX.bel hu))
      have HND : Hid (∀ u, Calls Tryd.prog 20 #[idv (rootT (l.take (halfT n))), idv (rootT (l.drop (halfT n)))] u fun e w' => e = .returned (idv (nodeT (rootT (l.take (halfT n))) (rootT (l.drop (halfT n))))) ∧ Below u.heap.size u w') := fun u => rnode_any _ _ u hi1.1 hi2.1 hi1.2 hi2.2
      have HLN : Hid ((nodeT (rootT (l.take (halfT n))) (rootT (l.drop (halfT n)))).length ≤ 32) := by show _ ≤ _; rw [(node_id _ _).1]; omega
      have HKC : Hid (halfT n ≤ c) := by show _ ≤ _; omega
      have HKN : Hid (halfT n ≤ n) := by show _ ≤ _; omega
      have hne0 : ¬ (n : Int) = 0 := by omega
      have hne1 : ¬ (n : Int) = 1 := by omega
      have R2 := Row.new w 29 (arrB 32 [])
      have hba : Below w.heap.size w (w.alloc (.cells (arrB 32 []) 29)) := (Below.refl _ _).alloc (Nat.le_refl _) _
      clear ih hI hA hid hl hcut hi1 hi2 l1 l2 hz
      generalize halfT n = k at *
      go_enter Tryd.func14, Tryd.ntmps14
      go_upto_region 5 with (fail)
      rw [zero_cells]
      generalize w.alloc (.cells (arrB 32 []) 29) = W at *
      have E1 : Hid (EnvX w W [(w.heap.size, Obj.cells (arrB 32 []) 29 (0, 0))]) := ⟨hba, fun g o hm => by cases List.mem_singleton.1 hm; exact R2⟩
      clear R2 hba
      go_wp2_with fail
      refine (HH.out _).mono ?_
      rintro e w2 ⟨rfl, rfl⟩
      go_wp2_with fail
      refine wp_region_H (w0 := w) [(w.heap.size, Obj.cells (arrB 32 []) 29 (0, 0))] (by kernel_rfl) E1.out ?_
      refine anyH_phase [0, 1, 2, 3, 4, 5, 6, 7, 8] 1 rfl ⟨_, (EnvX.drew E1.out)⟩ (by kernel_rfl) ?_
      have hw1 : EnvX w _ [(w.heap.size, Obj.cells (arrB 32 []) 29 (0, 0))] := (EnvX.drew E1.out)
      have hone := @EnvC.one _ _ _ hw1
      (refine wpG_op rfl rfl rfl ?_; intro K hK; go_big_quiet_op; go_big_quiet_on)
      (refine wpG_op rfl rfl rfl ?_; intro K hK; go_big_quiet_op; go_big_quiet_on)
      (refine wpG_val (v := .slice A k c) rfl rfl (fun u hu => cutIh_op u HKC.out rfl rfl) ?_ hw1; intro K hK; go_big_quiet_op; go_big_quiet_on)
      (refine wpG_call (f := 14) (args := #[.slice A k c]) (v := idv (rootT (l.take k))) rfl rfl rfl Tryd.func14 rfl rfl (fun u hu => HI1.out u hu) ?_ hw1; intro K hK; go_big_quiet_op; go_big_quiet_on)
      (refine wpG_op rfl rfl rfl ?_; intro K hK; go_big_quiet_op; go_big_quiet_on)
      (refine wpG_op rfl rfl rfl ?_; intro K hK; go_big_quiet_op; go_big_quiet_on)
      (refine wpG_val (v := (.slice (cutI' A k c) (n - k) (c - k))) rfl rfl (fun u hu => cutIl_op u HKN.out rfl rfl) ?_ hw1; intro K hK; go_big_quiet_op; go_big_quiet_on)
      (refine wpG_call (f := 14) (args := #[(.slice (cutI' A k c) (n - k) (c - k))]) (v := idv (rootT (l.drop k))) rfl rfl rfl Tryd.func14 rfl rfl (fun u hu => HI2.out u hu) ?_ hw1; intro K hK; go_big_quiet_op; go_big_quiet_on)
      (refine wpG_call (f := 20) (args := #[idv (rootT (l.take k)), idv (rootT (l.drop k))]) (v := idv (nodeT (rootT (l.take k)) (rootT (l.drop k)))) rfl rfl rfl Tryd.func20 rfl rfl (fun u hu => HND.out u) ?_ hw1; intro K hK; go_big_quiet_op; go_big_quiet_on)
      clear hone hw1
      refine wpG_nil ?_
      refine anyH_one (i := 9) (by kernel_rfl) (hOp_store rfl (w.heap.size) (arrB 32 (nodeT (rootT (l.take k)) (rootT (l.drop k)))) rfl rfl (Nat.le_refl _) 29 (arrB 32 []) (List.Mem.head _) (info26 _ (arrB_size _ _ HLN.out)) ((arrB_size _ _ (by simp)).trans (arrB_size _ _ HLN.out).symm) (arrB_one _ _) [(w.heap.size, Obj.cells (arrB 32 (nodeT (rootT (l.take k)) (rootT (l.drop k)))) 29 (0, 0))] (List.forall_mem_cons.2 ⟨.inl rfl, (fun _ h => by cases h)⟩) ?_)
      intro he2
      refine anyH_done (by kernel_rfl) ?_
      intro u4 E2'
      have EX3 := Lib.hid E2'
      clear E2'
      have hsz : Hid ((arrB 32 (nodeT (rootT (l.take k)) (rootT (l.drop k)))).size = 32) := arrB_size _ _ HLN.out
      have Q0 : Hid (u4.heap[w.heap.size]? = some (.cells (arrB 32 (nodeT (rootT (l.take k)) (rootT (l.drop k)))) 29 (0, 0))) := EnvX.box EX3.out _ _ (List.Mem.head _)
      generalize hcn : arrB 32 (nodeT (rootT (l.take k)) (rootT (l.drop k))) = cn at *
      have HCN := Lib.hid hcn
      clear hcn
      go_wp2_with ((with_reducible refine bodyPost_ret (v := .agg cn) ?_ ?_ ?_); (exact results_cell_row (p := 2) (ty := 29) Tryd.results14 _ _ w.heap.size 29 cn (0, 0) _ rfl Q0.out Tryd.underlying29 rfl (info26 cn hsz.out)); (rfl))
      exact ⟨by unfold idv; rw [HCN.out], EX3.out.bel⟩
end Go.Proofs.YtgiacilkecoenaaDoor

/- Ids of one's own ([]api.Id that one makes): appends, also as boxes in a region. -/
namespace Go.Proofs.YtgiacilkecoenaaDoor
open Go.RowKit

def OwnI (w : World) (B : Nat) (v : Value) (l : List (List Int)) : Prop := w.ownsRow B 29 32 v l.length (l.flatten.map u8v)
theorem OwnI.nil (w : World) (B : Nat) : OwnI w B (.slice none 0 0) [] := World.ownsRow_nil _ _ _ _
theorem OwnI.form {w : World} {B : Nat} {v : Value} {l : List (List Int)} (h : OwnI w B v l) : ∃ A c, v = .slice A l.length c ∧ l.length ≤ c ∧ c ≤ maxLen := by
  rcases h.2 with ⟨rfl, e⟩ | ⟨g, cap, cur, rfl, _, _, h1, h2, _⟩
  · exact ⟨none, 0, by rw [e], by omega, Nat.zero_le _⟩
  · exact ⟨_, cap, rfl, h1, h2⟩
theorem OwnI.ids {w : World} {B n c : Nat} {A : Option Addr} {l : List (List Int)} (h : OwnI w B (.slice A n c) l) : IdsIn w w.heap.size A l := by
  intro hp
  have hl := h.1
  rcases h.2 with ⟨e, e2⟩ | ⟨g, cap, cur, e, _, hg, _⟩
  · rw [List.length_map, e2] at hl
    omega
  · injection e with e1 e2 e3
    subst e1
    refine ⟨_, rfl, ?_, fun j v hv => h.cells (g := g) rfl j v hv⟩
    exact Row.lt (t := 29) hg
theorem OwnI.below {w w' : World} {B : Nat} {v : Value} {l : List (List Int)} (h : OwnI w B v l) (hb : Below w.heap.size w w') : OwnI w' B v l := by
  refine ⟨h.1, ?_⟩
  rcases h.2 with h0 | ⟨g, cap, cur, e, hg, hh, h1⟩
  · exact .inl h0
  · exact .inr ⟨g, cap, cur, e, hg, (hb.block g (Row.lt (t := 29) hh)).trans hh, h1⟩
theorem OwnI.less {w : World} {B B' : Nat} {v : Value} {l : List (List Int)} (h : OwnI w B v l) (hB : B' ≤ B) : OwnI w B' v l := by
  refine ⟨h.1, ?_⟩
  rcases h.2 with h0 | ⟨g, cap, cur, e, hg, hh, h1⟩
  · exact .inl h0
  · exact .inr ⟨g, cap, cur, e, by omega, hh, h1⟩
theorem infoIz : (Tryd.prog.info? 29).map (fun i => (i.zero, i.size, i.bytes)) = some (some (.agg (arrB 32 [])), 32, 32) := by kernel_rfl
/-- an append of one id -/
theorem OwnI.append {w : World} {B : Nat} {v : Value} {l : List (List Int)} (h : OwnI w B v l) {x : List Int} {ad : Addr} (hx : x.length = 32) (hc : ∀ j, j < 32 → w.cell? (ad.add j) = some (.int .u8 (x.getD j 0))) (hs : l.length ≤ 1000000) (hB : B ≤ w.heap.size) :
    ∃ v' w', (Builtin.append_ #[22, 22] 22 #[v, .slice (some ad) 1 1]).run Tryd.prog w = .ok v' w' ∧ OwnI w' B v' (l ++ [x]) ∧ w.grownBy w' v.ownBlock ∧ (v'.ownBlock = v.ownBlock ∨ v'.ownBlock = some w.heap.size) := by
  cases hq : Tryd.prog.info? 29 with
  | none => have := infoIz; rw [hq] at this; cases this
  | some i =>
    have hi := infoIz
    rw [hq] at hi
    simp only [Option.map_some, Option.some.injEq, Prod.mk.injEq] at hi
    obtain ⟨h1, h2, h3⟩ := hi
    obtain ⟨v', w', hrun, hown', hg, _, ho⟩ := run_append_own_at (P := Tryd.prog) w B 22 22 29 i (.agg (arrB 32 [])) 32 32 Tryd.underlying22 hq h1 h2 h3 (arrB_size _ _ (by simp)) (by decide) v l.length (l.flatten.map u8v) h
      ad 1 1 (x.map u8v) (by simp [hx]) (fun j u hu => by
        have hj : j < x.length := by
          rcases Nat.lt_or_ge j x.length with h' | h'
          · exact h'
          · rw [List.getElem?_eq_none (by simpa using h')] at hu
            cases hu
        rw [hc j (by omega)]
        rw [List.getElem?_map, List.getElem?_eq_getElem hj] at hu
        simp only [Option.map_some] at hu
        rw [← hu]
        simp [u8v, List.getD, List.getElem?_eq_getElem hj]) (by intro u hu; obtain ⟨z, _, rfl⟩ := List.mem_map.1 hu; rfl) (by unfold maxLen; omega) (by omega) hB
    refine ⟨v', w', hrun, ?_, hg, ho⟩
    unfold OwnI
    rw [List.length_append, List.flatten_append, List.map_append]
    simpa using hown'
/-- ids of one's own, as boxes -/
def FreshI (l : List (List Int)) (x : Value) (N : Boxes) : Prop :=
  (∃ g cap cur, x = .slice (some ⟨g, 0, none⟩) l.length cap ∧ N = [(g, Obj.cells cur 29 (0, 0))] ∧ l.length ≤ cap ∧ cap ≤ maxLen ∧ cur.size = cap * 32 ∧ cur.toList.take (l.length * 32) = l.flatten.map u8v) ∨
  (x = .slice none 0 0 ∧ N = [] ∧ l = [])
theorem OwnI.fresh {w : World} {B : Nat} {v : Value} {l : List (List Int)} (h : OwnI w B v l) : ∃ N, FreshI l v N ∧ ∀ y ∈ N, B ≤ y.1 ∧ w.heap[y.1]? = some y.2 ∧ v.ownBlock = some y.1 := by
  rcases h.2 with ⟨e, e0⟩ | ⟨g, cap, cur, rfl, h1, h2, h3, h4, h5, h6⟩
  · exact ⟨[], .inr ⟨e, rfl, List.eq_nil_of_length_eq_zero e0⟩, fun y hy => by cases hy⟩
  · refine ⟨_, .inl ⟨g, cap, cur, rfl, rfl, h3, h4, h5, h6⟩, fun y hy => ?_⟩
    cases List.mem_singleton.1 hy
    exact ⟨h1, h2, rfl⟩
theorem FreshI.own {w : World} {B : Nat} {v : Value} {l : List (List Int)} {N : Boxes} (h : FreshI l v N) (hl : isIds l) (hN : ∀ y ∈ N, B ≤ y.1 ∧ w.heap[y.1]? = some y.2) : OwnI w B v l := by
  refine ⟨by rw [List.length_map]; exact hl.flat_len, ?_⟩
  rcases h with ⟨g, cap, cur, rfl, rfl, h3⟩ | ⟨rfl, rfl, rfl⟩
  · obtain ⟨k1, k2⟩ := hN _ (List.mem_singleton.2 rfl)
    exact .inr ⟨g, cap, cur, rfl, k1, k2, h3⟩
  · exact .inl ⟨rfl, rfl⟩
theorem FreshI.full {v : Value} {l : List (List Int)} {N : Boxes} (h : FreshI l v N) (hp : 0 < l.length) : ∃ g cap cur, v = .slice (some ⟨g, 0, none⟩) l.length cap ∧ N = [(g, Obj.cells cur 29 (0, 0))] ∧ l.length ≤ cap ∧ cap ≤ maxLen ∧ cur.size = cap * 32 ∧ cur.toList.take (l.length * 32) = l.flatten.map u8v := by
  rcases h with h | ⟨_, _, rfl⟩
  · exact h
  · cases hp
theorem FreshI.block {v : Value} {l : List (List Int)} {N : Boxes} (h : FreshI l v N) : ∀ g, v.ownBlock = some g → ∃ o, (g, o) ∈ N := by
  intro g hg
  rcases h with ⟨g', cap, cur, rfl, rfl, h3⟩ | ⟨rfl, rfl, rfl⟩
  · cases hg
    exact ⟨_, List.mem_singleton.2 rfl⟩
  · cases hg
/-- a call that hands back new ids -/
theorem callsI_fresh {f : FuncId} {args : Array Value} {u : World} {l : List (List Int)} (h : Calls Tryd.prog f args u fun e w' => (∃ v, e = .returned v ∧ OwnI w' u.heap.size v l) ∧ Below u.heap.size u w') :
    Calls Tryd.prog f args u fun e w'' => ∃ x N, e = .returned x ∧ FreshI l x N ∧ Below u.heap.size u w'' ∧ ∀ y ∈ N, u.heap.size ≤ y.1 ∧ w''.heap[y.1]? = some y.2 :=
  h.mono fun e w'' ⟨⟨v, he, ho⟩, hb⟩ => by
    obtain ⟨N, hN, hm⟩ := ho.fresh
    exact ⟨v, N, he, hN, hb, fun y hy => ⟨(hm y hy).1, (hm y hy).2.1⟩⟩
/-- a new list of one id -/
def BuiltI (r : List Int) (v : Value) (N : Boxes) : Prop := ∃ g, v = .slice (some ⟨g, 0, none⟩) 1 1 ∧ N = [(g, Obj.cells (arrB 32 r) 29 (0, 0))]
theorem run_buildI (r : List Int) (hr : r.length = 32) (u : World) : (Instr.buildSlice 22 1 #[(0, .agg (arrB 32 r))]).run Tryd.prog u = .ok (.slice (some ⟨u.heap.size, 0, none⟩) 1 1) (u.alloc (.cells (arrB 32 r) 29)) := by
  cases hq : Tryd.prog.info? 29 with
  | none => have := infoIz; rw [hq] at this; cases this
  | some i =>
    have hi := infoIz
    rw [hq] at hi
    simp only [Option.map_some, Option.some.injEq, Prod.mk.injEq] at hi
    obtain ⟨h1, h2, h3⟩ := hi
    refine run_buildSlice u 22 29 1 _ (arrB 32 r) i (.agg (arrB 32 [])) Tryd.underlying22 hq h1 (by omega) (by omega) ?_
    have hsz : (Value.agg (arrB 32 r)).cells.size = 32 := arrB_size _ _ (by omega)
    rw [h2]
    have hf := Great.fill_whole (s := 32) (by decide) [.agg (arrB 32 r)] ((Array.range (1 * 32)).map ((Value.agg (arrB 32 [])).cells[· % (Value.agg (arrB 32 [])).cells.size]!)) (by intro v hv; cases List.mem_singleton.1 hv; exact hsz) (by simp)
    simpa [Value.cells] using hf
theorem FAt_buildI {r : List Int} (hr : r.length = 32) {a : Act} {dst : Option Tmp} {x : Operand} {ty : TypeId} {pos : String} {after : Array Edge} {gd : Option (Nat × Bool)} (hx : a.eval x = idv r) (u : World) :
    FAt Tryd.prog ⟨dst, .buildSlice 22 1 #[(0, x)], ty, pos, after, gd⟩ a (BuiltI r) u := by
  unfold FAt execOp
  unfold idv at hx
  simp only [List.map_toArray, List.map_cons, List.map_nil, hx, Sem.run_bind, Sem.run_pure, run_buildI r hr u, Result.andThen_ok]
  refine ⟨(Below.refl _ _).alloc (Nat.le_refl _) _, _, ⟨_, rfl, rfl⟩, fun y hy => ?_⟩
  cases List.mem_singleton.1 hy
  exact ⟨Nat.le_refl _, heap_alloc_new u _⟩
/-- an append of one id in a region over boxes: what it leaves -/
def GrownI (w0 : World) (l : List (List Int)) (M0 : Boxes) (v : Value) (M' : Boxes) : Prop := ∃ N, M' = N ++ M0 ∧ FreshI l v N ∧ freshN w0 N M0
theorem appI_op {w0 u : World} {M : Boxes} (M0 : Boxes) {N : Boxes} {l : List (List Int)} {v : Value} {x : List Int} {g : Nat} {t : TypeId} {a : Act} {dst : Option Tmp} {y z : Operand} {pos : String} {after : Array Edge} {gd : Option (Nat × Bool)}
    (hu : EnvX w0 u M) (hl : isIds l) (hx : x.length = 32) (hF : FreshI l v N) (hN : ∀ y ∈ N, y ∈ M ∧ w0.heap.size ≤ y.1) (hg : (g, Obj.cells (arrB 32 x) t (0, 0)) ∈ M) (hM0 : ∀ z ∈ M0, z ∈ M ∧ ∀ y ∈ N, z.1 ≠ y.1) (hs : l.length ≤ 1000000)
    (hy : a.eval y = v) (hz : a.eval z = .slice (some ⟨g, 0, none⟩) 1 1) :
    ∃ v' u' M', (execOp a.eval ⟨dst, .call { callee := .builtin .append, args := #[y, z], argTypes := #[22, 22] }, 22, pos, after, gd⟩).run Tryd.prog u = .ok (.value v') u' ∧ EnvX w0 u' M' ∧ GrownI w0 (l ++ [x]) M0 v' M' := by
  have hown : OwnI u w0.heap.size v l := hF.own hl (fun y hy => ⟨(hN y hy).2, hu.box _ _ (hN y hy).1⟩)
  have hrow : Row u g t (arrB 32 x) := hu.row hg
  have hcell : ∀ j, j < 32 → u.cell? ((⟨g, 0, none⟩ : Addr).add j) = some (.int .u8 (x.getD j 0)) := by
    intro j hj
    rw [Addr.add_mid, Nat.zero_add]
    have hj' : j < x.length := by omega
    rw [hrow.cell]
    simp [arrB, hx, hj', u8v, List.getElem?_eq_getElem hj']
  obtain ⟨v', u', hrun, hown', hgr, hob⟩ := hown.append hx hcell hs hu.bel.size
  obtain ⟨N', hF', hN'⟩ := hown'.fresh
  refine ⟨v', u', N' ++ M0, ?_, ?_, N', rfl, hF', ?_⟩
  · unfold execOp
    simp only [resolve, invoke, builtin, Sem.run_bind, Sem.run_pure, Result.andThen_ok, List.map_toArray, List.map_cons, List.map_nil, hy, hz, hrun]
  · have hbel : Below w0.heap.size u u' := below_of_grown hgr (fun r hr => (hown.lt r hr).1) hu.bel.size
    refine ⟨hu.bel.trans hbel, fun g' o hm => ?_⟩
    rcases List.mem_append.1 hm with e | e
    · exact (hN' _ e).2.1
    · have hin := hM0 _ e
      rw [hgr.block g' (hu.lt hin.1) (fun e2 => by
        obtain ⟨o2, ho2⟩ := hF.block g' e2.symm
        exact hin.2 _ ho2 rfl)]
      exact hu.box _ _ hin.1
  · intro y hy
    refine ⟨(hN' y hy).1, fun z hz e => ?_⟩
    have hb := (hN' y hy).2.2
    have hin := hM0 z hz
    rcases hob with h | h
    · obtain ⟨o2, ho2⟩ := hF.block y.1 (h.symm.trans hb)
      exact hin.2 _ ho2 e
    · have h1 := hu.lt (g := z.1) (o := z.2) hin.1
      have h2 : u.heap.size = y.1 := Option.some.inj (h.symm.trans hb)
      omega
end Go.Proofs.YtgiacilkecoenaaDoor

/- Ids in regions over boxes: loads of an id, of one out of a list; a new variable. -/
namespace Go.Proofs.YtgiacilkecoenaaDoor
open Go.RowKit

section
variable {a : Act} {dst : Option Tmp} {x : Operand} {ty : TypeId} {pos : String} {after : Array Edge} {gd : Option (Nat × Bool)}
theorem new_id (a : Act) : NewAt Tryd.prog ⟨dst, .alloc 29, ty, pos, after, gd⟩ a (.cells (arrB 32 []) 29 (0, 0)) := fun u => by
  rw [← zero_cells]
  go_simp
theorem load_run_op {ad : Addr} {v : Value} (u : World) (hr : (loadVar 29 ad).run Tryd.prog u = .ok v u) (hx : a.eval x = .pointer (some ad)) :
    (execOp a.eval ⟨dst, .load 29 x, ty, pos, after, gd⟩).run Tryd.prog u = .ok (.value v) u := by
  unfold execOp
  simp only [hx, Instr.loadAt, Instr.sureAddr, Sem.run_bind, Sem.run_pure, Result.andThen_ok, hr]
theorem lenI_op {A : Option Addr} {n c : Nat} (u : World) (hx : a.eval x = .slice A n c) :
    (execOp a.eval ⟨dst, .call { callee := .builtin .len, args := #[x], argTypes := #[22] }, ty, pos, after, gd⟩).run Tryd.prog u = .ok (.value (.int .i64 n)) u := by
  unfold execOp
  simp only [resolve, invoke, builtin, Sem.run_bind, Sem.run_pure, Result.andThen_ok, List.map_toArray, List.map_cons, List.map_nil, hx]
  go_simp
theorem load_bool_op {g k : Nat} {b : Bool} (u : World) (h : u.cell? ⟨g, k, none⟩ = some (.bool b)) (hx : a.eval x = .pointer (some ⟨g, k, none⟩)) :
    (execOp a.eval ⟨dst, .load 4 x, ty, pos, after, gd⟩).run Tryd.prog u = .ok (.value (.bool b)) u := by
  unfold execOp
  simp only [hx]
  go_simp
theorem eql_id_op {y : Operand} {xs ys : List Int} (hxl : xs.length = 32) (hyl : ys.length = 32) (u : World) (hx : a.eval x = idv xs) (hy : a.eval y = idv ys) :
    (execOp a.eval ⟨dst, .binOp .eql 29 x y 29, ty, pos, after, gd⟩).run Tryd.prog u = .ok (.value (.bool (eqL xs ys))) u := by
  unfold idv at hx hy
  have h : (Op.equalIn 10000 29 (.agg (arrB 32 xs)) (.agg (arrB 32 ys))).run Tryd.prog u = .ok (eqL xs ys) u := run_equal_id xs ys hxl hyl u
  unfold execOp
  simp only [hx, hy]
  go_simp
theorem neq_id_op {y : Operand} {xs ys : List Int} (hxl : xs.length = 32) (hyl : ys.length = 32) (u : World) (hx : a.eval x = idv xs) (hy : a.eval y = idv ys) :
    (execOp a.eval ⟨dst, .binOp .neq 29 x y 29, ty, pos, after, gd⟩).run Tryd.prog u = .ok (.value (.bool (!eqL xs ys))) u := by
  unfold idv at hx hy
  have h : (Op.equalIn 10000 29 (.agg (arrB 32 xs)) (.agg (arrB 32 ys))).run Tryd.prog u = .ok (eqL xs ys) u := run_equal_id xs ys hxl hyl u
  unfold execOp
  simp only [hx, hy]
  go_simp
theorem eqlb_op {y : Operand} {xs ys : List Int} {b : Bool} (hxl : xs.length = 32) (hyl : ys.length = 32) (hb : eqL xs ys = b) (u : World) (hx : a.eval x = idv xs) (hy : a.eval y = idv ys) :
    (execOp a.eval ⟨dst, .binOp .eql 29 x y 29, ty, pos, after, gd⟩).run Tryd.prog u = .ok (.value (.bool b)) u := by
  rw [← hb]
  exact eql_id_op hxl hyl u hx hy
theorem neqb_op {y : Operand} {xs ys : List Int} {b : Bool} (hxl : xs.length = 32) (hyl : ys.length = 32) (hb : (!eqL xs ys) = b) (u : World) (hx : a.eval x = idv xs) (hy : a.eval y = idv ys) :
    (execOp a.eval ⟨dst, .binOp .neq 29 x y 29, ty, pos, after, gd⟩).run Tryd.prog u = .ok (.value (.bool b)) u := by
  rw [← hb]
  exact neq_id_op hxl hyl u hx hy
/-- an id in a box -/
theorem box_load {w0 u : World} {M : Boxes} {g : Nat} {t : TypeId} {r : List Int} (hu : EnvC w0 M u) (hm : (g, Obj.cells (arrB 32 r) t (0, 0)) ∈ M) (hr : r.length = 32) : (loadVar 29 ⟨g, 0, none⟩).run Tryd.prog u = .ok (idv r) u :=
  run_loadId hr fun j hj => by
    have hj' : j < r.length := by omega
    rw [Addr.add_mid, Nat.zero_add, Row.cell (EnvX.row hu hm)]
    simp [arrB, hr, hj', u8v, List.getElem?_eq_getElem hj']
/-- one out of a list in a box -/
theorem boxes_load {w0 u : World} {M : Boxes} {l : List (List Int)} {v : Value} {N : Boxes} {g n c : Nat} (hu : EnvC w0 M u) (hF : FreshI l v N) (hN : ∀ y ∈ N, y ∈ M) (hl : isIds l) (hv : v = .slice (some ⟨g, 0, none⟩) n c) {k : Nat} (hk : k < l.length) :
    (loadVar 29 ⟨g, k * 32, none⟩).run Tryd.prog u = .ok (idv (l.getD k [])) u := by
  have ho : OwnI u 0 v l := hF.own hl (fun y hy => ⟨Nat.zero_le _, EnvX.box hu _ _ (hN y hy)⟩)
  subst hv
  obtain ⟨ad, e, h⟩ := ho.ids.load hl hk
  rw [← Option.some.inj e, Addr.add_mid, Nat.zero_add] at h
  exact h
end
end Go.Proofs.YtgiacilkecoenaaDoor

/- The program's Leaf, Node and what it sums. -/
namespace Go.Proofs.YtgiacilkecoenaaDoor
open Go.RowKit

set_option maxRecDepth 20000 in
set_option maxHeartbeats 1000000 in
theorem leaf_any (A : Option Addr) (n c : Nat) (xs : List Int) (w : World) (hl : xs.length = n) (hn : n ≤ 1000000) (hx : Bytes w w.heap.size A xs) (hr : ∀ x ∈ xs, 0 ≤ x ∧ x ≤ 255) (ht : Tables w) :
    Calls Tryd.prog 15 #[.slice A n c] w fun e w' => e = .returned (idv (leafT xs)) ∧ Below w.heap.size w w' := by
  subst hl
  obtain ⟨W, hW⟩ : ∃ W, ((w.alloc (.cells (arrB 32 []) 29)).alloc (.cells #[.int .u8 0] 5)).alloc (.cells #[.slice (some ⟨w.heap.size + 1, 0, none⟩) 1 1, .slice A xs.length c] 23) = W := ⟨_, rfl⟩
  have r0 : Row W w.heap.size 29 (arrB 32 []) := by rw [← hW]; exact ((Row.new w 29 _).alloc _).alloc _
  have r1 : Row W (w.heap.size + 1) 5 #[.int .u8 0] := by rw [← hW]; exact (Row.newAt (by simp) 5 _).alloc _
  have r2 : Row W (w.heap.size + 1 + 1) 23 #[.slice (some ⟨w.heap.size + 1, 0, none⟩) 1 1, .slice A xs.length c] := by rw [← hW]; exact Row.newAt (by simp) 23 _
  have hbW : Below w.heap.size w W := by rw [← hW]; exact (((Below.refl _ _).alloc (Nat.le_refl _) _).alloc (by simp) _).alloc (by simp; omega) _
  have hs : W.heap.size = w.heap.size + 3 := by rw [← hW]; simp
  have hb0 : Bytes W W.heap.size (some ⟨w.heap.size + 1, 0, none⟩) [0] := (own_of_row (B := 0) (n := 1) (xs := [0]) r1 rfl (Nat.zero_le _) (by decide)).up
  have hP : Parts W W.heap.size (some ⟨w.heap.size + 1 + 1, 0, none⟩) [[0], xs] := parts_two (c := 1) (c' := c) (by omega) (by rw [r2.cell]; rfl) hb0 (by intro x hx; simp at hx; omega) (by rw [r2.cell]; rfl) (hx.up hbW) hr
  have HOF := Lib.hid (shaof_any (some ⟨w.heap.size + 1 + 1, 0, none⟩) 2 2 [[0], xs] W rfl hP (by omega) (by simp; omega) (ht.below hbW))
  have HE : Hid ([[0], xs].flatten = 0 :: xs) := by show _ = _; simp
  have R0 := Lib.hid r0
  have HB := Lib.hid hbW
  have hz : Hid ((arrB 32 (leafT xs)).size = 32 ∧ (arrB 32 []).size = 32 ∧ (arrB 32 (leafT xs)).all (·.oneCell') = true) := ⟨arrB_size _ _ (by unfold leafT; rw [sumL_len]; omega), arrB_size _ _ (by simp), arrB_one _ _⟩
  have HW := Lib.hid hW
  clear r0 r1 r2 hbW hs hb0 hP hx hr hW
  rw [HE.out] at HOF
  go_enter Tryd.func15, Tryd.ntmps15
  go_upto_region 1 with (fail)
  rw [zero_cells]
  have hW := HW.out
  go_wp2_with fail
  clear hW
  refine HOF.out.mono ?_
  rintro e w2 ⟨rfl, hb2⟩
  have Q0 : Hid (w2.heap[w.heap.size]? = some (.cells (arrB 32 []) 29 (0, 0))) := R0.out.below hb2 R0.out.lt
  have HB2 := Lib.hid (HB.out.trans (hb2.mono HB.out.size))
  clear hb2 HOF R0 HB
  change Hid ((arrB 32 (sumL (0 :: xs))).size = 32 ∧ (arrB 32 []).size = 32 ∧ (arrB 32 (sumL (0 :: xs))).all (·.oneCell') = true) at hz
  generalize hcn : arrB 32 (sumL (0 :: xs)) = cn at *
  have HCN := Lib.hid hcn
  clear hcn
  generalize arrB 32 [] = zs at *
  go_wp2_with (first
    | ((with_reducible refine wpList_store_row (o := ⟨none, .store 29 _ _, _, _, _, _⟩) ?_ 29 (.tmp 2) (.tmp 6) ?_ w.heap.size cn ?_ ?_ 29 zs Q0.out (info26 cn hz.out.1) (by rw [hz.out.1, hz.out.2.1]) hz.out.2.2 ?_); (rfl); (rfl); (rfl); (rfl))
    | ((with_reducible refine bodyPost_ret (v := .agg cn) ?_ ?_ ?_); (exact results_cell_row (p := 2) (ty := 29) Tryd.results15 _ _ w.heap.size 29 cn (0, 0) _ rfl (setRow_heap _ _ zs cn 29 (0, 0) Q0.out) Tryd.underlying29 rfl (info26 cn hz.out.1)); (rfl)))
  exact ⟨by unfold idv leafT; rw [HCN.out], below_setRow HB2.out (Nat.le_refl _) _⟩
theorem elB : ElemT 23 5 1 1 (.int .u8 0) := ⟨Tryd.underlying23, by kernel_rfl, rfl, by decide, by decide, by decide⟩
/-- two ids side by side -/
theorem ids2_list {a b : List Int} (ha : a.length = 32) (hb : b.length = 32) : (arrB 32 a ++ arrB 32 b) = (a.map u8v ++ b.map u8v).toArray := by
  rw [arr_id ha, arr_id hb]
  simp
theorem run_loadIds2 {w0 u : World} {M : Boxes} {g : Nat} {t : TypeId} {a b : List Int} (hu : EnvC w0 M u) (hm : (g, Obj.cells (arrB 32 a ++ arrB 32 b) t (0, 0)) ∈ M) (ha : a.length = 32) (hb : b.length = 32) :
    (loadVar 54 ⟨g, 0, none⟩).run Tryd.prog u = .ok (.agg (arrB 32 a ++ arrB 32 b)) u := by
  have h := box_agg aggIds2 (k := 0) hu hm (a.map u8v ++ b.map u8v) (by simp [ha, hb]) (by
    rw [ids2_list ha hb, List.drop_zero, List.take_of_length_le (by simp [ha, hb])])
  rw [ids2_list ha hb]
  exact h
theorem zero_ids2 : (Tryd.prog.info? 54).map (fun i => i.zero.map (·.cells.size)) = some (some 64) := by kernel_rfl
theorem built_ids {A B : Array Value} (hA : A.size = 32) (hB : B.size = 32) : Tryd.prog.built 54 [(0, .agg A), (1, .agg B)] = some (A ++ B) := by
  have hz := zero_ids2
  cases hq : Tryd.prog.info? 54 with
  | none => rw [hq] at hz; cases hz
  | some it =>
    rw [hq] at hz
    simp only [Option.map_some, Option.some.injEq] at hz
    cases hzz : it.zero with
    | none => rw [hzz] at hz; cases hz
    | some z =>
      rw [hzz] at hz
      simp only [Option.map_some, Option.some.injEq] at hz
      have hi := infoI
      cases hq2 : Tryd.prog.info? 29 with
      | none => rw [hq2] at hi; cases hi
      | some ie =>
        rw [hq2] at hi
        simp only [Option.map_some, Option.some.injEq, Prod.mk.injEq] at hi
        unfold Program.built
        simp only [hq, Tryd.underlying54, hzz, hq2, hi.1]
        exact fill_two A B z.cells hA hB rfl rfl (by omega)
section
variable {a : Act} {dst : Option Tmp} {x : Operand} {ty : TypeId} {pos : String} {after : Array Edge} {gd : Option (Nat × Bool)}
theorem sliceArr_op {ad : Addr} (u : World) (hx : a.eval x = .pointer (some ad)) :
    (execOp a.eval ⟨dst, .slice 29 x none none none, ty, pos, after, gd⟩).run Tryd.prog u = .ok (.value (.slice (some ad) 32 32)) u := by
  unfold execOp
  simp only [hx]
  go_simp
end
def preN (a b : List Int) : Nat → List Int
  | 0 => [1]
  | 1 => 1 :: a
  | _ => 1 :: (a ++ b)
def selN (a b : List Int) : Nat → List Int
  | 0 => a
  | _ => b
theorem pre_step (a b : List Int) {k : Nat} (h : k < 2) : preN a b (k + 1) = preN a b k ++ selN a b k := by
  match k, h with
  | 0, _ => simp [preN, selN]
  | 1, _ => simp [preN, selN]
theorem pre_len {a b : List Int} (ha : a.length = 32) (hb : b.length = 32) {k : Nat} (h : k ≤ 2) : (preN a b k).length = 1 + k * 32 := by
  match k, h with
  | 0, _ => simp [preN]
  | 1, _ => simp [preN, ha]
  | 2, _ => simp [preN, ha, hb]
theorem sel_cut {a b : List Int} (ha : a.length = 32) (hb : b.length = 32) {k : Nat} (h : k < 2) : (arrB 32 a ++ arrB 32 b).extract (k * 32) (k * 32 + 32) = arrB 32 (selN a b k) := by
  rw [ids2_list ha hb]
  match k, h with
  | 0, _ =>
    show _ = arrB 32 a
    rw [arr_id ha]
    simp [ha]
  | 1, _ =>
    show _ = arrB 32 b
    rw [arr_id hb]
    simp [ha, hb]
    exact List.take_of_length_le (by simp [hb])
set_option maxRecDepth 20000 in
set_option maxHeartbeats 4000000 in
theorem text_any (a b : List Int) (w : World) (ha : a.length = 32) (hb : b.length = 32) :
    Calls Tryd.prog 34 #[.agg (arrB 32 a ++ arrB 32 b)] w fun e w' => (∃ v, e = .returned v ∧ w'.ownsRow w.heap.size 5 1 v 65 ((textT a b).map u8v)) ∧ Below w.heap.size w w' := by
  have HA := Lib.hid (And.intro ha (Nat.le_refl 0))
  have HB := Lib.hid (And.intro hb (Nat.le_refl 0))
  clear ha hb
  have E1 : Hid (EnvX w ((w.alloc (.cells (arrB 32 a ++ arrB 32 b) 54)).alloc (.cells #[.int .u8 1] 5)) [(w.heap.size + 1, Obj.cells #[.int .u8 1] 5 (0, 0)), (w.heap.size, Obj.cells (arrB 32 a ++ arrB 32 b) 54 (0, 0))]) := (EnvX.start w).two _ _
  go_enter Tryd.func34, Tryd.ntmps34
  go_upto_region 2 with (fail)
  generalize (w.alloc (.cells (arrB 32 a ++ arrB 32 b) 54)).alloc (.cells #[.int .u8 1] 5) = W at *
  refine wp_region_Hx (w0 := w) [0, 1] [(w.heap.size + 1, Obj.cells #[.int .u8 1] 5 (0, 0)), (w.heap.size, Obj.cells (arrB 32 a ++ arrB 32 b) 54 (0, 0))] rfl E1.out ?_
  refine lexH_phase [0, 1] [] ?_
  have hw1 : EnvX w _ [(w.heap.size + 1, Obj.cells #[.int .u8 1] 5 (0, 0)), (w.heap.size, Obj.cells (arrB 32 a ++ arrB 32 b) 54 (0, 0))] := E1.out
  have hone := @EnvC.one _ _ _ hw1
  (refine wpG_val (v := .agg (arrB 32 a ++ arrB 32 b)) rfl rfl (fun u hu => load_any_op u (run_loadIds2 hu (List.Mem.tail _ (List.Mem.head _)) HA.out.1 HB.out.1) rfl) ?_ hw1; intro K hK; go_big_quiet_op; go_big_quiet_on)
  (refine wpG_op rfl rfl rfl ?_; intro K hK; go_big_quiet_op; go_big_quiet_on)
  clear hone hw1
  refine wpG_nil ?_
  intro u3 E2'
  have EX2 := Lib.hid E2'
  clear E2'
  have HINV : Hid (∃ N, FreshR 5 1 (1 + 0 * 32) ((preN a b 0).map u8v) (.slice (some ⟨w.heap.size + 1, 0, none⟩) 1 1) N ∧ freshN w N [] ∧ EnvX w u3 N) := by
    refine ⟨_, .inl ⟨w.heap.size + 1, 1, #[.int .u8 1], rfl, rfl, by omega, by decide, rfl, rfl⟩, ?_, EnvX.sub EX2.out (fun y hy => ?_)⟩
    · intro y hy
      cases List.mem_singleton.1 hy
      exact ⟨Nat.le_succ _, fun z hz => by cases hz⟩
    · cases List.mem_singleton.1 hy
      exact List.Mem.head _
  clear EX2
  go_upto_region 3 with (fail)
  go_loopw [3, 8] (fun v i u => ∃ k : Nat, k ≤ 2 ∧ i = .int .i64 k ∧ Hid (∃ N, FreshR 5 1 (1 + k * 32) ((preN a b k).map u8v) v N ∧ freshN w N [] ∧ EnvX w u N)) (fun _ i _ => 2 - (intOf i).toNat)
  case atStart => exact ⟨0, by omega, rfl, HINV⟩
  case round =>
    obtain ⟨k, hk, rfl, hinv⟩ := hrel
    obtain ⟨N, hF, hN, hE⟩ := hinv.out
    clear hinv HINV
    by_cases hlt : k < 2
    · have hk2 : (k : Int) < 2 := by omega
      have EK : Hid (EnvX w wr (N ++ [])) := by show EnvX _ _ _; rw [List.append_nil]; exact hE
      have HF := Lib.hid hF
      have HN := Lib.hid hN
      have HK := Lib.hid hlt
      have HIX := Lib.hid (sel_cut HA.out.1 HB.out.1 hlt)
      have HX : Hid ((selN a b k).length = 32) := by
        match k, hlt with
        | 0, _ => exact HA.out.1
        | 1, _ => exact HB.out.1
      have HPS := Lib.hid (pre_step a b hlt)
      have HPL := Lib.hid (pre_len HA.out.1 HB.out.1 (Nat.le_of_lt hlt))
      have HKS : Hid (1 + k * 32 + 32 ≤ 2000000) := by show _ ≤ _; omega
      clear hE hF hN
      generalize selN a b k = x at *
      go_upto_region 4 with (fail)
      refine wp_region_Hx (w0 := w) [0, 1, 2] (N ++ []) rfl EK.out ?_
      refine lexH_phase [0] [1, 2] ?_
      have hw4 : EnvX w _ (N ++ []) := EK.out
      have hone := @EnvC.one _ _ _ hw4
      (refine wpG_val (v := idv x) rfl rfl (fun u hu => index_op Tryd.underlying54 aggId HK.out HIX.out u rfl rfl) ?_ hw4; intro K hK; go_big_quiet_op; go_big_quiet_on)
      clear hone hw4
      refine wpG_nil ?_
      refine (hOp_fresh (R := fun x N => ∃ g, x = .pointer (some ⟨g, 0, none⟩) ∧ N = [(g, Obj.cells (arrB 32 []) 29 (0, 0))]) (M0 := (N ++ [])) rfl rfl (fun _ h => h) (fun u hu => FAt_new (new_id _) u) ?_)
      rintro x N ⟨g9, rfl, rfl⟩ hf he5; intro K' hK'; go_big_quiet_op; go_big_quiet_on
      have HG9 := Lib.hid hf
      clear hf
      change lexH _ _ _ _ _ _ ((g9, Obj.cells (arrB 32 []) 29 (0, 0)) :: (N ++ []))
      refine (hOp_store rfl (g9) (arrB 32 x) rfl rfl (HG9.out _ (List.mem_singleton.2 rfl)).1 29 ((arrB 32 [])) (List.Mem.head _) (info26 _ (arrB_size _ _ (by rw [HX.out]; omega))) ((arrB_size _ _ (by simp)).trans (arrB_size _ _ (by rw [HX.out]; omega)).symm) (arrB_one _ _) ((g9, Obj.cells (arrB 32 x) 29 (0, 0)) :: (N ++ [])) (fun y hy => (List.mem_cons.1 hy).imp id (fun h => ⟨List.mem_cons_of_mem _ (by simpa using h), (HG9.out _ (List.mem_singleton.2 rfl)).2 _ (by simpa using h)⟩)) ?_)
      intro he6
      intro u8 E2'
      have EX7 := Lib.hid E2'
      clear E2'
      go_upto_region 5 with (fail)
      refine wp_region_Hx (w0 := w) [0, 1, 2, 3] ((g9, Obj.cells (arrB 32 x) 29 (0, 0)) :: (N ++ [])) rfl EX7.out ?_
      refine lexH_phase [0, 1] [2, 3] ?_
      have hw9 : EnvX w _ ((g9, Obj.cells (arrB 32 x) 29 (0, 0)) :: (N ++ [])) := EX7.out
      have hone := @EnvC.one _ _ _ hw9
      (refine wpG_op rfl rfl rfl ?_; intro K hK; go_big_quiet_op; go_big_quiet_on)
      (refine wpG_val (v := .slice (some ⟨g9, 0, none⟩) 32 32) rfl rfl (fun u hu => sliceArr_op u rfl) ?_ hw9; intro K hK; go_big_quiet_op; go_big_quiet_on)
      clear hone hw9
      refine wpG_nil ?_
      refine (hOp_own (gd := none) (R := GrownR w 5 1 (1 + k * 32 + 32) ((preN a b k).map u8v ++ x.map u8v) []) rfl rfl rfl rfl (fun u hu => appR_op elB (m := 32) (c := 32) [] hu (by rw [List.length_map, HPL.out]; omega) (by rw [List.length_map, HX.out]) (fun z hz => by obtain ⟨q, _, rfl⟩ := List.mem_map.1 hz; rfl) HF.out (fun y hy => ⟨List.mem_cons_of_mem _ (List.mem_append_left _ hy), (HN.out y hy).1⟩) (by rw [← arr_id HX.out]; exact List.Mem.head _) (fun z hz => by cases hz) HKS.out rfl rfl) ?_)
      rintro x M' ⟨N2, rfl, hF2, hf2⟩ he10; intro K' hK'; go_big_quiet_op; go_big_quiet_on
      have HF2 := Lib.hid (And.intro hF2 hf2)
      clear hF2 hf2
      change lexH _ _ _ _ _ _ (N2 ++ [])
      refine lexH_phase [3] [] ?_
      have hw11 : EnvX w _ (N2 ++ []) := he10.choose_spec
      have hone := @EnvC.one _ _ _ hw11
      (refine wpG_op rfl rfl rfl ?_; intro K hK; go_big_quiet_op; go_big_quiet_on)
      clear hone hw11
      refine wpG_nil ?_
      intro u13 E2'
      have EX12 := Lib.hid E2'
      clear E2'
      go_wp2
      go_roundw
      case rel =>
        refine ⟨k + 1, by omega, by go_num, N2, ?_, HF2.out.2, by simpa using EX12.out⟩
        have h := HF2.out.1
        rw [HPS.out, List.map_append, show 1 + (k + 1) * 32 = 1 + k * 32 + 32 by omega]
        exact h
      case measure => simp [intOf]; omega
    · obtain rfl : k = 2 := by omega
      have HO := Lib.hid (And.intro (hF.own (B := w.heap.size) (by rw [List.length_map, pre_len HA.out.1 HB.out.1 (Nat.le_refl _)]) (fun y hy => ⟨(hN y hy).1, EnvX.box hE _ _ hy⟩)) (EnvX.bel hE))
      clear hF hN hE
      go_wp2
      go_ret
      exact ⟨⟨_, rfl, HO.out.1⟩, HO.out.2⟩
theorem box_bytes65 {w0 u : World} {M : Boxes} {g cap : Nat} {cur : Array Value} {xs : List Int} (hu : EnvC w0 M u) (hm : (g, Obj.cells cur 5 (0, 0)) ∈ M) (hl : xs.length = 65) (h : 65 ≤ cap ∧ cap ≤ maxLen ∧ cur.size = cap * 1 ∧ cur.toList.take (65 * 1) = xs.map u8v) : Bytes u u.heap.size (some ⟨g, 0, none⟩) xs := by
  have : OwnB u 0 (.slice (some ⟨g, 0, none⟩) xs.length cap) xs := ⟨by simp, .inr ⟨g, cap, cur, rfl, Nat.zero_le _, EnvX.box hu g _ hm, by rw [hl]; exact h.1, h.2.1, h.2.2.1, by rw [hl]; exact h.2.2.2⟩⟩
  exact this.bytes.2
set_option maxRecDepth 20000 in
set_option maxHeartbeats 4000000 in
theorem node_any (a b : List Int) (w : World) (ha : a.length = 32 ∧ ∀ x ∈ a, 0 ≤ x ∧ x ≤ 255) (hb : b.length = 32 ∧ ∀ x ∈ b, 0 ≤ x ∧ x ≤ 255) (ht : Tables w) :
    Calls Tryd.prog 19 #[idv a, idv b] w fun e w' => e = .returned (idv (nodeT a b)) ∧ Below w.heap.size w w' := by
  have HA := Lib.hid ha
  have HB := Lib.hid hb
  have HAB : Hid ((arrB 32 a).size = 32 ∧ (arrB 32 b).size = 32) := ⟨arrB_size _ _ (by omega), arrB_size _ _ (by omega)⟩
  have HTX := Lib.hid (fun u => text_any a b u ha.1 hb.1)
  have HTL : Hid ((textT a b).length = 65) := by show _ = _; unfold textT; simp [ha.1, hb.1]
  have HSUM : Hid (∀ u g cap, Bytes u u.heap.size (some ⟨g, 0, none⟩) (textT a b) → EnvX w u [] → Calls Tryd.prog 23 #[.slice (some ⟨g, 0, none⟩) 65 cap] u fun e w' => e = .returned (idv (nodeT a b)) ∧ Below u.heap.size u w') := fun u g cap h1 h2 =>
    sum_any (some ⟨g, 0, none⟩) 65 cap (textT a b) u HTL.out (by omega) h1 (textT_byte ha.2 hb.2) (ht.below (EnvX.bel h2))
  have HLE : Hid (w.heap.size ≤ w.heap.size + 1 + 1) := by show _ ≤ _; omega
  have HNL : Hid ((nodeT a b).length ≤ 32) := by show _ ≤ _; rw [(node_id _ _).1]; omega
  have E1 : Hid (EnvX w (((w.alloc (.cells (arrB 32 a) 29)).alloc (.cells (arrB 32 b) 29)).alloc (.cells (arrB 32 []) 29)) [(w.heap.size + 1 + 1, Obj.cells (arrB 32 []) 29 (0, 0)), (w.heap.size + 1, Obj.cells (arrB 32 b) 29 (0, 0)), (w.heap.size, Obj.cells (arrB 32 a) 29 (0, 0))]) := by
    have h := ((EnvX.start w).two (Obj.cells (arrB 32 a) 29 (0, 0)) (Obj.cells (arrB 32 b) 29 (0, 0))).new (Obj.cells (arrB 32 []) 29 (0, 0))
    have hs : ((w.alloc (Obj.cells (arrB 32 a) 29 (0, 0))).alloc (Obj.cells (arrB 32 b) 29 (0, 0))).heap.size = w.heap.size + 1 + 1 := by simp
    rw [hs] at h
    exact h
  clear ha hb ht
  unfold idv
  go_enter Tryd.func19, Tryd.ntmps19
  go_upto_region 1 with (fail)
  rw [zero_cells]
  generalize ((w.alloc (.cells (arrB 32 a) 29)).alloc (.cells (arrB 32 b) 29)).alloc (.cells (arrB 32 []) 29) = W at *
  refine wp_region_Hx (w0 := w) [0, 1, 2, 3, 4, 5] [(w.heap.size + 1 + 1, Obj.cells (arrB 32 []) 29 (0, 0)), (w.heap.size + 1, Obj.cells (arrB 32 b) 29 (0, 0)), (w.heap.size, Obj.cells (arrB 32 a) 29 (0, 0))] rfl E1.out ?_
  refine lexH_phase [0, 1, 2] [3, 4, 5] ?_
  have hw1 : EnvX w _ [(w.heap.size + 1 + 1, Obj.cells (arrB 32 []) 29 (0, 0)), (w.heap.size + 1, Obj.cells (arrB 32 b) 29 (0, 0)), (w.heap.size, Obj.cells (arrB 32 a) 29 (0, 0))] := E1.out
  have hone := @EnvC.one _ _ _ hw1
  (refine wpG_val (v := idv a) rfl rfl (fun u hu => load_run_op u (box_load hu (List.Mem.tail _ (List.Mem.tail _ (List.Mem.head _))) HA.out.1) rfl) ?_ hw1; intro K hK; go_big_quiet_op; go_big_quiet_on)
  (refine wpG_val (v := idv b) rfl rfl (fun u hu => load_run_op u (box_load hu (List.Mem.tail _ (List.Mem.head _)) HB.out.1) rfl) ?_ hw1; intro K hK; go_big_quiet_op; go_big_quiet_on)
  (refine wpG_val (v := .agg (arrB 32 a ++ arrB 32 b)) rfl rfl (fun u hu => buildA_op u (built_ids HAB.out.1 HAB.out.2)) ?_ hw1; intro K hK; go_big_quiet_op; go_big_quiet_on)
  clear hone hw1
  refine wpG_nil ?_
  refine (hOp_fresh (R := FreshR 5 1 65 ((textT a b).map u8v)) (M0 := [(w.heap.size + 1 + 1, Obj.cells (arrB 32 []) 29 (0, 0)), (w.heap.size + 1, Obj.cells (arrB 32 b) 29 (0, 0)), (w.heap.size, Obj.cells (arrB 32 a) 29 (0, 0))]) rfl rfl (fun _ h => h) (fun u hu => FAt_call (fid := 34) (xs := #[.tmp 7]) (args := #[.agg (arrB 32 a ++ arrB 32 b)]) rfl Tryd.func34 rfl rfl u (callsR_fresh (HTX.out u))) ?_)
  rintro x N hF hf he2; intro K' hK'; go_big_quiet_op; go_big_quiet_on
  obtain ⟨g, cap, cur, rfl, rfl, hcur⟩ | ⟨_, _, h0, _⟩ := hF
  case inr => cases h0
  have HCUR := Lib.hid hcur
  clear hcur
  clear hf
  change lexH _ _ _ _ _ _ [(g, Obj.cells cur 5 (0, 0)), (w.heap.size + 1 + 1, Obj.cells (arrB 32 []) 29 (0, 0)), (w.heap.size + 1, Obj.cells (arrB 32 b) 29 (0, 0)), (w.heap.size, Obj.cells (arrB 32 a) 29 (0, 0))]
  refine lexH_phase [4] [5] ?_
  have hw3 : EnvX w _ [(g, Obj.cells cur 5 (0, 0)), (w.heap.size + 1 + 1, Obj.cells (arrB 32 []) 29 (0, 0)), (w.heap.size + 1, Obj.cells (arrB 32 b) 29 (0, 0)), (w.heap.size, Obj.cells (arrB 32 a) 29 (0, 0))] := he2.choose_spec
  have hone := @EnvC.one _ _ _ hw3
  (refine wpG_call (f := 23) (args := #[.slice (some ⟨g, 0, none⟩) 65 cap]) (v := idv (nodeT a b)) rfl rfl rfl Tryd.func23 rfl rfl (fun u hu => HSUM.out u _ _ (box_bytes65 hu (List.Mem.head _) HTL.out HCUR.out) (EnvX.sub hu (fun _ h => by cases h))) ?_ hw3; intro K hK; go_big_quiet_op; go_big_quiet_on)
  clear hone hw3
  refine wpG_nil ?_
  refine (hOp_store rfl (w.heap.size + 1 + 1) (arrB 32 (nodeT a b)) rfl rfl HLE.out 29 ((arrB 32 [])) (List.Mem.tail _ (List.Mem.head _)) (info26 _ (arrB_size _ _ HNL.out)) ((arrB_size _ _ (by simp)).trans (arrB_size _ _ HNL.out).symm) (arrB_one _ _) [(w.heap.size + 1 + 1, Obj.cells (arrB 32 (nodeT a b)) 29 (0, 0))] (List.forall_mem_cons.2 ⟨.inl rfl, (fun _ h => by cases h)⟩) ?_)
  intro he4
  intro u6 E2'
  have EX5 := Lib.hid E2'
  clear E2'
  have hsz : Hid ((arrB 32 (nodeT a b)).size = 32) := arrB_size _ _ HNL.out
  have Q0 := Lib.hid (EnvX.box EX5.out _ _ (List.Mem.head _))
  have HBEL := Lib.hid EX5.out.bel
  clear EX5
  generalize hcn : arrB 32 (nodeT a b) = cn at *
  have HCN := Lib.hid hcn
  clear hcn
  go_wp2_with ((with_reducible refine bodyPost_ret (v := .agg cn) ?_ ?_ ?_); (exact results_cell_row (p := 4) (ty := 29) Tryd.results19 _ _ (w.heap.size + 1 + 1) 29 cn (0, 0) _ rfl Q0.out Tryd.underlying29 rfl (info26 cn hsz.out)); (rfl))
  exact ⟨by rw [HCN.out], HBEL.out⟩
end Go.Proofs.YtgiacilkecoenaaDoor

/- Calls of a function value that bears what it captured; addresses of elements; new variables of any type. -/
namespace Go.Proofs.YtgiacilkecoenaaDoor
open Go.RowKit

theorem run_callV {P : Program} {a : Act} {x : Operand} {f : FuncId} {caps args all : Array Value} {xs : Array Operand} {ats : Array TypeId} {fn : Func} {c : Code} {dst : Option Tmp} {ty : TypeId} {pos : String} {after : Array Edge} {gd : Option (Nat × Bool)} (hx : a.eval x = .func (.func f) #[] caps) (hargs : xs.toList.map a.eval = args.toList)
    (hall : args.toList ++ caps.toList = all.toList) (hfn : P.funcs[f]? = some fn) (hname : (fn.name == "runtime.NumGoroutine") = false) (hb : fn.body = some c) (u : World) :
    (execOp a.eval ⟨dst, .call { callee := .value x, args := xs, argTypes := ats }, ty, pos, after, gd⟩).run P u = .ok (.enter f all) u := by
  have ha : xs.map a.eval = args := by
    apply Array.ext'
    rw [Array.toList_map]
    exact hargs
  have h2 : args ++ caps = all := by
    apply Array.ext'
    rw [Array.toList_append]
    exact hall
  unfold execOp
  simp only [resolve, hx, ha, Deferred.ofValue, invoke, Sem.run_bind, Sem.run_pure, Result.andThen_ok, Array.empty_append, h2]
  exact run_enter hfn hname hb _ u
section
variable {P : Program} {l : List Oper} {C : World → Prop} {Q : Act → Prop} {a : Act} {i : Nat} {rest : List Nat} {dst : Option Tmp} {ty : TypeId} {pos : String} {after : Array Edge} {gd : Option (Nat × Bool)}
theorem wpG_callV {f : FuncId} {x : Operand} {xs : Array Operand} {ats : Array TypeId} {fn : Func} {c : Code} {v : Value} {args caps all : Array Value} (ho : l[i]? = some ⟨dst, .call { callee := .value x, args := xs, argTypes := ats }, ty, pos, after, gd⟩)
    (hw : Region.wanted ⟨dst, .call { callee := .value x, args := xs, argTypes := ats }, ty, pos, after, gd⟩ (yielded l.toArray a.tmps) = true)
    (hx : a.eval x = .func (.func f) #[] caps) (hargs : xs.toList.map a.eval = args.toList) (hall : args.toList ++ caps.toList = all.toList) (hfn : P.funcs[f]? = some fn) (hname : (fn.name == "runtime.NumGoroutine") = false) (hb : fn.body = some c)
    (hcall : ∀ u, C u → Calls P f all u (fun e w'' => e = .returned v ∧ Below u.heap.size u w''))
    (h : ∀ K : Act → Prop, (∀ a, wpG P l C Q rest a → K a) → Oper.quiet P ⟨dst, .move (.const v), ty, pos, after, gd⟩ a C K) {u0 : World} (h0 : C u0) : wpG P l C Q (i :: rest) a := by
  refine ⟨?_⟩
  unfold wpG0
  simp only [ho]
  rw [if_pos hw]
  obtain ⟨v', hv, hK⟩ := h (wpG0 P l C Q rest) (fun _ h => h.out)
  have e : v' = v := by
    have h1 := hv u0 h0
    unfold Oper.quietAt execOp at h1
    exact h1.2.symm
  rw [e] at hK
  refine ⟨v, fun u hu => ?_, hK⟩
  unfold GAt
  rw [run_callV hx hargs hall hfn hname hb u]
  exact ⟨rfl, hcall u hu⟩
theorem hOp_putAt {P : Program} {ops : Array Oper} {w0 : World} {i : Nat} {K : Act → Boxes → Prop} {a : Act} {M : Boxes} {ty : TypeId} {pos : String} {after : Array Edge} {ty' : TypeId} {x y : Operand} (ho : ops[i]? = some ⟨none, .store ty' x y, ty, pos, after, none⟩)
    (g k : Nat) (v : Value) (hx : a.eval x = .pointer (some ⟨g, k, none⟩)) (hy : a.eval y = v) (hg : w0.heap.size ≤ g) (t : TypeId) (old cs : Array Value) (hm : (g, Obj.cells old t (0, 0)) ∈ M)
    (hi : (P.info? ty').map (·.size) = some v.cells.size) (hk : k + v.cells.size ≤ old.size) (h1 : v.cells.all (·.oneCell') = true) (hcs : old.toList.take k ++ v.cells.toList ++ old.toList.drop (k + v.cells.size) = cs.toList) (M' : Boxes) (hM' : ∀ x ∈ M', x = (g, Obj.cells cs t (0, 0)) ∨ (x ∈ M ∧ x.1 ≠ g))
    (h : (∃ u, EnvX w0 u M') → K a M') : hOp P ops w0 i K a M := hOp_storeAt ho g k v hx hy hg t old cs hm hi hk h1 hcs M' hM' h
theorem OUpon_callV {w0 : World} {R : Value → Boxes → Prop} {f : FuncId} {x : Operand} {xs : Array Operand} {ats : Array TypeId} {fn : Func} {c : Code} {args caps all : Array Value}
    (hx : a.eval x = .func (.func f) #[] caps) (hargs : xs.toList.map a.eval = args.toList) (hall : args.toList ++ caps.toList = all.toList) (hfn : P.funcs[f]? = some fn) (hname : (fn.name == "runtime.NumGoroutine") = false) (hb : fn.body = some c) (u : World)
    (hcall : Calls P f all u (fun e w'' => ∃ x M', e = .returned x ∧ EnvX w0 w'' M' ∧ R x M')) :
    OUpon P w0 R ((execOp a.eval ⟨dst, .call { callee := .value x, args := xs, argTypes := ats }, ty, pos, after, gd⟩).run P u) := by
  rw [run_callV hx hargs hall hfn hname hb u]
  exact hcall
end
section
variable {a : Act} {dst : Option Tmp} {x y : Operand} {ty : TypeId} {pos : String} {after : Array Edge} {gd : Option (Nat × Bool)}
theorem sizeOf_info {e : TypeId} {z : Nat} (h : (Tryd.prog.info? e).map (·.size) = some z) (u : World) : (sizeOf e).run Tryd.prog u = .ok z u := by
  cases hq : Tryd.prog.info? e with
  | none => rw [hq] at h; cases h
  | some k =>
    rw [hq] at h
    simp only [Option.map_some, Option.some.injEq] at h
    simp [sizeOf, typeInfo, hq, h]
theorem idxArr_op {t e : TypeId} {len z : Nat} (hu : Tryd.prog.underlying t = some (.array len e)) (hz : (Tryd.prog.info? e).map (·.size) = some z) {g o i : Nat} (hi : i < len) (u : World)
    (hx : a.eval x = .pointer (some ⟨g, o, none⟩)) (hy : a.eval y = .int .i64 (i : Int)) :
    (execOp a.eval ⟨dst, .indexAddr t x y, ty, pos, after, gd⟩).run Tryd.prog u = .ok (.value (.pointer (some ⟨g, o + i * z, none⟩))) u := by
  have hl : Tryd.prog.arrayLen t = len := by simp [Program.arrayLen, hu]
  have he : Tryd.prog.elem t = e := by simp [Program.elem, hu]
  have hr := run_indexAt_array (P := Tryd.prog) u t ⟨g, o, none⟩ .i64 (i : Int) (by rw [hl, he]; exact hu)
  rw [hl, he, if_pos ⟨by omega, by omega⟩, sizeOf_info hz u, Result.andThen_ok, Int.toNat_natCast, Addr.add_mid] at hr
  unfold execOp
  simp only [hx, hy, Sem.run_bind, Sem.run_pure, hr, Result.andThen_ok]
theorem idxSl_op {t e : TypeId} {z : Nat} (hu : Tryd.prog.underlying t = some (.slice e)) (hz : (Tryd.prog.info? e).map (·.size) = some z) {ad : Addr} {n c i : Nat} (hi : i < n) (u : World)
    (hx : a.eval x = .slice (some ad) n c) (hy : a.eval y = .int .i64 (i : Int)) :
    (execOp a.eval ⟨dst, .indexAddr t x y, ty, pos, after, gd⟩).run Tryd.prog u = .ok (.value (.pointer (some (ad.add (i * z))))) u := by
  have he : Tryd.prog.elem t = e := by simp [Program.elem, hu]
  have hr := run_indexAt_slice (P := Tryd.prog) u t ad n c .i64 (i : Int) (by rw [he]; exact hu)
  rw [he, if_pos ⟨by omega, by omega⟩, sizeOf_info hz u, Result.andThen_ok, Int.toNat_natCast] at hr
  unfold execOp
  simp only [hx, hy, Sem.run_bind, Sem.run_pure, hr, Result.andThen_ok]
theorem len_op {t e : TypeId} (hu : Tryd.prog.underlying t = some (.slice e)) {A : Option Addr} {n c : Nat} (hn : n < 9223372036854775808) (u : World) (hx : a.eval x = .slice A n c) :
    (execOp a.eval ⟨dst, .call { callee := .builtin .len, args := #[x], argTypes := #[t] }, ty, pos, after, gd⟩).run Tryd.prog u = .ok (.value (.int .i64 (n : Int))) u := by
  have he : Tryd.prog.elem t = e := by simp [Program.elem, hu]
  have hr := run_len_slice (P := Tryd.prog) u t ty A n c (by rw [he]; exact hu)
  have hg : goInt n = .int .i64 (n : Int) := rfl
  unfold execOp
  simp only [resolve, invoke, builtin, Sem.run_bind, Sem.run_pure, Result.andThen_ok, List.map_toArray, List.map_cons, List.map_nil, hx, hr, hg]
theorem new_of {t : TypeId} {z : Value} {n : Nat} (h : (Tryd.prog.info? t).map (fun i => (i.zero, i.size)) = some (some z, n)) (a : Act) : NewAt Tryd.prog ⟨dst, .alloc t, ty, pos, after, gd⟩ a (.cells z.cells t (0, 0)) := fun u => by
  have hz := (zero_of_info h).1
  unfold execOp
  simp [Instr.alloc, hz, newVar, newRow]
end
end Go.Proofs.YtgiacilkecoenaaDoor
