/- Part of a proof. -/
import Derived.Test.YtabhhbdbkeeblaaDoorZi
import Derived.Lib.Slices
import Derived.Lib.SliceRun
import Derived.Lib.AppendZeros
namespace Go.Proofs.YtabhhbdbkeeblaaDoor
set_option maxRecDepth 8000
open Go.RowKit
section
variable {st e : TypeId} {z bytes : Nat} {zero : Value}
theorem run_cutX_lhm (T : ElemT st e z bytes zero) (A : Option Addr) (n c l h m : Nat) (w : World) (h1 : l ≤ h) (h2 : h ≤ m) (h3 : m ≤ c) :
    (Instr.sliceAt st (.slice A n c) (some (.int .i64 (l : Int))) (some (.int .i64 (h : Int))) (some (.int .i64 (m : Int)))).run Tryd.prog w = .ok (.slice (cutX z A l m) (h - l) (m - l)) w := by
  have ht' : Tryd.prog.underlying st = some (.slice (Tryd.prog.elem st)) := by rw [T.elem]; exact T.und
  rw [run_sliceAt_slice w _ _ _ _ _ ht', run_slice_lhm w st _ _ _ ht' .i64 .i64 .i64 _ _ _ (by omega) (by omega) (by omega) (by omega), T.elem, T.sizeOf]
  simp [Result.andThen, sliced, cutX]
variable {a : Act} {dst : Option Tmp} {x y l h q : Operand} {ty : TypeId} {pos : String} {after : Array Edge} {gd : Option (Nat × Bool)}
theorem cutXlhm_op (T : ElemT st e z bytes zero) {A : Option Addr} {n c i j m : Nat} (u : World) (h1 : i ≤ j) (h2 : j ≤ m) (h3 : m ≤ c) (hx : a.eval x = .slice A n c) (hl : a.eval l = .int .i64 (i : Int)) (hh : a.eval h = .int .i64 (j : Int)) (hq : a.eval q = .int .i64 (m : Int)) :
    (execOp a.eval ⟨dst, .slice st x (some l) (some h) (some q), ty, pos, after, gd⟩).run Tryd.prog u = .ok (.value (.slice (cutX z A i m) (j - i) (m - i))) u := by
  unfold execOp
  simp only [hx, hl, hh, hq, Option.map_some, Option.map_none, Sem.run_bind, Sem.run_pure, Result.andThen_ok, run_cutX_lhm T A n c i j m u h1 h2 h3]
theorem cutXlE_op (T : ElemT st e z bytes zero) {A B : Option Addr} {n c j m : Nat} (u : World) (h2 : j ≤ n) (he : cutX z A j c = B) (hm : n - j = m) (hx : a.eval x = .slice A n c) (hh : a.eval l = .int .i64 (j : Int)) :
    (execOp a.eval ⟨dst, .slice st x (some l) none none, ty, pos, after, gd⟩).run Tryd.prog u = .ok (.value (.slice B m (c - j))) u := by
  rw [← he, ← hm]
  exact cutXl_op T u h2 hx hh
theorem cutXlhE_op (T : ElemT st e z bytes zero) {A B : Option Addr} {n c i j len : Nat} (u : World) (h1 : i ≤ j) (h2 : j ≤ c) (hlen : j - i = len) (he : cutX z A i c = B) (hx : a.eval x = .slice A n c) (hl : a.eval l = .int .i64 (i : Int)) (hh : a.eval h = .int .i64 (j : Int)) :
    (execOp a.eval ⟨dst, .slice st x (some l) (some h) none, ty, pos, after, gd⟩).run Tryd.prog u = .ok (.value (.slice B len (c - i))) u := by
  rw [← he]
  exact cutXlh_op T u h1 h2 hlen hx hl hh
/-- what stands in a row that is its own, behind a turn -/
def RowIs (e : TypeId) (z g q cap : Nat) (xs : List Value) (M0 M' : Boxes) : Prop := ∃ cur, M' = (g, Obj.cells cur e (0, 0)) :: M0 ∧ cur.size = cap * z ∧ cur.toList.take (q * z) = xs
theorem appIn_op (T : ElemT st e z bytes zero) {w0 u : World} {M : Boxes} (M0 : Boxes) {g k m r cap c : Nat} {ad : Addr} {cur : Array Value} {xs ys : List Value}
    (hu : EnvX w0 u M) (hg : w0.heap.size ≤ g) (hm : (g, Obj.cells cur e (0, 0)) ∈ M) (hM0 : ∀ y ∈ M0, y ∈ M ∧ y.1 ≠ g) (hr : k + m = r) (hroom : r ≤ cap) (hsz : cur.size = cap * z) (hxs : cur.toList.take (k * z) = xs) (hy : ys.length = m * z) (h1 : ∀ v ∈ ys, v.oneCell' = true) (hc : SrcAt u ad ys) (hyv : a.eval y = .slice (some ⟨g, 0, none⟩) k cap) (hx : a.eval x = .slice (some ad) m c) :
    ∃ v' u' M', (execOp a.eval ⟨dst, .call { callee := .builtin .append, args := #[y, x], argTypes := #[st, st] }, st, pos, after, gd⟩).run Tryd.prog u = .ok (.value v') u' ∧ EnvX w0 u' M' ∧ (v' = .slice (some ⟨g, 0, none⟩) r cap ∧ RowIs e z g r cap (xs ++ ys) M0 M') := by
  subst hr hxs
  cases hq : Tryd.prog.info? e with
  | none => have := T.info; rw [hq] at this; cases this
  | some i =>
    have hi := T.info
    rw [hq] at hi
    simp only [Option.map_some, Option.some.injEq, Prod.mk.injEq] at hi
    obtain ⟨k1, k2, k3⟩ := hi
    have hle : k * z + m * z ≤ cap * z := by rw [← Nat.add_mul]; exact Nat.mul_le_mul_right _ hroom
    have hrun : ∀ ty, (Builtin.append_ #[st, st] ty #[.slice (some ⟨g, 0, none⟩) k cap, .slice (some ad) m c]).run Tryd.prog u = .ok (.slice (some ⟨g, 0, none⟩) (k + m) cap) (u.setRow g (cur.toList.take (k * z) ++ ys ++ cur.toList.drop (k * z + ys.length)).toArray) := fun ty => by
      have h := run_append_room (P := Tryd.prog) (w := u) st ty e i T.und hq g k cap cur (hu.box _ _ hm) ad m c ys (by rw [k2]; exact hy) hc h1 hroom (by rw [k2, hsz, hy]; exact hle)
      rw [k2] at h
      exact h
    have hlt : (cur.toList.take (k * z)).length = k * z := by rw [List.length_take, Array.length_toList, hsz]; omega
    refine ⟨.slice (some ⟨g, 0, none⟩) (k + m) cap, u.setRow g (cur.toList.take (k * z) ++ ys ++ cur.toList.drop (k * z + ys.length)).toArray, (g, Obj.cells (cur.toList.take (k * z) ++ ys ++ cur.toList.drop (k * z + ys.length)).toArray e (0, 0)) :: M0, ?_, hu.put (cs := (cur.toList.take (k * z) ++ ys ++ cur.toList.drop (k * z + ys.length)).toArray) hg hm (fun x hx => ?_), rfl, _, rfl, ?_, ?_⟩
    · unfold execOp
      simp only [resolve, invoke, builtin, Sem.run_bind, Sem.run_pure, Result.andThen_ok, List.map_toArray, List.map_cons, List.map_nil, hyv, hx, hrun]
    · rcases List.mem_cons.1 hx with h | h
      · exact .inl h
      · exact .inr (hM0 x h)
    · rw [List.size_toArray, List.length_append, List.length_append, List.length_drop, hlt, hy, Array.length_toList, hsz]
      omega
    · rw [show (k + m) * z = (cur.toList.take (k * z) ++ ys).length by rw [List.length_append, hlt, hy, Nat.add_mul]]
      exact List.take_left' rfl
theorem clearIn_op (T : ElemT st e z bytes zero) {w0 u : World} {M : Boxes} (M0 : Boxes) {g o n q cap c : Nat} {cur : Array Value} {xs : List Value}
    (hz : ∀ v ∈ zero.cells.toList, v.oneCell' = true) (hu : EnvX w0 u M) (hg : w0.heap.size ≤ g) (hm : (g, Obj.cells cur e (0, 0)) ∈ M) (hM0 : ∀ y ∈ M0, y ∈ M ∧ y.1 ≠ g) (hn : 0 < n) (ho : q * z = o) (hfit : o + n * z ≤ cap * z) (hsz : cur.size = cap * z) (hxs : cur.toList.take (q * z) = xs) (hx : a.eval x = .slice (some ⟨g, o, none⟩) n c) :
    ∃ v' u' M', (execOp a.eval ⟨dst, .call { callee := .builtin .clear, args := #[x], argTypes := #[st] }, ty, pos, after, gd⟩).run Tryd.prog u = .ok (.value v') u' ∧ EnvX w0 u' M' ∧ (v' = .tuple #[] ∧ RowIs e z g q cap xs M0 M') := by
  subst ho hxs
  obtain ⟨n, rfl⟩ : ∃ k, n = k + 1 := ⟨n - 1, by omega⟩
  have hzv : (zeroValue e).run Tryd.prog u = .ok zero u := by
    cases hq : Tryd.prog.info? e with
    | none => have := T.info; rw [hq] at this; cases this
    | some i =>
      have hi := T.info
      rw [hq] at hi
      simp only [Option.map_some, Option.some.injEq, Prod.mk.injEq] at hi
      simp [zeroValue, typeInfo, hq, hi.1]
  obtain ⟨zs, hzs⟩ : ∃ zs, (Builtin.zeroCells zero.cells (n + 1)).toList = zs := ⟨_, rfl⟩
  have hzl : zs.length = (n + 1) * z := by rw [← hzs]; simp [Builtin.zeroCells, T.zs]
  have hz1 : ∀ v ∈ zs, v.oneCell' = true := fun v hv => by
    rw [← hzs] at hv
    simp only [Builtin.zeroCells, Array.toList_map, List.mem_map] at hv
    obtain ⟨i, _, rfl⟩ := hv
    have hp := T.pos
    have hlt : i % zero.cells.size < zero.cells.size := Nat.mod_lt _ (by rw [T.zs]; exact hp)
    rw [getElem!_pos zero.cells _ hlt]
    exact hz _ (by simp)
  have hst := run_storeCells_at Tryd.prog g (q * z) e zs 0 cur u (hu.box _ _ hm) (by rw [hzl, hsz]; omega) hz1
  rw [Nat.add_zero] at hst
  have hrun : ∀ ty, (Builtin.clear_ #[st] ty #[.slice (some ⟨g, q * z, none⟩) (n + 1) c]).run Tryd.prog u = .ok (.tuple #[]) (u.setRow g (cur.toList.take (q * z) ++ zs ++ cur.toList.drop (q * z + zs.length)).toArray) := fun ty => by
    simp [Builtin.clear_, run_underlying T.und, hzv, hzs, hst]
  have hlt : (cur.toList.take (q * z)).length = q * z := by rw [List.length_take, Array.length_toList, hsz]; omega
  refine ⟨.tuple #[], u.setRow g (cur.toList.take (q * z) ++ zs ++ cur.toList.drop (q * z + zs.length)).toArray, (g, Obj.cells (cur.toList.take (q * z) ++ zs ++ cur.toList.drop (q * z + zs.length)).toArray e (0, 0)) :: M0, ?_, hu.put (cs := (cur.toList.take (q * z) ++ zs ++ cur.toList.drop (q * z + zs.length)).toArray) hg hm (fun x hx => ?_), rfl, _, rfl, ?_, ?_⟩
  · unfold execOp
    simp only [resolve, invoke, builtin, Sem.run_bind, Sem.run_pure, Result.andThen_ok, List.map_toArray, List.map_cons, List.map_nil, hx, hrun]
  · rcases List.mem_cons.1 hx with h | h
    · exact .inl h
    · exact .inr (hM0 x h)
  · rw [List.size_toArray, List.length_append, List.length_append, List.length_drop, hlt, hzl, Array.length_toList, hsz]
    omega
  · rw [List.append_assoc]
    exact List.take_left' hlt
end
theorem src_inC {w u : World} {ad : Addr} {ys : List Value} (h : CellsIn w w.heap.size (some ad) ys) (hb : Below w.heap.size w u) : SrcAt u ad ys := by
  intro j v hv
  have hp : 0 < ys.length := by
    rcases Nat.eq_zero_or_pos ys.length with h0 | h0
    · rw [List.eq_nil_of_length_eq_zero h0] at hv; simp at hv
    · exact h0
  obtain ⟨ad', e, hlt, hc⟩ := h hp
  obtain rfl := Option.some.inj e
  rw [hb.cell (by rw [block_of_add]; exact hlt)]
  exact hc j v hv
set_option maxRecDepth 20000 in
set_option maxHeartbeats 8000000 in
theorem psumP_any (p : List CoinR) (A : Option Addr) (n c : Nat) (w : World) (hl : p.length = n) (hnc : n ≤ c) (hcm : c ≤ maxLen) (hI : okP p) (hA : CoinsIn w w.heap.size A p) :
    Calls Tryd.prog 22 #[.slice A n c] w fun e w' => e = .returned (.int .i64 (sumP p)) ∧ Below w.heap.size w w' := by
  have HL := Lib.hid hl
  have HPP := Lib.hid hI
  have HAA := Lib.hid hA
  have HN63 : Hid (n < 9223372036854775808) := by show _ < _; unfold maxLen at hcm; omega
  obtain ⟨bm, hbm⟩ : ∃ bm, mayP p = bm := ⟨_, rfl⟩
  have HBM := Lib.hid hbm
  have HMY : Hid (∀ u, Below w.heap.size w u → Calls Tryd.prog 20 #[.slice A n c] u fun e w' => e = .returned (.bool bm) ∧ Below u.heap.size u w') := fun u hu => by
    have h := pmayP_any p A n c u hl hnc hcm hI (CellsIn.up hA hu)
    rwa [hbm] at h
  have E1 : Hid (EnvX w w []) := EnvX.start w
  clear hl hnc hcm hI hA hbm
  cases bm with
  | false =>
    have HF : Hid (sumP p = 0) := by show _ = _; unfold sumP; rw [if_neg (by rw [HBM.out]; decide)]
    go_enter Tryd.func22, Tryd.ntmps22
    go_upto_region 1 with (fail)
    refine wp_region_Hx (w0 := w) [0, 1, 2] [] rfl E1.out ?_
    refine lexH_phase [0, 1, 2] [] ?_
    have hw1 : EnvX w _ [] := E1.out
    have hone := @EnvC.one _ _ _ hw1
    (refine wpG_op rfl rfl rfl ?_; intro K hK; go_big_quiet_op; go_big_quiet_on)
    (refine wpG_call (f := 20) (args := #[.slice A n c]) (v := .bool false) rfl rfl rfl Tryd.func20 rfl rfl (fun u hu => HMY.out u (EnvX.bel hu)) ?_ hw1; intro K hK; go_big_quiet_op; go_big_quiet_on)
    (refine wpG_op rfl rfl rfl ?_; intro K hK; go_big_quiet_op; go_big_quiet_on)
    clear hone hw1
    refine wpG_nil ?_
    intro u3 E2'
    have EX2 := Lib.hid E2'
    clear E2'
    go_upto_region 2 with (fail)
    refine wp_region_Hx (w0 := w) [0] [] rfl EX2.out ?_
    refine lexH_phase [0] [] ?_
    have hw4 : EnvX w _ [] := EX2.out
    have hone := @EnvC.one _ _ _ hw4
    (refine wpG_op rfl rfl rfl ?_; intro K hK; go_big_quiet_op; go_big_quiet_on)
    clear hone hw4
    refine wpG_nil ?_
    intro u6 E2'
    have EX5 := Lib.hid E2'
    clear E2'
    have HBE := Lib.hid (EnvX.bel EX5.out)
    go_wp2
    go_ret
    exact ⟨by rw [HF.out]; first | done | rfl, HBE.out⟩
  | true =>
    have HF : Hid (sumP p = sumV p) := sumP_may HBM.out
    have HBD := Lib.hid (mayP_iff.1 HBM.out).2.1
    have HN48 : Hid (n ≤ 48) := by show _ ≤ _; rw [← HL.out]; exact (mayP_iff.1 HBM.out).1
    go_enter Tryd.func22, Tryd.ntmps22
    go_upto_region 1 with (fail)
    refine wp_region_Hx (w0 := w) [0, 1, 2] [] rfl E1.out ?_
    refine lexH_phase [0, 1, 2] [] ?_
    have hw1 : EnvX w _ [] := E1.out
    have hone := @EnvC.one _ _ _ hw1
    (refine wpG_op rfl rfl rfl ?_; intro K hK; go_big_quiet_op; go_big_quiet_on)
    (refine wpG_call (f := 20) (args := #[.slice A n c]) (v := .bool true) rfl rfl rfl Tryd.func20 rfl rfl (fun u hu => HMY.out u (EnvX.bel hu)) ?_ hw1; intro K hK; go_big_quiet_op; go_big_quiet_on)
    (refine wpG_op rfl rfl rfl ?_; intro K hK; go_big_quiet_op; go_big_quiet_on)
    clear hone hw1
    refine wpG_nil ?_
    intro u3 E2'
    have EX2 := Lib.hid E2'
    clear E2'
    go_upto_region 3 with (fail)
    refine wp_region_Hx (w0 := w) [0] [] rfl EX2.out ?_
    refine lexH_phase [0] [] ?_
    have hw4 : EnvX w _ [] := EX2.out
    have hone := @EnvC.one _ _ _ hw4
    (refine wpG_op rfl rfl rfl ?_; intro K hK; go_big_quiet_op; go_big_quiet_on)
    clear hone hw4
    refine wpG_nil ?_
    intro u6 E2'
    have EX5 := Lib.hid E2'
    clear E2'
    go_upto_region 4 with (fail)
    refine wp_region_Hx (w0 := w) [0, 1, 2] [] rfl EX5.out ?_
    refine lexH_phase [0, 1, 2] [] ?_
    have hw7 : EnvX w _ [] := EX5.out
    have hone := @EnvC.one _ _ _ hw7
    (refine wpG_op rfl rfl rfl ?_; intro K hK; go_big_quiet_op; go_big_quiet_on)
    (refine wpG_val (v := .int .i64 (n : Int)) rfl rfl (fun u hu => len_op Tryd.underlying22 HN63.out u rfl) ?_ hw7; intro K hK; go_big_quiet_op; go_big_quiet_on)
    (refine wpG_op rfl rfl rfl ?_; intro K hK; go_big_quiet_op; go_big_quiet_on)
    clear hone hw7
    refine wpG_nil ?_
    intro u9 E2'
    have EX8 := Lib.hid E2'
    clear E2'
    have EJ := Lib.hid EX8.out
    clear EX8 E1
    go_upto_region 5 with (fail)
    go_loopw [3, 11] (fun sv iv u => ∃ i : Nat, i ≤ n ∧ iv = .int .i64 (i : Int) ∧ sv = .int .i64 (sumV (p.take i)) ∧ Hid (EnvX w u [])) (fun _ iv _ => n - (intOf iv).toNat)
    case atStart => exact ⟨0, by omega, rfl, rfl, EJ.out⟩
    case round =>
      obtain ⟨i, hi, rfl, rfl, hinv⟩ := hrel
      have EK := Lib.hid hinv.out
      clear hinv EJ
      by_cases hlt : i < n
      · have C4 : Hid (decide ((i : Int) < (n : Int)) = true) := decide_eq_true (by omega)
        have HI := Lib.hid hlt
        have hil : i < p.length := by rw [HL.out]; exact hlt
        have HIL := Lib.hid hil
        obtain ⟨ad, rfl, -, hld⟩ := HAA.out.loads HPP.out hil
        have HLD := Lib.hid hld
        have HY : Hid (lenC (p.getD i noC0)) := (getP HPP.out hil).len
        obtain ⟨y, hy⟩ : ∃ y, p.getD i noC0 = y := ⟨_, rfl⟩
        have HYE := Lib.hid hy
        rw [hy] at HLD HY
        have hst := sumV_step noC0 hil
        have hbs := sumV_bound (p := p.take i) (fun c hc => HBD.out c (List.mem_of_mem_take hc))
        rw [List.length_take, Nat.min_eq_left (by omega)] at hbs
        have hby := bound_v2 (HBD.out (p.getD i noC0) (by rw [List.getD_eq_getElem?_getD, List.getElem?_eq_getElem hil]; exact List.getElem_mem hil))
        rw [hy] at hst hby
        have hn48 := HN48.out
        have HADD : Hid (IntKind.i64.wrap (sumV (p.take i) + y.v) = sumV (p.take (i + 1))) := by show _ = _; rw [hst, wrapS (by omega)]
        clear hld hil hlt hy hst hbs hby hn48
        generalize sumV (p.take i) = s0 at *
        obtain ⟨s1, hs1⟩ : ∃ s1, sumV (p.take (i + 1)) = s1 := ⟨_, rfl⟩
        rw [hs1] at HADD
        have HS1 := Lib.hid hs1
        clear hs1
        go_upto_region 5 with (fail)
        refine wp_region_Hx (w0 := w) [0] [] rfl EK.out ?_
        refine lexH_phase [0] [] ?_
        have hw101 : EnvX w _ [] := EK.out
        have hone := @EnvC.one _ _ _ hw101
        (refine wpG_val (v := .bool true) rfl rfl (fun u hu => ltZ_op u C4.out rfl rfl) ?_ hw101; intro K hK; go_big_quiet_op; go_big_quiet_on)
        clear hone hw101
        refine wpG_nil ?_
        intro u103 E2'
        have EX102 := Lib.hid E2'
        clear E2'
        go_upto_region 6 with (fail)
        refine wp_region_Hx (w0 := w) [0, 1, 2, 3] [] rfl EX102.out ?_
        refine lexH_phase [0, 1] [2, 3] ?_
        have hw104 : EnvX w _ [] := EX102.out
        have hone := @EnvC.one _ _ _ hw104
        (refine wpG_val (v := .pointer (some (ad.add (i * 35)))) rfl rfl (fun u hu => idxSl_op (i := i) Tryd.underlying22 aggCo.size HI.out u rfl rfl) ?_ hw104; intro K hK; go_big_quiet_op; go_big_quiet_on)
        (refine wpG_val (v := coV y) rfl rfl (fun u hu => load_any_op u (HLD.out u (EnvX.sub hu (fun _ h => by cases h))).1 rfl) ?_ hw104; intro K hK; go_big_quiet_op; go_big_quiet_on)
        clear hone hw104
        refine wpG_nil ?_
        refine (hOp_fresh (R := fun x N => ∃ g, x = .pointer (some ⟨g, 0, none⟩) ∧ N = [(g, Obj.cells (coA noC0) 50 (0, 0))]) (M0 := []) rfl rfl (fun _ h => h) (fun u hu => FAt_new (new_co _) u) ?_)
        rintro _ _ ⟨gc, rfl, rfl⟩ hf he105; intro K' hK'; go_big_quiet_op; go_big_quiet_on
        have HG6 := Lib.hid (hf _ (List.mem_singleton.2 rfl))
        clear hf
        change lexH _ _ _ _ _ _ [(gc, Obj.cells (coA noC0) 50 (0, 0))]
        refine (hOp_store rfl (gc) (coA y) rfl rfl HG6.out.1 50 ((coA noC0)) (List.Mem.head _) (infoCo _ (coA_size HY.out)) ((coA_size' (Nat.zero_le _)).trans (coA_size HY.out).symm) (coA_one _) [(gc, Obj.cells (coA y) 50 (0, 0))] (List.forall_mem_cons.2 ⟨.inl rfl, fun y hy => .inr ⟨List.mem_cons_of_mem _ hy, HG6.out.2 y hy⟩⟩) ?_)
        intro he106
        intro u108 E2'
        have EX107 := Lib.hid E2'
        clear E2'
        go_upto_region 7 with (fail)
        refine wp_region_Hx (w0 := w) [0, 1, 2, 3, 4, 5] [(gc, Obj.cells (coA y) 50 (0, 0))] rfl EX107.out ?_
        refine lexH_phase [0, 1, 2, 3, 4, 5] [] ?_
        have hw109 : EnvX w _ [(gc, Obj.cells (coA y) 50 (0, 0))] := EX107.out
        have hone := @EnvC.one _ _ _ hw109
        (refine wpG_op rfl rfl rfl ?_; intro K hK; go_big_quiet_op; go_big_quiet_on)
        (refine wpG_val (v := .pointer (some ⟨gc, 33, none⟩)) rfl rfl (fun u hu => fieldCo_op (k := 1) (off := 33) (ad := ⟨gc, 0, none⟩) rfl u rfl) ?_ hw109; intro K hK; go_big_quiet_op; go_big_quiet_on)
        (refine wpG_val (v := .pointer (some ⟨gc, 33, none⟩)) rfl rfl (fun u hu => fieldOut_op (k := 0) (off := 0) (ad := ⟨gc, 33, none⟩) rfl u rfl) ?_ hw109; intro K hK; go_big_quiet_op; go_big_quiet_on)
        (refine wpG_val (v := .int .i64 y.v) rfl rfl (fun u hu => load_any_op u (box_co_v hu (List.Mem.head _) HY.out) rfl) ?_ hw109; intro K hK; go_big_quiet_op; go_big_quiet_on)
        (refine wpG_val (v := .int .i64 s1) rfl rfl (fun u hu => addZ_op u HADD.out rfl rfl) ?_ hw109; intro K hK; go_big_quiet_op; go_big_quiet_on)
        (refine wpG_op rfl rfl rfl ?_; intro K hK; go_big_quiet_op; go_big_quiet_on)
        clear hone hw109
        refine wpG_nil ?_
        intro u111 E2'
        have EX110 := Lib.hid E2'
        clear E2'
        have hii := HI.out
        have hn := HN63.out
        go_wp2
        go_roundw
        case rel => exact ⟨i + 1, by omega, by go_num, by rw [HS1.out], EX110.out.sub (fun _ h => by cases h)⟩
        case measure => simp [intOf]; omega
      · obtain rfl : i = n := by omega
        have C4 : Hid (decide ((i : Int) < (i : Int)) = false) := decide_eq_false (by omega)
        have HT : Hid (p.take i = p) := List.take_of_length_le (by rw [HL.out]; exact Nat.le_refl _)
        rw [HT.out]
        go_upto_region 5 with (fail)
        refine wp_region_Hx (w0 := w) [0] [] rfl EK.out ?_
        refine lexH_phase [0] [] ?_
        have hw201 : EnvX w _ [] := EK.out
        have hone := @EnvC.one _ _ _ hw201
        (refine wpG_val (v := .bool false) rfl rfl (fun u hu => ltZ_op u C4.out rfl rfl) ?_ hw201; intro K hK; go_big_quiet_op; go_big_quiet_on)
        clear hone hw201
        refine wpG_nil ?_
        intro u203 E2'
        have EX202 := Lib.hid E2'
        clear E2'
        go_upto_region 9 with (fail)
        refine wp_region_Hx (w0 := w) [0, 1] [] rfl EX202.out ?_
        refine lexH_phase [0, 1] [] ?_
        have hw204 : EnvX w _ [] := EX202.out
        have hone := @EnvC.one _ _ _ hw204
        iterate 2 (refine wpG_op rfl rfl rfl ?_; intro K hK; go_big_quiet_op; go_big_quiet_on)
        clear hone hw204
        refine wpG_nil ?_
        intro u206 E2'
        have EX205 := Lib.hid E2'
        clear E2'
        have HBE := Lib.hid (EnvX.bel EX205.out)
        go_wp2
        go_ret
        exact ⟨by rw [HF.out]; first | done | rfl, HBE.out⟩
set_option maxRecDepth 20000 in
set_option maxHeartbeats 8000000 in
theorem pworth_any (l : List OutR) (A : Option Addr) (n c : Nat) (w : World) (hl : l.length = n) (hn : n ≤ 1000) (hA : OutsIn w w.heap.size A l) (hm : ∀ o ∈ l, mayOut o = true) :
    Calls Tryd.prog 57 #[.slice A n c] w fun e w' => e = .returned (.int .i64 (worthL l)) ∧ Below w.heap.size w w' := by
  have HL := Lib.hid hl
  have HN : Hid (n ≤ 1000) := hn
  have HN63 : Hid (n < 9223372036854775808) := by show _ < _; omega
  have HAA := Lib.hid hA
  have HMO := Lib.hid hm
  have E1 : Hid (EnvX w w []) := EnvX.start w
  clear hl hn hA hm
  go_enter Tryd.func57, Tryd.ntmps57
  go_upto_region 1 with (fail)
  refine wp_region_Hx (w0 := w) [0] [] rfl E1.out ?_
  refine lexH_phase [0] [] ?_
  have hw1 : EnvX w _ [] := E1.out
  have hone := @EnvC.one _ _ _ hw1
  (refine wpG_op rfl rfl rfl ?_; intro K hK; go_big_quiet_op; go_big_quiet_on)
  clear hone hw1
  refine wpG_nil ?_
  intro u3 E2'
  have EX2 := Lib.hid E2'
  clear E2'
  go_upto_region 2 with (fail)
  refine wp_region_Hx (w0 := w) [0, 1, 2] [] rfl EX2.out ?_
  refine lexH_phase [0, 1, 2] [] ?_
  have hw4 : EnvX w _ [] := EX2.out
  have hone := @EnvC.one _ _ _ hw4
  (refine wpG_op rfl rfl rfl ?_; intro K hK; go_big_quiet_op; go_big_quiet_on)
  (refine wpG_val (v := .int .i64 (n : Int)) rfl rfl (fun u hu => len_op Tryd.underlying24 HN63.out u rfl) ?_ hw4; intro K hK; go_big_quiet_op; go_big_quiet_on)
  (refine wpG_op rfl rfl rfl ?_; intro K hK; go_big_quiet_op; go_big_quiet_on)
  clear hone hw4
  refine wpG_nil ?_
  intro u6 E2'
  have EX5 := Lib.hid E2'
  clear E2'
  have EJ := Lib.hid EX5.out
  clear EX5 E1
  go_upto_region 3 with (fail)
  go_loopw [3, 8] (fun sv iv u => ∃ i : Nat, i ≤ n ∧ iv = .int .i64 (i : Int) ∧ sv = .int .i64 (worthL (l.take i)) ∧ Hid (EnvX w u [])) (fun _ iv _ => n - (intOf iv).toNat)
  case atStart => exact ⟨0, by omega, rfl, rfl, EJ.out⟩
  case round =>
    obtain ⟨i, hi, rfl, rfl, hinv⟩ := hrel
    have EK := Lib.hid hinv.out
    clear hinv EJ
    by_cases hlt : i < n
    · have C4 : Hid (decide ((i : Int) < (n : Int)) = true) := decide_eq_true (by omega)
      have HI := Lib.hid hlt
      have hil : i < l.length := by rw [HL.out]; exact hlt
      obtain ⟨ad, rfl, -, hld⟩ := HAA.out.loads hil
      have HLD := Lib.hid hld
      have hst := worthL_step noOut hil
      have hbs := worthL_bound (l := l.take i) (fun o ho => HMO.out o (List.mem_of_mem_take ho))
      rw [List.length_take, Nat.min_eq_left (by omega)] at hbs
      have hby := outV_bound (HMO.out (l.getD i noOut) (by rw [List.getD_eq_getElem?_getD, List.getElem?_eq_getElem hil]; exact List.getElem_mem hil))
      obtain ⟨y, hy⟩ : ∃ y, l.getD i noOut = y := ⟨_, rfl⟩
      rw [hy] at HLD hst hby
      have hn3 := HN.out
      have HADD : Hid (IntKind.i64.wrap (worthL (l.take i) + y.v) = worthL (l.take (i + 1))) := by show _ = _; rw [hst, wrapS (by omega)]
      clear hld hil hlt hy hst hbs hby hn3
      generalize worthL (l.take i) = s0 at *
      obtain ⟨s1, hs1⟩ : ∃ s1, worthL (l.take (i + 1)) = s1 := ⟨_, rfl⟩
      rw [hs1] at HADD
      have HS1 := Lib.hid hs1
      clear hs1
      go_upto_region 3 with (fail)
      refine wp_region_Hx (w0 := w) [0] [] rfl EK.out ?_
      refine lexH_phase [0] [] ?_
      have hw101 : EnvX w _ [] := EK.out
      have hone := @EnvC.one _ _ _ hw101
      (refine wpG_val (v := .bool true) rfl rfl (fun u hu => ltZ_op u C4.out rfl rfl) ?_ hw101; intro K hK; go_big_quiet_op; go_big_quiet_on)
      clear hone hw101
      refine wpG_nil ?_
      intro u103 E2'
      have EX102 := Lib.hid E2'
      clear E2'
      go_upto_region 4 with (fail)
      refine wp_region_Hx (w0 := w) [0, 1, 2, 3] [] rfl EX102.out ?_
      refine lexH_phase [0, 1] [2, 3] ?_
      have hw104 : EnvX w _ [] := EX102.out
      have hone := @EnvC.one _ _ _ hw104
      (refine wpG_val (v := .pointer (some (ad.add (i * 2)))) rfl rfl (fun u hu => idxSl_op (i := i) Tryd.underlying24 aggOut.size HI.out u rfl rfl) ?_ hw104; intro K hK; go_big_quiet_op; go_big_quiet_on)
      (refine wpG_val (v := outV y) rfl rfl (fun u hu => load_any_op u (HLD.out u (EnvX.sub hu (fun _ h => by cases h))).1 rfl) ?_ hw104; intro K hK; go_big_quiet_op; go_big_quiet_on)
      clear hone hw104
      refine wpG_nil ?_
      refine (hOp_fresh (R := fun x N => ∃ g, x = .pointer (some ⟨g, 0, none⟩) ∧ N = [(g, Obj.cells (outA noOut) 48 (0, 0))]) (M0 := []) rfl rfl (fun _ h => h) (fun u hu => FAt_new (new_out _) u) ?_)
      rintro _ _ ⟨gc, rfl, rfl⟩ hf he105; intro K' hK'; go_big_quiet_op; go_big_quiet_on
      have HG6 := Lib.hid (hf _ (List.mem_singleton.2 rfl))
      clear hf
      change lexH _ _ _ _ _ _ [(gc, Obj.cells (outA noOut) 48 (0, 0))]
      refine (hOp_store rfl (gc) (outA y) rfl rfl HG6.out.1 48 ((outA noOut)) (List.Mem.head _) (infoOut _ (outA_size _)) ((outA_size _).trans (outA_size _).symm) (outA_one _) [(gc, Obj.cells (outA y) 48 (0, 0))] (List.forall_mem_cons.2 ⟨.inl rfl, fun y hy => .inr ⟨List.mem_cons_of_mem _ hy, HG6.out.2 y hy⟩⟩) ?_)
      intro he106
      intro u108 E2'
      have EX107 := Lib.hid E2'
      clear E2'
      go_upto_region 5 with (fail)
      refine wp_region_Hx (w0 := w) [0, 1, 2, 3, 4] [(gc, Obj.cells (outA y) 48 (0, 0))] rfl EX107.out ?_
      refine lexH_phase [0, 1, 2, 3, 4] [] ?_
      have hw109 : EnvX w _ [(gc, Obj.cells (outA y) 48 (0, 0))] := EX107.out
      have hone := @EnvC.one _ _ _ hw109
      (refine wpG_op rfl rfl rfl ?_; intro K hK; go_big_quiet_op; go_big_quiet_on)
      (refine wpG_val (v := .pointer (some ⟨gc, 0, none⟩)) rfl rfl (fun u hu => fieldOut_op (k := 0) (off := 0) (ad := ⟨gc, 0, none⟩) rfl u rfl) ?_ hw109; intro K hK; go_big_quiet_op; go_big_quiet_on)
      (refine wpG_val (v := .int .i64 y.v) rfl rfl (fun u hu => load_any_op u (box_out_v hu (List.Mem.head _)) rfl) ?_ hw109; intro K hK; go_big_quiet_op; go_big_quiet_on)
      (refine wpG_val (v := .int .i64 s1) rfl rfl (fun u hu => addZ_op u HADD.out rfl rfl) ?_ hw109; intro K hK; go_big_quiet_op; go_big_quiet_on)
      (refine wpG_op rfl rfl rfl ?_; intro K hK; go_big_quiet_op; go_big_quiet_on)
      clear hone hw109
      refine wpG_nil ?_
      intro u111 E2'
      have EX110 := Lib.hid E2'
      clear E2'
      have hii := HI.out
      have hn := HN63.out
      go_wp2
      go_roundw
      case rel => exact ⟨i + 1, by omega, by go_num, by rw [HS1.out], EX110.out.sub (fun _ h => by cases h)⟩
      case measure => simp [intOf]; omega
    · obtain rfl : i = n := by omega
      have C4 : Hid (decide ((i : Int) < (i : Int)) = false) := decide_eq_false (by omega)
      have HT : Hid (l.take i = l) := List.take_of_length_le (by rw [HL.out]; exact Nat.le_refl _)
      rw [HT.out]
      go_upto_region 3 with (fail)
      refine wp_region_Hx (w0 := w) [0] [] rfl EK.out ?_
      refine lexH_phase [0] [] ?_
      have hw201 : EnvX w _ [] := EK.out
      have hone := @EnvC.one _ _ _ hw201
      (refine wpG_val (v := .bool false) rfl rfl (fun u hu => ltZ_op u C4.out rfl rfl) ?_ hw201; intro K hK; go_big_quiet_op; go_big_quiet_on)
      clear hone hw201
      refine wpG_nil ?_
      intro u203 E2'
      have EX202 := Lib.hid E2'
      clear E2'
      go_upto_region 7 with (fail)
      refine wp_region_Hx (w0 := w) [0, 1] [] rfl EX202.out ?_
      refine lexH_phase [0, 1] [] ?_
      have hw204 : EnvX w _ [] := EX202.out
      have hone := @EnvC.one _ _ _ hw204
      iterate 2 (refine wpG_op rfl rfl rfl ?_; intro K hK; go_big_quiet_op; go_big_quiet_on)
      clear hone hw204
      refine wpG_nil ?_
      intro u206 E2'
      have EX205 := Lib.hid E2'
      clear E2'
      have HBE := Lib.hid (EnvX.bel EX205.out)
      go_wp2
      go_ret
      exact ⟨rfl, HBE.out⟩
section
variable {a : Act} {dst : Option Tmp} {ty : TypeId} {pos : String} {after : Array Edge} {gd : Option (Nat × Bool)}
theorem FAt_cos0 (u : World) : FAt Tryd.prog ⟨dst, .buildSlice 22 0 #[], ty, pos, after, gd⟩ a (fun v N => ∃ g, v = .slice (some ⟨g, 0, none⟩) 0 0 ∧ N = [(g, Obj.cells #[] 50 (0, 0))]) u := by
  have h : (execOp a.eval ⟨dst, .buildSlice 22 0 #[], ty, pos, after, gd⟩).run Tryd.prog u = .ok (.value (.slice (some ⟨u.heap.size, 0, none⟩) 0 0)) (u.alloc (.cells #[] 50)) := by
    unfold execOp
    go_simp
  unfold FAt
  rw [h]
  refine ⟨(Below.refl _ _).alloc (Nat.le_refl _) _, _, ⟨_, rfl, rfl⟩, fun y hy => ?_⟩
  cases List.mem_singleton.1 hy
  exact ⟨Nat.le_refl _, heap_alloc_new u _⟩
end
set_option maxRecDepth 20000 in
set_option maxHeartbeats 8000000 in
theorem pclone_any (p : List CoinR) (A : Option Addr) (n c : Nat) (w : World) (hl : p.length = n) (hn : n ≤ 1000000) (hI : okP p) (hA : CoinsIn w w.heap.size A p) :
    Calls Tryd.prog 26 #[.slice A n c] w fun e w' => (∃ v, e = .returned v ∧ w'.ownsRow w.heap.size 50 35 v n (p.map coC).flatten) ∧ Below w.heap.size w w' := by
  have HPL : Hid ((p.map coC).flatten.length = n * 35) := by show _ = _; rw [flat35 hI.lens, hl]
  have HNB : Hid (n ≤ 1000000) := hn
  have E1 : Hid (EnvX w w []) := EnvX.start w
  have q22 : ∀ (w : World) (a : Option Addr) (n c n' c' : Nat), (binOp .eql 22 (.slice a n c) (.slice none n' c')).run Tryd.prog w = .ok (.bool a.isNone) w := fun w a n c n' c' => Lib.run_eql_slice_nil w _ _ a n c n' c' Tryd.underlying22
  cases A with
  | none =>
    obtain rfl : p = [] := by
      refine List.eq_nil_of_length_eq_zero (Nat.eq_zero_of_not_pos fun hp => ?_)
      obtain ⟨ad, e, _⟩ := CoinsIn.loads hA hI (k := 0) hp
      cases e
    subst hl
    clear hI hA HPL
    go_enter Tryd.func26, Tryd.ntmps26
    go_wp2
    go_ret
    exact ⟨⟨_, rfl, World.ownsRow_nil _ _ _ _⟩, Below.refl _ _⟩
  | some ad =>
    have HA : Hid (CellsIn w w.heap.size (some ad) (p.map coC).flatten) := hA
    clear hI hA hl
    go_enter Tryd.func26, Tryd.ntmps26
    go_upto_region 3 with (fail)
    refine wp_region_Hx (w0 := w) [0, 1, 2, 3] [] rfl E1.out ?_
    refine (hOp_fresh (R := fun v N => ∃ g, v = .slice (some ⟨g, 0, none⟩) 0 0 ∧ N = [(g, Obj.cells #[] 50 (0, 0))]) (M0 := []) rfl rfl (fun _ h => h) (fun u hu => FAt_cos0 u) ?_)
    rintro _ _ ⟨g0, rfl, rfl⟩ hf he1; intro K' hK'; go_big_quiet_op; go_big_quiet_on
    have HG0 := Lib.hid (hf _ (List.mem_singleton.2 rfl))
    clear hf
    change lexH _ _ _ _ _ _ [(g0, Obj.cells #[] 50 (0, 0))]
    refine lexH_phase [1] [2, 3] ?_
    have hw2 : EnvX w _ [(g0, Obj.cells #[] 50 (0, 0))] := he1.choose_spec
    have hone := @EnvC.one _ _ _ hw2
    (refine wpG_op rfl rfl rfl ?_; intro K hK; go_big_quiet_op; go_big_quiet_on)
    clear hone hw2
    refine wpG_nil ?_
    refine (hOp_own (gd := none) (R := GrownR w 50 35 (0 + n) ([] ++ (p.map coC).flatten) []) rfl rfl rfl rfl (fun u hu => appX_op elCo (n := 0) (m := n) (xs := []) [] hu rfl HPL.out (coins_one p) (.inl ⟨g0, 0, #[], rfl, rfl, Nat.le_refl _, Nat.zero_le _, rfl, rfl⟩) (List.forall_mem_cons.2 ⟨⟨(List.Mem.head _), HG0.out.1⟩, fun _ h => by cases h⟩) (src_inC HA.out (EnvX.bel hu)) (fun _ h => by cases h) (by have := HNB.out; omega) rfl rfl) ?_)
    rintro x1 M' ⟨N2, rfl, hF2, hn2⟩ he3; intro K' hK'; go_big_quiet_op; go_big_quiet_on
    have HF2 := Lib.hid (And.intro hF2 hn2)
    clear hF2 hn2
    change lexH _ _ _ _ _ _ (N2 ++ [])
    refine lexH_phase [3] [] ?_
    have hw4 : EnvX w _ (N2 ++ []) := he3.choose_spec
    have hone := @EnvC.one _ _ _ hw4
    (refine wpG_op rfl rfl rfl ?_; intro K hK; go_big_quiet_op; go_big_quiet_on)
    clear hone hw4
    refine wpG_nil ?_
    intro u6 E2'
    have EX5 := Lib.hid E2'
    clear E2'
    go_wp2
    go_ret
    refine ⟨⟨_, rfl, ?_⟩, EnvX.bel EX5.out⟩
    have h := HF2.out.1
    rw [List.nil_append, Nat.zero_add] at h
    exact h.own HPL.out (fun y hy => ⟨(HF2.out.2 y hy).1, EnvX.box EX5.out _ _ (List.mem_append_left _ hy)⟩)
set_option maxRecDepth 20000 in
set_option maxHeartbeats 8000000 in
theorem pdelete_any (l : List CoinR) (q k g cap : Nat) (cur : Array Value) (w0 w : World) (M0 : Boxes) (hl : l.length = q + 1) (hk : k ≤ q) (hn : q ≤ 1000000) (hI : okP l) (hg : w0.heap.size ≤ g) (hE : EnvX w0 w ((g, Obj.cells cur 50 (0, 0)) :: M0)) (hM0 : ∀ y ∈ M0, y.1 ≠ g) (hc : q + 1 ≤ cap) (hcm : cap ≤ maxLen) (hsz : cur.size = cap * 35) (hxs : cur.toList.take ((q + 1) * 35) = (l.map coC).flatten) :
    Calls Tryd.prog 71 #[.slice (some ⟨g, 0, none⟩) (q + 1) cap, .int .i64 (k : Int), .int .i64 ((k + 1 : Nat) : Int)] w fun e w'' => ∃ x M', e = .returned x ∧ EnvX w0 w'' M' ∧ GrownR w0 50 35 q ((l.take k ++ l.drop (k + 1)).map coC).flatten M0 x M' := by
  have HN63 : Hid (q + 1 < 9223372036854775808) := by show _ < _; omega
  have HQ63 : Hid (q < 9223372036854775808) := by show _ < _; omega
  have HG := Lib.hid hg
  have E1 := Lib.hid hE
  have HM0 : Hid (∀ y ∈ M0, y.1 ≠ g) := hM0
  have HC := Lib.hid hc
  have HCM := Lib.hid hcm
  have HSZ := Lib.hid hsz
  have HK := Lib.hid hk
  have HKN : Hid (decide ((k : Int) = ((k + 1 : Nat) : Int)) = false) := decide_eq_false (by omega)
  have HXT : Hid (cur.toList.take (k * 35) = ((l.take k).map coC).flatten) := by
    show _ = _
    have h1 := (rowsCo hI.lens).flat_take k
    rw [← List.map_take] at h1
    rw [h1, ← hxs, List.take_take, Nat.min_eq_left (by omega)]
  have hlen : ((l.drop (k + 1)).map coC).flatten.length = (q - k) * 35 := by rw [flat35 (fun c hc => hI.lens c (List.mem_of_mem_drop hc)), List.length_drop, hl]; omega
  have HYL : Hid (((l.drop (k + 1)).map coC).flatten.length = (q + 1 - (k + 1)) * 35) := by show _ = _; rw [hlen]; congr 1; omega
  have HRR : Hid (k + (q + 1 - (k + 1)) = q) := by show _ = _; omega
  obtain ⟨ad, had, hsrc⟩ : ∃ ad, cutX 35 (some ⟨g, 0, none⟩) (k + 1) cap = some ad ∧ ∀ u, EnvC w0 ((g, Obj.cells cur 50 (0, 0)) :: M0) u → SrcAt u ad ((l.drop (k + 1)).map coC).flatten := by
    unfold cutX
    by_cases hcc : cap = k + 1
    · rw [if_pos hcc]
      refine ⟨_, rfl, fun u _ j v hv => ?_⟩
      have h0 : ((l.drop (k + 1)).map coC).flatten = [] := List.eq_nil_of_length_eq_zero (by rw [hlen]; omega)
      rw [h0] at hv
      simp at hv
    · rw [if_neg hcc]
      refine ⟨_, rfl, fun u hu => ?_⟩
      show SrcAt u ((⟨g, 0, none⟩ : Addr).add ((k + 1) * 35)) _
      rw [Addr.add_mid]
      refine src_box hu (List.Mem.head _) ?_
      rw [hlen, Nat.zero_add]
      have h1 := (rowsCo hI.lens).flat_drop (k + 1)
      rw [← List.map_drop, ← hxs, List.drop_take] at h1
      rw [h1]
      congr 1
      omega
  have HAD := Lib.hid had
  have HSRC := Lib.hid hsrc
  have HAQ : Hid (cutX 35 (some ⟨g, 0, none⟩) q cap = some ⟨g, q * 35, none⟩) := by
    show _ = _
    unfold cutX
    rw [if_neg (by omega)]
    simp only [Option.map_some, Addr.add_mid, Nat.zero_add]
  have hres : ((l.take k ++ l.drop (k + 1)).map coC).flatten = ((l.take k).map coC).flatten ++ ((l.drop (k + 1)).map coC).flatten := by rw [List.map_append, List.flatten_append]
  rw [hres]
  generalize ((l.take k).map coC).flatten = xs at *
  have HON := Lib.hid (coins_one (l.drop (k + 1)))
  generalize ((l.drop (k + 1)).map coC).flatten = ys at *
  clear hl hk hn hI hg hE hM0 hc hcm hsz hxs hlen had hsrc hres
  go_enter Tryd.func71, Tryd.ntmps71
  go_upto_region 1 with (fail)
  refine wp_region_Hx (w0 := w0) [0, 1, 2, 3, 4, 5] ((g, Obj.cells cur 50 (0, 0)) :: M0) rfl E1.out ?_
  refine lexH_phase [0, 1, 2, 3, 4, 5] [] ?_
  have hw1 : EnvX w0 _ ((g, Obj.cells cur 50 (0, 0)) :: M0) := E1.out
  have hone := @EnvC.one _ _ _ hw1
  iterate 4 (refine wpG_op rfl rfl rfl ?_; intro K hK; go_big_quiet_op; go_big_quiet_on)
  (refine wpG_val (v := .int .i64 ((q + 1 : Nat) : Int)) rfl rfl (fun u hu => len_op Tryd.underlying22 HN63.out u rfl) ?_ hw1; intro K hK; go_big_quiet_op; go_big_quiet_on)
  (refine wpG_val (v := .slice (cutX 35 (some ⟨g, 0, none⟩) k (q + 1)) (k + 1 - k) (q + 1 - k)) rfl rfl (fun u hu => cutXlhm_op elCo u (Nat.le_succ _) (Nat.succ_le_succ HK.out) HC.out rfl rfl rfl rfl) ?_ hw1; intro K hK; go_big_quiet_op; go_big_quiet_on)
  clear hone hw1
  refine wpG_nil ?_
  intro u3 E2'
  have EX2 := Lib.hid E2'
  clear E2'
  go_upto_region 2 with (fail)
  refine wp_region_Hx (w0 := w0) [0, 1, 2] ((g, Obj.cells cur 50 (0, 0)) :: M0) rfl EX2.out ?_
  refine lexH_phase [0, 1, 2] [] ?_
  have hw4 : EnvX w0 _ ((g, Obj.cells cur 50 (0, 0)) :: M0) := EX2.out
  have hone := @EnvC.one _ _ _ hw4
  iterate 2 (refine wpG_op rfl rfl rfl ?_; intro K hK; go_big_quiet_op; go_big_quiet_on)
  (refine wpG_val (v := .bool false) rfl rfl (fun u hu => eqlI_op u HKN.out rfl rfl) ?_ hw4; intro K hK; go_big_quiet_op; go_big_quiet_on)
  clear hone hw4
  refine wpG_nil ?_
  intro u6 E2'
  have EX5 := Lib.hid E2'
  clear E2'
  go_upto_region 4 with (fail)
  refine wp_region_Hx (w0 := w0) [0, 1, 2] ((g, Obj.cells cur 50 (0, 0)) :: M0) rfl EX5.out ?_
  refine lexH_phase [0, 1, 2] [] ?_
  have hw7 : EnvX w0 _ ((g, Obj.cells cur 50 (0, 0)) :: M0) := EX5.out
  have hone := @EnvC.one _ _ _ hw7
  (refine wpG_op rfl rfl rfl ?_; intro K hK; go_big_quiet_op; go_big_quiet_on)
  (refine wpG_val (v := .int .i64 ((q + 1 : Nat) : Int)) rfl rfl (fun u hu => len_op Tryd.underlying22 HN63.out u rfl) ?_ hw7; intro K hK; go_big_quiet_op; go_big_quiet_on)
  (refine wpG_op rfl rfl rfl ?_; intro K hK; go_big_quiet_op; go_big_quiet_on)
  clear hone hw7
  refine wpG_nil ?_
  intro u9 E2'
  have EX8 := Lib.hid E2'
  clear E2'
  go_upto_region 5 with (fail)
  refine wp_region_H (w0 := w0) ((g, Obj.cells cur 50 (0, 0)) :: M0) (by kernel_rfl) EX8.out ?_
  refine anyH_phase [0, 1, 2, 3, 4, 5] 2 rfl ⟨_, (EnvX.drew EX8.out)⟩ (by kernel_rfl) ?_
  have hw10 : EnvX w0 _ ((g, Obj.cells cur 50 (0, 0)) :: M0) := (EnvX.drew EX8.out)
  have hone := @EnvC.one _ _ _ hw10
  iterate 2 (refine wpG_op rfl rfl rfl ?_; intro K hK; go_big_quiet_op; go_big_quiet_on)
  (refine wpG_val (v := .slice (some ⟨g, 0, none⟩) k cap) rfl rfl (fun u hu => cutXh_op elCo u (by have h1 := HC.out; have h2 := HK.out; omega) rfl rfl) ?_ hw10; intro K hK; go_big_quiet_op; go_big_quiet_on)
  iterate 2 (refine wpG_op rfl rfl rfl ?_; intro K hK; go_big_quiet_op; go_big_quiet_on)
  (refine wpG_val (v := .slice (some ad) (q + 1 - (k + 1)) (cap - (k + 1))) rfl rfl (fun u hu => cutXlE_op elCo u (Nat.succ_le_succ HK.out) HAD.out rfl rfl rfl) ?_ hw10; intro K hK; go_big_quiet_op; go_big_quiet_on)
  clear hone hw10
  refine wpG_nil ?_
  refine anyH_one (i := 6) (by kernel_rfl) (hOp_own (gd := none) (R := fun v M' => v = .slice (some ⟨g, 0, none⟩) q cap ∧ RowIs 50 35 g q cap (xs ++ ys) M0 M') rfl rfl rfl rfl (fun u hu => appIn_op elCo M0 hu HG.out (List.Mem.head _) (fun y hy => ⟨List.mem_cons_of_mem _ hy, HM0.out y hy⟩) HRR.out (by have h1 := HC.out; omega) HSZ.out HXT.out HYL.out HON.out (HSRC.out u hu) rfl rfl) ?_)
  rintro _ _ ⟨rfl, cur2, rfl, hs2, hx2⟩ he11; intro K' hK'; go_big_quiet_op; go_big_quiet_on
  have HS2 := Lib.hid hs2
  have HX2 := Lib.hid hx2
  clear hs2 hx2
  change anyH _ _ _ _ _ _ _ _ ((g, Obj.cells cur2 50 (0, 0)) :: M0)
  refine anyH_phase [7] 0 rfl ⟨_, he11.choose_spec⟩ (by kernel_rfl) ?_
  have hw12 : EnvX w0 _ ((g, Obj.cells cur2 50 (0, 0)) :: M0) := he11.choose_spec
  have hone := @EnvC.one _ _ _ hw12
  (refine wpG_op rfl rfl rfl ?_; intro K hK; go_big_quiet_op; go_big_quiet_on)
  clear hone hw12
  refine wpG_nil ?_
  refine anyH_done (by kernel_rfl) ?_
  intro u14 E2'
  have EX13 := Lib.hid E2'
  clear E2'
  go_upto_region 6 with (fail)
  refine wp_region_Hx (w0 := w0) [0, 1, 2, 3, 4, 5] ((g, Obj.cells cur2 50 (0, 0)) :: M0) rfl EX13.out ?_
  refine lexH_phase [0, 1, 2, 3, 4] [5] ?_
  have hw15 : EnvX w0 _ ((g, Obj.cells cur2 50 (0, 0)) :: M0) := EX13.out
  have hone := @EnvC.one _ _ _ hw15
  iterate 2 (refine wpG_op rfl rfl rfl ?_; intro K hK; go_big_quiet_op; go_big_quiet_on)
  (refine wpG_val (v := .int .i64 ((q : Nat) : Int)) rfl rfl (fun u hu => len_op Tryd.underlying22 HQ63.out u rfl) ?_ hw15; intro K hK; go_big_quiet_op; go_big_quiet_on)
  (refine wpG_op rfl rfl rfl ?_; intro K hK; go_big_quiet_op; go_big_quiet_on)
  (refine wpG_val (v := .slice (some ⟨g, q * 35, none⟩) 1 (cap - q)) rfl rfl (fun u hu => cutXlhE_op elCo u (show q ≤ q + 1 by omega) HC.out (show q + 1 - q = 1 by omega) HAQ.out rfl rfl rfl) ?_ hw15; intro K hK; go_big_quiet_op; go_big_quiet_on)
  clear hone hw15
  refine wpG_nil ?_
  refine (hOp_own (gd := none) (R := fun v M' => v = .tuple #[] ∧ RowIs 50 35 g q cap (xs ++ ys) M0 M') rfl rfl rfl rfl (fun u hu => clearIn_op elCo M0 (fun v hv => coC_one noC0 v hv) hu HG.out (List.Mem.head _) (fun y hy => ⟨List.mem_cons_of_mem _ hy, HM0.out y hy⟩) Nat.one_pos rfl (by have h1 := HC.out; omega) HS2.out HX2.out rfl) ?_)
  rintro _ _ ⟨rfl, cur3, rfl, hs3, hx3⟩ he16; intro K' hK'; go_big_quiet_op; go_big_quiet_on
  have HS3 := Lib.hid hs3
  have HX3 := Lib.hid hx3
  clear hs3 hx3
  change lexH _ _ _ _ _ _ ((g, Obj.cells cur3 50 (0, 0)) :: M0)
  intro u18 E2'
  have EX17 := Lib.hid E2'
  clear E2'
  go_upto_region 7 with (fail)
  refine wp_region_Hx (w0 := w0) [0, 1] ((g, Obj.cells cur3 50 (0, 0)) :: M0) rfl EX17.out ?_
  refine lexH_phase [0, 1] [] ?_
  have hw19 : EnvX w0 _ ((g, Obj.cells cur3 50 (0, 0)) :: M0) := EX17.out
  have hone := @EnvC.one _ _ _ hw19
  iterate 2 (refine wpG_op rfl rfl rfl ?_; intro K hK; go_big_quiet_op; go_big_quiet_on)
  clear hone hw19
  refine wpG_nil ?_
  intro u21 E2'
  have EX20 := Lib.hid E2'
  clear E2'
  have EF := Lib.hid EX20.out
  have HCL := HC.out
  go_wp2
  go_ret
  exact ⟨_, _, rfl, EF.out, [(g, Obj.cells cur3 50 (0, 0))], rfl, .inl ⟨g, cap, cur3, rfl, rfl, by omega, HCM.out, HS3.out, HX3.out⟩, fun y hy => by cases List.mem_singleton.1 hy; exact ⟨HG.out, HM0.out⟩⟩
/-- coins but those that are taken; nothing, if one is not there -/
def WoR (p : List CoinR) (xs : List InR) (w : World) (B : Nat) (v : Value) (m : Int) (b : Bool) : Prop := match takeP p xs with
  | none => v = .slice none 0 0 ∧ m = 0 ∧ b = false
  | some r => w.ownsRow B 50 35 v r.1.length (r.1.map coC).flatten ∧ m = r.2 ∧ b = true
def WoE (p : List CoinR) (xs : List InR) (w : World) (B : Nat) (e : Ending) : Prop := ∃ v m b, e = .returned (.tuple #[v, .int .i64 m, .bool b]) ∧ WoR p xs w B v m b
theorem WoE.mk {p : List CoinR} {xs : List InR} {w : World} {B : Nat} (v : Value) (m : Int) (b : Bool) (h : WoR p xs w B v m b) : WoE p xs w B (.returned (.tuple #[v, .int .i64 m, .bool b])) := ⟨v, m, b, rfl, h⟩
set_option maxRecDepth 20000 in
set_option maxHeartbeats 16000000 in
theorem pwithout_any (p : List CoinR) (A : Option Addr) (n c : Nat) (xs : List InR) (A1 : Option Addr) (n1 c1 : Nat) (w : World) (hl : p.length = n) (hI : okP p) (hmay : mayP p = true) (hA : CoinsIn w w.heap.size A p) (hl1 : xs.length = n1) (hn1 : n1 ≤ 1000) (hI1 : okIns xs) (hA1 : InsIn w w.heap.size A1 xs) :
    Calls Tryd.prog 56 #[.slice A n c, .slice A1 n1 c1] w fun e w' => WoE p xs w' w.heap.size e ∧ Below w.heap.size w w' := by
  have hn48 : n ≤ 48 := by rw [← hl]; exact (mayP_iff.1 hmay).1
  have HCLN : Hid (∀ u, Below w.heap.size w u → Calls Tryd.prog 26 #[.slice A n c] u fun e w' => (∃ v, e = .returned v ∧ w'.ownsRow u.heap.size 50 35 v n (p.map coC).flatten) ∧ Below u.heap.size u w') := fun u hu => pclone_any p A n c u hl (by omega) hI (CellsIn.up hA hu)
  have HL := Lib.hid hl
  have HPP := Lib.hid hI
  have HMAY := Lib.hid hmay
  have HL1 := Lib.hid hl1
  have HN1 : Hid (n1 ≤ 1000) := hn1
  have HM63 : Hid (n1 < 9223372036854775808) := by show _ < _; omega
  have HI1 := Lib.hid hI1
  have HA1 : Hid (InsIn w w.heap.size A1 xs) := hA1
  have E1 : Hid (EnvX w w []) := EnvX.start w
  clear hl hI hmay hA hl1 hn1 hI1 hA1 hn48
  go_enter Tryd.func56, Tryd.ntmps56
  go_upto_region 1 with (fail)
  refine wp_region_Hx (w0 := w) [0, 1, 2, 3] [] rfl E1.out ?_
  refine lexH_phase [0] [1, 2, 3] ?_
  have hw1 : EnvX w _ [] := E1.out
  have hone := @EnvC.one _ _ _ hw1
  (refine wpG_op rfl rfl rfl ?_; intro K hK; go_big_quiet_op; go_big_quiet_on)
  clear hone hw1
  refine wpG_nil ?_
  refine (hOp_fresh (R := FreshR 50 35 n (p.map coC).flatten) (M0 := []) rfl rfl (fun _ h => h) (fun u hu => FAt_call (fid := 26) (xs := #[.tmp 12]) (args := #[.slice A n c]) rfl Tryd.func26 rfl rfl u (callsR_fresh (HCLN.out u (EnvX.bel hu)))) ?_)
  rintro x0 N0 hF hf he2; intro K' hK'; go_big_quiet_op; go_big_quiet_on
  have HF0 := Lib.hid (And.intro hF hf)
  clear hF
  clear hf
  change lexH _ _ _ _ _ _ (N0 ++ [])
  refine lexH_phase [2, 3] [] ?_
  have hw3 : EnvX w _ (N0 ++ []) := he2.choose_spec
  have hone := @EnvC.one _ _ _ hw3
  iterate 2 (refine wpG_op rfl rfl rfl ?_; intro K hK; go_big_quiet_op; go_big_quiet_on)
  clear hone hw3
  refine wpG_nil ?_
  intro u5 E2'
  have EX4 := Lib.hid E2'
  clear E2'
  go_upto_region 2 with (fail)
  refine wp_region_Hx (w0 := w) [0, 1, 2] (N0 ++ []) rfl EX4.out ?_
  refine lexH_phase [0, 1, 2] [] ?_
  have hw6 : EnvX w _ (N0 ++ []) := EX4.out
  have hone := @EnvC.one _ _ _ hw6
  (refine wpG_op rfl rfl rfl ?_; intro K hK; go_big_quiet_op; go_big_quiet_on)
  (refine wpG_val (v := .int .i64 (n1 : Int)) rfl rfl (fun u hu => len_op Tryd.underlying23 HM63.out u rfl) ?_ hw6; intro K hK; go_big_quiet_op; go_big_quiet_on)
  (refine wpG_op rfl rfl rfl ?_; intro K hK; go_big_quiet_op; go_big_quiet_on)
  clear hone hw6
  refine wpG_nil ?_
  intro u8 E2'
  have EX7 := Lib.hid E2'
  clear E2'
  have HINV : Hid (takeP p (xs.take 0) = some (p, 0) ∧ ∃ N, FreshR 50 35 p.length (p.map coC).flatten x0 N ∧ freshN w N [] ∧ EnvX w u8 (N ++ [])) := by
    refine ⟨rfl, N0, ?_, HF0.out.2, EX7.out⟩
    rw [HL.out]
    exact HF0.out.1
  clear EX7 E1 HF0
  go_upto_region 3 with (fail)
  go_loopw [7, 8, 16] (fun lv mv iv u => ∃ (i : Nat) (l : List CoinR) (m : Int), i ≤ n1 ∧ iv = .int .i64 (i : Int) ∧ mv = .int .i64 m ∧ Hid (takeP p (xs.take i) = some (l, m) ∧ ∃ N, FreshR 50 35 l.length (l.map coC).flatten lv N ∧ freshN w N [] ∧ EnvX w u (N ++ []))) (fun _ _ iv _ => n1 - (intOf iv).toNat)
  case atStart => exact ⟨0, p, 0, by omega, rfl, rfl, HINV⟩
  case round =>
    obtain ⟨i, l, m, hi, rfl, rfl, hinv⟩ := hrel
    obtain ⟨htk, N, hF, hfr, hE⟩ := hinv.out
    have EK := Lib.hid hE
    have HTK := Lib.hid htk
    have htb := take_bounds HMAY.out HPP.out htk
    have HTB := Lib.hid htb
    have hup : upP l := (mayP_iff.1 HMAY.out).2.2.sublist (take_some _ _ _ htk).1
    have HUP := Lib.hid hup
    have HF := Lib.hid hF
    have HFR := Lib.hid hfr
    clear hinv HINV hE htk htb hF hfr hup
    by_cases hlt : i < n1
    · have C3 : Hid (decide ((i : Int) < (n1 : Int)) = true) := decide_eq_true (by omega)
      have HI := Lib.hid hlt
      have hil : i < xs.length := by rw [HL1.out]; exact hlt
      have HIL := Lib.hid hil
      obtain ⟨ad, hA1, -, hld⟩ := HA1.out.loads HI1.out hil
      have hA1' : A1 = some ad := hA1
      subst hA1'
      have HLD := Lib.hid hld
      have HXO : Hid (okIn (xs.getD i noIn)) := HI1.out.get hil
      have HX : Hid (lenI (xs.getD i noIn)) := HXO.out.len
      obtain ⟨x, hx⟩ : ∃ x, xs.getD i noIn = x := ⟨_, rfl⟩
      have HXE := Lib.hid hx
      rw [hx] at HLD HX HXO
      obtain ⟨A3, c3, rfl, hc1, hc2⟩ := FreshR.formC HF.out
      have HFD0 : Hid (∀ u, EnvX w u (N ++ []) → Calls Tryd.prog 35 #[.slice A3 l.length c3, inV x] u fun e w' => e = .returned (.int .i64 (findP l x)) ∧ Below u.heap.size u w') := fun u hu =>
        pfind_any l A3 l.length c3 x u rfl (by have := HTB.out.2.1; omega) hc1 hc2 HTB.out.1 HUP.out (own_cells (HF.out.own (B := 0) (flat35 HTB.out.1.lens) (fun y hy => ⟨Nat.zero_le _, hu.box _ _ (List.mem_append_left _ hy)⟩))) HXO.out
      obtain ⟨kf, hkf⟩ : ∃ kf, findP l x = kf := ⟨_, rfl⟩
      have HKF := Lib.hid hkf
      rw [hkf] at HFD0
      have HFD := Lib.hid HFD0.out
      clear hlt hil hA1 hld hx hc1 hc2 hkf HFD0
      go_upto_region 3 with (fail)
      refine wp_region_Hx (w0 := w) [0] (N ++ []) rfl EK.out ?_
      refine lexH_phase [0] [] ?_
      have hw21 : EnvX w _ (N ++ []) := EK.out
      have hone := @EnvC.one _ _ _ hw21
      (refine wpG_val (v := .bool true) rfl rfl (fun u hu => ltZ_op u C3.out rfl rfl) ?_ hw21; intro K hK; go_big_quiet_op; go_big_quiet_on)
      clear hone hw21
      refine wpG_nil ?_
      intro u23 E2'
      have EX22 := Lib.hid E2'
      clear E2'
      go_upto_region 4 with (fail)
      refine wp_region_Hx (w0 := w) [0, 1, 2, 3] (N ++ []) rfl EX22.out ?_
      refine lexH_phase [0, 1] [2, 3] ?_
      have hw24 : EnvX w _ (N ++ []) := EX22.out
      have hone := @EnvC.one _ _ _ hw24
      (refine wpG_val (v := .pointer (some (ad.add (i * 33)))) rfl rfl (fun u hu => idxSl_op (i := i) Tryd.underlying23 aggIn.size HI.out u rfl rfl) ?_ hw24; intro K hK; go_big_quiet_op; go_big_quiet_on)
      (refine wpG_val (v := inV x) rfl rfl (fun u hu => load_any_op u (HLD.out u (EnvX.sub hu (fun _ h => by cases h))).1 rfl) ?_ hw24; intro K hK; go_big_quiet_op; go_big_quiet_on)
      clear hone hw24
      refine wpG_nil ?_
      refine (hOp_fresh (R := fun x N => ∃ g, x = .pointer (some ⟨g, 0, none⟩) ∧ N = [(g, Obj.cells (inA noIn) 42 (0, 0))]) (M0 := (N ++ [])) rfl rfl (fun _ h => h) (fun u hu => FAt_new (new_in _) u) ?_)
      rintro _ _ ⟨gx, rfl, rfl⟩ hf he25; intro K' hK'; go_big_quiet_op; go_big_quiet_on
      have HG6 := Lib.hid (hf _ (List.mem_singleton.2 rfl))
      clear hf
      change lexH _ _ _ _ _ _ ((gx, Obj.cells (inA noIn) 42 (0, 0)) :: (N ++ []))
      refine (hOp_store rfl (gx) (inA x) rfl rfl HG6.out.1 42 ((inA noIn)) (List.Mem.head _) (infoIn _ (inA_size HX.out)) ((noIn_size).trans (inA_size HX.out).symm) (inA_one _) ((gx, Obj.cells (inA x) 42 (0, 0)) :: (N ++ [])) (List.forall_mem_cons.2 ⟨.inl rfl, fun y hy => .inr ⟨List.mem_cons_of_mem _ hy, HG6.out.2 y hy⟩⟩) ?_)
      intro he26
      intro u28 E2'
      have EX27 := Lib.hid E2'
      clear E2'
      go_upto_region 5 with (fail)
      refine wp_region_Hx (w0 := w) [0, 1, 2, 3] ((gx, Obj.cells (inA x) 42 (0, 0)) :: (N ++ [])) rfl EX27.out ?_
      refine lexH_phase [0, 1, 2, 3] [] ?_
      have hw29 : EnvX w _ ((gx, Obj.cells (inA x) 42 (0, 0)) :: (N ++ [])) := EX27.out
      have hone := @EnvC.one _ _ _ hw29
      (refine wpG_op rfl rfl rfl ?_; intro K hK; go_big_quiet_op; go_big_quiet_on)
      (refine wpG_val (v := inV x) rfl rfl (fun u hu => load_any_op u (box_in hu (List.Mem.head _) HX.out) rfl) ?_ hw29; intro K hK; go_big_quiet_op; go_big_quiet_on)
      (refine wpG_call (f := 35) (args := #[.slice A3 l.length c3, inV x]) (v := .int .i64 kf) rfl rfl rfl Tryd.func35 rfl rfl (fun u hu => HFD.out u (EnvX.sub hu (fun y hy => List.mem_cons_of_mem _ hy))) ?_ hw29; intro K hK; go_big_quiet_op; go_big_quiet_on)
      (refine wpG_op rfl rfl rfl ?_; intro K hK; go_big_quiet_op; go_big_quiet_on)
      clear hone hw29
      refine wpG_nil ?_
      intro u31 E2'
      have EX30 := Lib.hid E2'
      clear E2'
      by_cases hk : kf < 0
      · have C6 : Hid (decide (kf < 0) = true) := decide_eq_true hk
        have HNO : Hid (takeP p xs = none) := take_stopC noIn HIL.out HTK.out (by
          rw [HXE.out]
          rcases findP_cases l x with ⟨e, _⟩ | ⟨j, _, e, _⟩
          · exact e
          · rw [HKF.out] at e; omega)
        clear hk
        go_upto_region 6 with (fail)
        refine wp_region_Hx (w0 := w) [0, 1] ((gx, Obj.cells (inA x) 42 (0, 0)) :: (N ++ [])) rfl EX30.out ?_
        refine lexH_phase [0, 1] [] ?_
        have hw32 : EnvX w _ ((gx, Obj.cells (inA x) 42 (0, 0)) :: (N ++ [])) := EX30.out
        have hone := @EnvC.one _ _ _ hw32
        (refine wpG_op rfl rfl rfl ?_; intro K hK; go_big_quiet_op; go_big_quiet_on)
        (refine wpG_val (v := .bool true) rfl rfl (fun u hu => ltZ_op u C6.out rfl rfl) ?_ hw32; intro K hK; go_big_quiet_op; go_big_quiet_on)
        clear hone hw32
        refine wpG_nil ?_
        intro u34 E2'
        have EX33 := Lib.hid E2'
        clear E2'
        go_upto_region 7 with (fail)
        refine wp_region_Hx (w0 := w) [0, 1, 2] ((gx, Obj.cells (inA x) 42 (0, 0)) :: (N ++ [])) rfl EX33.out ?_
        refine lexH_phase [0, 1, 2] [] ?_
        have hw35 : EnvX w _ ((gx, Obj.cells (inA x) 42 (0, 0)) :: (N ++ [])) := EX33.out
        have hone := @EnvC.one _ _ _ hw35
        iterate 3 (refine wpG_op rfl rfl rfl ?_; intro K hK; go_big_quiet_op; go_big_quiet_on)
        clear hone hw35
        refine wpG_nil ?_
        intro u37 E2'
        have EX36 := Lib.hid E2'
        clear E2'
        have HBE := Lib.hid (EnvX.bel EX36.out)
        go_wp2
        go_returns
        exact ⟨WoE.mk (.slice none 0 0) 0 false (by unfold WoR; rw [HNO.out]; exact ⟨rfl, rfl, rfl⟩), HBE.out⟩
      obtain ⟨k, rfl⟩ : ∃ k : Nat, kf = (k : Int) := Int.eq_ofNat_of_zero_le (by omega)
      have C6 : Hid (decide ((k : Int) < 0) = false) := decide_eq_false hk
      have hpl := find_place noC0 HKF.out
      have hkl := hpl.1
      have hst := take_stepC (xs := xs) noIn noC0 HIL.out HTK.out (by rw [HXE.out]; exact HKF.out)
      have HTB2 := Lib.hid (take_bounds HMAY.out HPP.out hst)
      have HST := Lib.hid hst
      obtain ⟨q, hq⟩ : ∃ q, l.length = q + 1 := ⟨l.length - 1, by omega⟩
      rcases HF.out with ⟨g, cap, cur, e1, e2, f1, f2, f3, f4⟩ | ⟨_, _, f0, _⟩
      case inr => omega
      injection e1 with e1 e3 e4
      have e4' := e4.symm
      clear e4
      subst e1 e2 e4'
      have HGW := Lib.hid (HFR.out _ (List.mem_singleton.2 rfl))
      have HLV : Hid (∀ u, EnvX w u [(g, Obj.cells cur 50 (0, 0))] → (loadVar 3 ((⟨g, 0, none⟩ : Addr).add (k * 35) |>.add 33)).run Tryd.prog u = .ok (.int .i64 (l.getD k noC0).v) u) := fun u hu => by
        have h1 := own_cells (HF.out.own (w := u) (B := 0) (flat35 HTB.out.1.lens) (fun y hy => ⟨Nat.zero_le _, hu.box _ _ hy⟩))
        obtain ⟨ad3, e5, -, hl3⟩ := CoinsIn.loads h1 HTB.out.1 hkl
        cases e5
        exact (hl3 u (EnvX.start u)).2.2.2.2.2.1
      have HKL : Hid (k < q + 1) := by show _ < _; omega
      have HPI : Hid (IntKind.i64.wrap ((k : Int) + 1) = ((k + 1 : Nat) : Int)) := by show _ = _; have := HTB.out.2.1; rw [wrapS (by omega)]; omega
      have HADD : Hid (IntKind.i64.wrap (m + (l.getD k noC0).v) = m + (l.getD k noC0).v) := wrapS (by have := HTB2.out.2.2.1; have := HTB2.out.2.2.2.1; omega)
      have HQL : Hid ((l.take k ++ l.drop (k + 1)).length = q) := by show _ = _; rw [List.length_append, List.length_take, List.length_drop]; omega
      have HDL : Hid (∀ u M0, EnvX w u ((g, Obj.cells cur 50 (0, 0)) :: M0) → (∀ y ∈ M0, y.1 ≠ g) → Calls Tryd.prog 71 #[.slice (some ⟨g, 0, none⟩) (q + 1) cap, .int .i64 (k : Int), .int .i64 ((k + 1 : Nat) : Int)] u fun e w'' => ∃ x M', e = .returned x ∧ EnvX w w'' M' ∧ GrownR w 50 35 q ((l.take k ++ l.drop (k + 1)).map coC).flatten M0 x M') := fun u M0 hu hm =>
        pdelete_any l q k g cap cur w u M0 hq (by omega) (by have := HTB.out.2.1; omega) HTB.out.1 HGW.out.1 hu hm (by omega) f2 f3 (by rw [← hq]; exact f4)
      rw [hq]
      have HQ := Lib.hid hq
      generalize hyv : (l.getD k noC0).v = yv at HLV HADD
      have HYV := Lib.hid hyv
      clear hk hpl hkl hst hq f1 f2 f3 f4 e3 hyv
      go_upto_region 6 with (fail)
      refine wp_region_Hx (w0 := w) [0, 1] [(gx, Obj.cells (inA x) 42 (0, 0)), (g, Obj.cells cur 50 (0, 0))] rfl EX30.out ?_
      refine lexH_phase [0, 1] [] ?_
      have hw32 : EnvX w _ [(gx, Obj.cells (inA x) 42 (0, 0)), (g, Obj.cells cur 50 (0, 0))] := EX30.out
      have hone := @EnvC.one _ _ _ hw32
      (refine wpG_op rfl rfl rfl ?_; intro K hK; go_big_quiet_op; go_big_quiet_on)
      (refine wpG_val (v := .bool false) rfl rfl (fun u hu => ltZ_op u C6.out rfl rfl) ?_ hw32; intro K hK; go_big_quiet_op; go_big_quiet_on)
      clear hone hw32
      refine wpG_nil ?_
      intro u34 E2'
      have EX33 := Lib.hid E2'
      clear E2'
      go_upto_region 8 with (fail)
      refine wp_region_Hx (w0 := w) [0, 1, 2, 3, 4, 5, 6, 7, 8] [(gx, Obj.cells (inA x) 42 (0, 0)), (g, Obj.cells cur 50 (0, 0))] rfl EX33.out ?_
      refine lexH_phase [0, 1, 2, 3, 4, 5, 6, 7, 8] [] ?_
      have hw35 : EnvX w _ [(gx, Obj.cells (inA x) 42 (0, 0)), (g, Obj.cells cur 50 (0, 0))] := EX33.out
      have hone := @EnvC.one _ _ _ hw35
      iterate 3 (refine wpG_op rfl rfl rfl ?_; intro K hK; go_big_quiet_op; go_big_quiet_on)
      (refine wpG_val (v := .pointer (some ((⟨g, 0, none⟩ : Addr).add (k * 35)))) rfl rfl (fun u hu => idxSl_op (i := k) Tryd.underlying22 aggCo.size HKL.out u rfl rfl) ?_ hw35; intro K hK; go_big_quiet_op; go_big_quiet_on)
      (refine wpG_val (v := .pointer (some (((⟨g, 0, none⟩ : Addr).add (k * 35)).add 33))) rfl rfl (fun u hu => fieldCo_op (k := 1) (off := 33) rfl u rfl) ?_ hw35; intro K hK; go_big_quiet_op; go_big_quiet_on)
      (refine wpG_val (v := .pointer (some ((((⟨g, 0, none⟩ : Addr).add (k * 35)).add 33).add 0))) rfl rfl (fun u hu => fieldOut_op (k := 0) (off := 0) rfl u rfl) ?_ hw35; intro K hK; go_big_quiet_op; go_big_quiet_on)
      (refine wpG_val (v := .int .i64 yv) rfl rfl (fun u hu => load_any_op u (by have h := HLV.out u (EnvX.sub hu (fun y hy => List.mem_cons_of_mem _ hy)); rwa [show ((((⟨g, 0, none⟩ : Addr).add (k * 35)).add 33).add 0) = ((⟨g, 0, none⟩ : Addr).add (k * 35)).add 33 by unfold Addr.add; rfl]) rfl) ?_ hw35; intro K hK; go_big_quiet_op; go_big_quiet_on)
      (refine wpG_val (v := .int .i64 (m + yv)) rfl rfl (fun u hu => addZ_op u HADD.out rfl rfl) ?_ hw35; intro K hK; go_big_quiet_op; go_big_quiet_on)
      (refine wpG_op rfl rfl rfl ?_; intro K hK; go_big_quiet_op; go_big_quiet_on)
      clear hone hw35
      refine wpG_nil ?_
      intro u37 E2'
      have EX36 := Lib.hid E2'
      clear E2'
      go_upto_region 9 with (fail)
      refine wp_region_Hx (w0 := w) [0, 1, 2, 3, 4, 5] [(gx, Obj.cells (inA x) 42 (0, 0)), (g, Obj.cells cur 50 (0, 0))] rfl EX36.out ?_
      refine lexH_phase [0, 1, 2, 3] [4, 5] ?_
      have hw38 : EnvX w _ [(gx, Obj.cells (inA x) 42 (0, 0)), (g, Obj.cells cur 50 (0, 0))] := EX36.out
      have hone := @EnvC.one _ _ _ hw38
      iterate 3 (refine wpG_op rfl rfl rfl ?_; intro K hK; go_big_quiet_op; go_big_quiet_on)
      (refine wpG_val (v := .int .i64 ((k + 1 : Nat) : Int)) rfl rfl (fun u hu => addZ_op u HPI.out rfl rfl) ?_ hw38; intro K hK; go_big_quiet_op; go_big_quiet_on)
      clear hone hw38
      refine wpG_nil ?_
      refine (hOp_turn (gd := none) (R := GrownR w 50 35 q ((l.take k ++ l.drop (k + 1)).map coC).flatten [(gx, Obj.cells (inA x) 42 (0, 0))]) rfl rfl rfl rfl (fun u hu => OUpon_call (fid := 71) (xs := #[.tmp 33, .tmp 34, .tmp 36]) (args := #[.slice (some ⟨g, 0, none⟩) (q + 1) cap, .int .i64 (k : Int), .int .i64 ((k + 1 : Nat) : Int)]) rfl Tryd.func71 rfl rfl u (HDL.out u _ (EnvX.sub hu (fun y hy => (List.mem_cons.1 hy).elim (fun h => by rw [h]; exact List.Mem.tail _ (List.Mem.head _)) (fun h => by rw [List.mem_singleton.1 h]; exact List.Mem.head _))) (fun y hy => by cases List.mem_singleton.1 hy; exact Ne.symm (HG6.out.2 (g, _) (List.Mem.head _))))) ?_)
      rintro x9 M' ⟨N9, rfl, hF9, hn9⟩ he39; intro K' hK'; go_big_quiet_op; go_big_quiet_on
      have HF9 := Lib.hid hF9
      have HN9 := Lib.hid hn9
      clear hF9 hn9
      change lexH _ _ _ _ _ _ (N9 ++ ((gx, Obj.cells (inA x) 42 (0, 0)) :: []))
      refine lexH_phase [5] [] ?_
      have hw40 : EnvX w _ (N9 ++ ((gx, Obj.cells (inA x) 42 (0, 0)) :: [])) := he39.choose_spec
      have hone := @EnvC.one _ _ _ hw40
      (refine wpG_op rfl rfl rfl ?_; intro K hK; go_big_quiet_op; go_big_quiet_on)
      clear hone hw40
      refine wpG_nil ?_
      intro u42 E2'
      have EX41 := Lib.hid E2'
      clear E2'
      have HNX : Hid (takeP p (xs.take (i + 1)) = some ((l.take k ++ l.drop (k + 1)), m + yv) ∧ ∃ N, FreshR 50 35 (l.take k ++ l.drop (k + 1)).length ((l.take k ++ l.drop (k + 1)).map coC).flatten x9 N ∧ freshN w N [] ∧ EnvX w u42 (N ++ [])) := by
        rw [HYV.out] at HST
        refine ⟨HST.out, N9, ?_, fun y hy => ⟨(HN9.out y hy).1, fun z hz => by cases hz⟩, EnvX.sub EX41.out (fun y hy => ?_)⟩
        · rw [HQL.out]; exact HF9.out
        · rw [List.append_nil] at hy
          exact List.mem_append_left _ hy
      have hii := HI.out
      have hn := HN1.out
      go_wp2
      go_roundw
      case rel => exact ⟨i + 1, l.take k ++ l.drop (k + 1), m + yv, by omega, by go_num, rfl, HNX⟩
      case measure => simp [intOf]; omega
    · obtain rfl : i = n1 := by omega
      have C3 : Hid (decide ((i : Int) < (i : Int)) = false) := decide_eq_false (by omega)
      have HT : Hid (takeP p xs = some (l, m)) := by
        have h := HTK.out
        rwa [List.take_of_length_le (by rw [HL1.out]; exact Nat.le_refl _)] at h
      go_upto_region 3 with (fail)
      refine wp_region_Hx (w0 := w) [0] (N ++ []) rfl EK.out ?_
      refine lexH_phase [0] [] ?_
      have hw301 : EnvX w _ (N ++ []) := EK.out
      have hone := @EnvC.one _ _ _ hw301
      (refine wpG_val (v := .bool false) rfl rfl (fun u hu => ltZ_op u C3.out rfl rfl) ?_ hw301; intro K hK; go_big_quiet_op; go_big_quiet_on)
      clear hone hw301
      refine wpG_nil ?_
      intro u303 E2'
      have EX302 := Lib.hid E2'
      clear E2'
      go_upto_region 11 with (fail)
      refine wp_region_Hx (w0 := w) [0, 1, 2, 3, 4] (N ++ []) rfl EX302.out ?_
      refine lexH_phase [0, 1, 2, 3, 4] [] ?_
      have hw304 : EnvX w _ (N ++ []) := EX302.out
      have hone := @EnvC.one _ _ _ hw304
      iterate 5 (refine wpG_op rfl rfl rfl ?_; intro K hK; go_big_quiet_op; go_big_quiet_on)
      clear hone hw304
      refine wpG_nil ?_
      intro u306 E2'
      have EX305 := Lib.hid E2'
      clear E2'
      have HBE := Lib.hid (EnvX.bel EX305.out)
      have HOW := Lib.hid (HF.out.own (w := u306) (B := w.heap.size) (flat35 HTB.out.1.lens) (fun y hy => ⟨(HFR.out y hy).1, EnvX.box EX305.out _ _ (List.mem_append_left _ hy)⟩))
      go_wp2
      go_returns
      exact ⟨WoE.mk _ m true (by unfold WoR; rw [HT.out]; exact ⟨HOW.out, rfl, rfl⟩), HBE.out⟩
theorem wpList_appzero_run {P : Program} {ops : Array Oper} {rest : List Oper} {o : Oper} {a : Act} {w w' : World} {Q : Exit → Act → World → Prop} {v y v' : Value} {t tn : TypeId} (hgd : o.guard = none) (s x : Operand)
    (ho : o.op = .call { callee := .builtin .append, args := #[s, x], argTypes := #[t, tn] }) (hs : a.eval s = v) (hx : a.eval x = y)
    (hrun : ∀ ty, (Builtin.append_ #[t, tn] ty #[v, y]).run P w = .ok v' w') (h : wpList P ops Q rest (a.put o.dst v') w') : wpList P ops Q (o :: rest) a w :=
  wpList_plain hgd fun _ hK => by
    unfold Oper.wp execOp
    simp only [ho, resolve, invoke, builtin, Sem.run_bind, Sem.run_pure, Result.andThen_ok, List.map_toArray, List.map_cons, List.map_nil, hs, hx, hrun]
    exact hK _ _ h
def PartsAt (w : World) (B g k : Nat) (xss : List (List Int)) : Prop := ∀ (j : Nat) (xs : List Int), xss[j]? = some xs → ∃ (a : Option Addr) (c : Nat), w.cell? ⟨g, k + j, none⟩ = some (.slice a xs.length c) ∧ Bytes w B a xs ∧ ∀ x ∈ xs, 0 ≤ x ∧ x ≤ 255
theorem PartsAt.nil {w : World} {B g k : Nat} : PartsAt w B g k [] := fun j xs h => by simp at h
end Go.Proofs.YtabhhbdbkeeblaaDoor
