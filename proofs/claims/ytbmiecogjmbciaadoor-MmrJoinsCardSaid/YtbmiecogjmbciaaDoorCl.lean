/- Part of a proof. -/
import Derived.Test.YtbmiecogjmbciaaDoorCk
import Derived.Lib.SliceRun
namespace Go.Proofs.YtbmiecogjmbciaaDoor
set_option maxRecDepth 8000
open Go.RowKit

/-- the last two are joined, as long as d asks for it -/
def jlT (d : Tot → Tot → Bool) : Tot → List Tot → List Tot
  | x, [] => [x]
  | x, y :: r => if d y x = true then jlT d (joinT y x) r else x :: y :: r
theorem jl_carry : ∀ (r : List Tot) (x : Tot), jlT (fun a b => decide (a.n = b.n)) x r = carryT x r
  | [], x => rfl
  | y :: r, x => by
    unfold jlT carryT
    by_cases h : x.n = y.n
    · rw [if_pos (decide_eq_true h.symm), if_pos h, jl_carry r]
    · rw [if_neg (fun e => h (of_decide_eq_true e).symm), if_neg h]
theorem jl_up : ∀ (r : List Tot) (x : Tot), jlT (fun _ _ => true) x r = [upT x r]
  | [], x => rfl
  | y :: r, x => by
    unfold jlT upT
    rw [if_pos rfl, jl_up r]
theorem src_in {w u : World} {ad : Addr} {ys : List Value} (h : CellsIn w w.heap.size (some ad) ys) (hb : Below w.heap.size w u) : SrcAt u ad ys := fun j c hc => by
  have hp : 0 < ys.length := by
    rcases Nat.eq_zero_or_pos ys.length with h0 | h0
    · rw [List.eq_nil_of_length_eq_zero h0] at hc
      simp at hc
    · exact h0
  obtain ⟨ad', e, hlt, hcc⟩ := h hp
  obtain rfl := Option.some.inj e
  have hbl : (ad.add j).block = ad.block := by unfold Addr.add; split <;> rfl
  exact (hb.cell (p := ad.add j) (by rw [hbl]; exact hlt)).trans (hcc j c hc)
section
variable {a : Act} {dst : Option Tmp} {x : Operand} {ty : TypeId} {pos : String} {after : Array Edge} {gd : Option (Nat × Bool)}
theorem FAt_tots0 (u : World) : FAt Tryd.prog ⟨dst, .buildSlice 22 0 #[], ty, pos, after, gd⟩ a (fun v N => ∃ g, v = .slice (some ⟨g, 0, none⟩) 0 0 ∧ N = [(g, Obj.cells #[] 29 (0, 0))]) u := by
  have h : (execOp a.eval ⟨dst, .buildSlice 22 0 #[], ty, pos, after, gd⟩).run Tryd.prog u = .ok (.value (.slice (some ⟨u.heap.size, 0, none⟩) 0 0)) (u.alloc (.cells #[] 29)) := by
    unfold execOp
    go_simp
  unfold FAt
  rw [h]
  refine ⟨(Below.refl _ _).alloc (Nat.le_refl _) _, _, ⟨_, rfl, rfl⟩, fun y hy => ?_⟩
  cases List.mem_singleton.1 hy
  exact ⟨Nat.le_refl _, heap_alloc_new u _⟩
theorem FAt_rows1 {A0 : Option Addr} {n0 c0 : Nat} (hx : a.eval x = .slice A0 n0 c0) (u : World) :
    FAt Tryd.prog ⟨dst, .buildSlice 75 1 #[(0, x)], ty, pos, after, gd⟩ a (fun v N => ∃ g, v = .slice (some ⟨g, 0, none⟩) 1 1 ∧ N = [(g, Obj.cells #[.slice A0 n0 c0] 72 (0, 0))]) u := by
  have h : (execOp a.eval ⟨dst, .buildSlice 75 1 #[(0, x)], ty, pos, after, gd⟩).run Tryd.prog u = .ok (.value (.slice (some ⟨u.heap.size, 0, none⟩) 1 1)) (u.alloc (.cells #[.slice A0 n0 c0] 72)) := by
    unfold execOp
    simp only [List.map_toArray, List.map_cons, List.map_nil, hx]
    go_simp
  unfold FAt
  rw [h]
  refine ⟨(Below.refl _ _).alloc (Nat.le_refl _) _, _, ⟨_, rfl, rfl⟩, fun y hy => ?_⟩
  cases List.mem_singleton.1 hy
  exact ⟨Nat.le_refl _, heap_alloc_new u _⟩
end
/-- what joinLast leaves -/
def JLeft (w0 : World) (M0 : Boxes) (out : List Tot) (v : Value) (M' : Boxes) : Prop := ∃ N, M' = N ++ M0 ∧ FreshR 29 37 out.length (out.map totC).flatten v N ∧ freshN w0 N M0
/-- at the label -/
def JInv (d : Tot → Tot → Bool) (w0 : World) (M0 : Boxes) (out : List Tot) (B : Nat) (v : Value) (w' : World) : Prop :=
  ∃ r x N, okTs (x :: r) ∧ (jlT d x r).reverse = out ∧ r.length + 1 ≤ B ∧ FreshR 29 37 (r.length + 1) (((x :: r).reverse).map totC).flatten v N ∧ freshN w0 N M0 ∧ EnvX w0 w' (N ++ M0)
set_option maxRecDepth 20000 in
set_option maxHeartbeats 4000000 in
theorem mclone_any (p : List Tot) (A : Option Addr) (n c : Nat) (w : World) (hl : p.length = n) (hn : n ≤ 1000000) (hI : okTs p) (hA : TotsIn w w.heap.size A p) :
    Calls Tryd.prog 32 #[.slice A n c] w fun e w' => (∃ v, e = .returned v ∧ w'.ownsRow w.heap.size 29 37 v n (p.map totC).flatten) ∧ Below w.heap.size w w' := by
  have HPL : Hid ((p.map totC).flatten.length = n * 37) := by show _ = _; rw [flatT_len hI, hl]
  have HNB : Hid (n ≤ 1000000) := hn
  have E1 : Hid (EnvX w w []) := EnvX.start w
  have q22 : ∀ (w : World) (a : Option Addr) (n c n' c' : Nat), (binOp .eql 22 (.slice a n c) (.slice none n' c')).run Tryd.prog w = .ok (.bool a.isNone) w := fun w a n c n' c' => Lib.run_eql_slice_nil w _ _ a n c n' c' Tryd.underlying22
  cases A with
  | none =>
    obtain rfl : p = [] := by
      refine List.eq_nil_of_length_eq_zero (Nat.eq_zero_of_not_pos fun hp => ?_)
      obtain ⟨ad, e, _⟩ := hA.loads hI (k := 0) hp
      cases e
    subst hl
    clear hI hA HPL
    go_enter Tryd.func32, Tryd.ntmps32
    go_wp2
    go_ret
    exact ⟨⟨_, rfl, World.ownsRow_nil _ _ _ _⟩, Below.refl _ _⟩
  | some ad =>
    have HA : Hid (CellsIn w w.heap.size (some ad) (p.map totC).flatten) := hA
    clear hI hA hl
    go_enter Tryd.func32, Tryd.ntmps32
    go_upto_region 3 with (fail)
    refine wp_region_Hx (w0 := w) [0, 1, 2, 3] [] rfl E1.out ?_
    refine (hOp_fresh (R := fun v N => ∃ g, v = .slice (some ⟨g, 0, none⟩) 0 0 ∧ N = [(g, Obj.cells #[] 29 (0, 0))]) (M0 := []) rfl rfl (fun _ h => h) (fun u hu => FAt_tots0 u) ?_)
    rintro _ _ ⟨g0, rfl, rfl⟩ hf he1; intro K' hK'; go_big_quiet_op; go_big_quiet_on
    have HG0 := Lib.hid (hf _ (List.mem_singleton.2 rfl))
    clear hf
    change lexH _ _ _ _ _ _ [(g0, Obj.cells #[] 29 (0, 0))]
    refine lexH_phase [1] [2, 3] ?_
    have hw2 : EnvX w _ [(g0, Obj.cells #[] 29 (0, 0))] := he1.choose_spec
    have hone := @EnvC.one _ _ _ hw2
    (refine wpG_op rfl rfl rfl ?_; intro K hK; go_big_quiet_op; go_big_quiet_on)
    clear hone hw2
    refine wpG_nil ?_
    refine (hOp_own (gd := none) (R := GrownR w 29 37 (0 + n) ([] ++ (p.map totC).flatten) []) rfl rfl rfl rfl (fun u hu => appX_op elTot (n := 0) (m := n) (xs := []) [] hu rfl HPL.out flatT_one (.inl ⟨g0, 0, #[], rfl, rfl, Nat.le_refl _, Nat.zero_le _, rfl, rfl⟩) (List.forall_mem_cons.2 ⟨⟨(List.Mem.head _), HG0.out.1⟩, fun _ h => by cases h⟩) (src_in HA.out (EnvX.bel hu)) (fun _ h => by cases h) (by have := HNB.out; omega) rfl rfl) ?_)
    rintro x1 M' ⟨N2, rfl, hF2, hn2⟩ he3; intro K' hK'; go_big_quiet_op; go_big_quiet_on
    have HF2 := Lib.hid (And.intro hF2 hn2)
    clear hF2 hn2
    change lexH _ _ _ _ _ _ (N2 ++ [])
    refine lexH_phase [3] [] ?_
    have hw4 : EnvX w _ (N2 ++ []) := he3.choose_spec
    have hone := @EnvC.one _ _ _ hw4
    (refine wpG_op rfl rfl rfl ?_; intro K hK; go_big_quiet_op; go_big_quiet_on)
    clear hone hw4
    refine wpG_nil ?_
    intro u6 E2'
    have EX5 := Lib.hid E2'
    clear E2'
    go_wp2
    go_ret
    refine ⟨⟨_, rfl, ?_⟩, EnvX.bel EX5.out⟩
    have h := HF2.out.1
    rw [List.nil_append, Nat.zero_add] at h
    exact h.own HPL.out (fun y hy => ⟨(HF2.out.2 y hy).1, EnvX.box EX5.out _ _ (List.mem_append_left _ hy)⟩)
set_option maxRecDepth 20000 in
set_option maxHeartbeats 4000000 in
theorem alike_any (a b : Tot) (w : World) (ha : okT a) (hb : okT b) :
    Calls Tryd.prog 30 #[.agg (totA a), .agg (totA b)] w fun e w' => e = .returned (.bool (decide (a.n = b.n))) ∧ Below w.heap.size w w' := by
  have HA : Hid (len32 a) := ha.len
  have HB : Hid (len32 b) := hb.len
  have E1 : Hid (EnvX w ((w.alloc (.cells (totA a) 29)).alloc (.cells (totA b) 29)) [(w.heap.size + 1, Obj.cells (totA b) 29 (0, 0)), (w.heap.size, Obj.cells (totA a) 29 (0, 0))]) := (EnvX.start w).two _ _
  clear ha hb
  go_enter Tryd.func30, Tryd.ntmps30
  go_upto_region 1 with (fail)
  generalize (w.alloc (.cells (totA a) 29)).alloc (.cells (totA b) 29) = W at *
  refine wp_region_Hx (w0 := w) [0, 1, 2, 3, 4, 5] [(w.heap.size + 1, Obj.cells (totA b) 29 (0, 0)), (w.heap.size, Obj.cells (totA a) 29 (0, 0))] rfl E1.out ?_
  refine lexH_phase [0, 1, 2, 3, 4, 5] [] ?_
  have hw1 : EnvX w _ [(w.heap.size + 1, Obj.cells (totA b) 29 (0, 0)), (w.heap.size, Obj.cells (totA a) 29 (0, 0))] := E1.out
  have hone := @EnvC.one _ _ _ hw1
  (refine wpG_op rfl rfl rfl ?_; intro K hK; go_big_quiet_op; go_big_quiet_on)
  (refine wpG_val (v := .int .i64 a.n) rfl rfl (fun u hu => load_any_op u (box_totN hu (List.Mem.tail _ (List.Mem.head _)) HA.out) rfl) ?_ hw1; intro K hK; go_big_quiet_op; go_big_quiet_on)
  (refine wpG_op rfl rfl rfl ?_; intro K hK; go_big_quiet_op; go_big_quiet_on)
  (refine wpG_val (v := .int .i64 b.n) rfl rfl (fun u hu => load_any_op u (box_totN hu (List.Mem.head _) HB.out) rfl) ?_ hw1; intro K hK; go_big_quiet_op; go_big_quiet_on)
  (refine wpG_val (v := .bool (decide (a.n = b.n))) rfl rfl (fun u hu => eqlI_op u rfl rfl rfl) ?_ hw1; intro K hK; go_big_quiet_op; go_big_quiet_on)
  (refine wpG_op rfl rfl rfl ?_; intro K hK; go_big_quiet_op; go_big_quiet_on)
  clear hone hw1
  refine wpG_nil ?_
  intro u3 E2'
  have EX2 := Lib.hid E2'
  clear E2'
  go_wp2
  go_ret
  exact ⟨rfl, EnvX.bel EX2.out⟩
theorem always_any (a b : Tot) (w : World) (ha : okT a) (hb : okT b) :
    Calls Tryd.prog 45 #[.agg (totA a), .agg (totA b)] w fun e w' => e = .returned (.bool true) ∧ Below w.heap.size w w' := by
  have E1 : Hid (EnvX w ((w.alloc (.cells (totA a) 29)).alloc (.cells (totA b) 29)) [(w.heap.size + 1, Obj.cells (totA b) 29 (0, 0)), (w.heap.size, Obj.cells (totA a) 29 (0, 0))]) := (EnvX.start w).two _ _
  clear ha hb
  go_enter Tryd.func45, Tryd.ntmps45
  go_upto_region 1 with (fail)
  generalize (w.alloc (.cells (totA a) 29)).alloc (.cells (totA b) 29) = W at *
  go_wp2
  go_ret
  exact ⟨rfl, EnvX.bel E1.out⟩
/-- at the label, as the frame has it -/
def JjlA (w0 : World) (M0 : Boxes) (out : List Tot) (B : Nat) (a' : Act) (w' : World) : Prop :=
  ∃ (v u5_ u6_ u7_ u8_ u9_ u10_ u11_ u12_ u13_ u14_ u15_ u16_ u17_ u18_ u19_ u20_ u21_ u22_ u23_ u24_ u25_ u26_ u27_ u28_ u29_ u30_ u31_ u32_ u33_ u34_ u35_ u36_ u37_ u38_ u39_ u40_ u41_ u42_ : Value), a' = { tmps := List.toArray (v :: .func (.func 30) #[] #[] :: undef :: undef :: .slice none 0 0 :: u5_ :: u6_ :: u7_ :: u8_ :: u9_ :: u10_ :: u11_ :: u12_ :: u13_ :: u14_ :: u15_ :: u16_ :: u17_ :: u18_ :: u19_ :: u20_ :: u21_ :: u22_ :: u23_ :: u24_ :: u25_ :: u26_ :: u27_ :: u28_ :: u29_ :: u30_ :: u31_ :: u32_ :: u33_ :: u34_ :: u35_ :: u36_ :: u37_ :: u38_ :: u39_ :: u40_ :: u41_ :: u42_ :: []), defers := [] } ∧ Hid (JInv (fun a b => decide (a.n = b.n)) w0 M0 out B v w')
set_option maxRecDepth 20000 in
set_option maxHeartbeats 8000000 in
theorem jlA (w0 : World) (M0 : Boxes) (r : List Tot) (x : Tot) (v : Value) (N : Boxes) (w : World) (hok : okTs (x :: r)) (hB : r.length + 1 ≤ 1000001) (hF : FreshR 29 37 (r.length + 1) (((x :: r).reverse).map totC).flatten v N) (hfr : freshN w0 N M0) (hE : EnvX w0 w (N ++ M0)) (ht : Tables w0) :
    Calls Tryd.prog 31 #[v, .func (.func 30) #[] #[]] w fun e w'' => ∃ x' M', e = .returned x' ∧ EnvX w0 w'' M' ∧ JLeft w0 M0 ((jlT (fun a b => decide (a.n = b.n)) x r).reverse) x' M' := by
  have HI : Hid (JInv (fun a b => decide (a.n = b.n)) w0 M0 ((jlT (fun a b => decide (a.n = b.n)) x r).reverse) 1000001 v w) := ⟨r, x, N, hok, rfl, hB, hF, hfr, hE⟩
  have HT := Lib.hid ht
  obtain ⟨out, hout⟩ : ∃ out, (jlT (fun a b => decide (a.n = b.n)) x r).reverse = out := ⟨_, rfl⟩
  rw [hout] at HI ⊢
  clear hok hB hF hfr hE ht hout
  go_enter Tryd.func31, Tryd.ntmps31
  go_wp2_with fail
  refine wp_scope_jumps2 0 (JjlA w0 M0 out 1000001) (fun a' _ => lenV (a'.tmps.getD 0 undef)) rfl ?_ ?_
  · clear HI
    rintro a' w' ⟨v, u5_, u6_, u7_, u8_, u9_, u10_, u11_, u12_, u13_, u14_, u15_, u16_, u17_, u18_, u19_, u20_, u21_, u22_, u23_, u24_, u25_, u26_, u27_, u28_, u29_, u30_, u31_, u32_, u33_, u34_, u35_, u36_, u37_, u38_, u39_, u40_, u41_, u42_, rfl, hinv⟩
    obtain ⟨r, x, N, hok, hcar, hlen, hF, hfr, hE⟩ := hinv.out
    clear hinv
    obtain ⟨g, cap, cur, rfl, rfl, hcur⟩ | ⟨_, _, h0, _⟩ := hF
    case inr => cases h0
    have HGW := Lib.hid (hfr _ (List.mem_singleton.2 rfl))
    have HCUR := Lib.hid hcur
    have hcap := hcur.2.1
    have hcap2 := hcur.1
    have EK : Hid (EnvX w0 w' ((g, Obj.cells cur 29 (0, 0)) :: M0)) := hE
    have HCAR := Lib.hid hcar
    clear hcur hE hfr hcar
    unfold maxLen at hcap
    cases r with
    | nil =>
      have HOUT : Hid (out = [x]) := HCAR.out.symm
      have HOK1 := Lib.hid (hok x (List.mem_cons_self ..))
      have hl0 : ([] : List Tot).length + 1 = 1 := rfl
      rw [hl0] at HCUR hcap2 ⊢
      have HG0 : Hid (decide (((1 : Nat) : Int) < 2) = true) := Lib.hid (by decide : decide (((1 : Nat) : Int) < 2) = true)
      have H1B : Hid (1 < 9223372036854775808) := Lib.hid (by decide : 1 < 9223372036854775808)
      clear hok hl0
      go_upto_region 1 with (fail)
      refine wp_region_Hx (w0 := w0) [0, 1, 2] ((g, Obj.cells cur 29 (0, 0)) :: M0) rfl EK.out ?_
      refine lexH_phase [0, 1, 2] [] ?_
      have hw101 : EnvX w0 _ ((g, Obj.cells cur 29 (0, 0)) :: M0) := EK.out
      have hone := @EnvC.one _ _ _ hw101
      (refine wpG_op rfl rfl rfl ?_; intro K hK; go_big_quiet_op; go_big_quiet_on)
      (refine wpG_val (v := .int .i64 ((1 : Nat) : Int)) rfl rfl (fun u hu => len_op Tryd.underlying22 H1B.out u rfl) ?_ hw101; intro K hK; go_big_quiet_op; go_big_quiet_on)
      (refine wpG_op rfl rfl rfl ?_; intro K hK; go_big_quiet_op; go_big_quiet_on)
      clear hone hw101
      refine wpG_nil ?_
      intro u103 E2'
      have EX102 := Lib.hid E2'
      clear E2'
      go_upto_region 2 with (fail)
      refine wp_region_H (w0 := w0) ((g, Obj.cells cur 29 (0, 0)) :: M0) (by kernel_rfl) EX102.out ?_
      refine anyH_phase [0, 1, 2, 3, 4, 5, 6, 7, 8, 9, 10, 11, 12, 13, 14, 15, 16] 0 rfl ⟨_, (EnvX.drew EX102.out)⟩ (by kernel_rfl) ?_
      have hw104 : EnvX w0 _ ((g, Obj.cells cur 29 (0, 0)) :: M0) := (EnvX.drew EX102.out)
      have hone := @EnvC.one _ _ _ hw104
      (refine wpG_op rfl rfl rfl ?_; intro K hK; go_big_quiet_op; go_big_quiet_on)
      (refine wpG_val (v := .bool true) rfl rfl (fun u hu => lssI_op u HG0.out rfl rfl) ?_ hw104; intro K hK; go_big_quiet_op; go_big_quiet_on)
      (refine wpG_op rfl rfl rfl ?_; intro K hK; go_big_quiet_op; go_big_quiet_on)
      (refine wpG_skip rfl rfl ?_ hw104; intro K hK; go_big_quiet_op; go_big_quiet_on)
      (refine wpG_skip rfl rfl ?_ hw104; intro K hK; go_big_quiet_op; go_big_quiet_on)
      (refine wpG_skip rfl rfl ?_ hw104; intro K hK; go_big_quiet_op; go_big_quiet_on)
      (refine wpG_skip rfl rfl ?_ hw104; intro K hK; go_big_quiet_op; go_big_quiet_on)
      (refine wpG_skip rfl rfl ?_ hw104; intro K hK; go_big_quiet_op; go_big_quiet_on)
      (refine wpG_skip rfl rfl ?_ hw104; intro K hK; go_big_quiet_op; go_big_quiet_on)
      (refine wpG_skip rfl rfl ?_ hw104; intro K hK; go_big_quiet_op; go_big_quiet_on)
      (refine wpG_skip rfl rfl ?_ hw104; intro K hK; go_big_quiet_op; go_big_quiet_on)
      (refine wpG_skip rfl rfl ?_ hw104; intro K hK; go_big_quiet_op; go_big_quiet_on)
      (refine wpG_skip rfl rfl ?_ hw104; intro K hK; go_big_quiet_op; go_big_quiet_on)
      (refine wpG_skip rfl rfl ?_ hw104; intro K hK; go_big_quiet_op; go_big_quiet_on)
      (refine wpG_skip rfl rfl ?_ hw104; intro K hK; go_big_quiet_op; go_big_quiet_on)
      (refine wpG_skip rfl rfl ?_ hw104; intro K hK; go_big_quiet_op; go_big_quiet_on)
      (refine wpG_op rfl rfl rfl ?_; intro K hK; go_big_quiet_op; go_big_quiet_on)
      clear hone hw104
      refine wpG_nil ?_
      refine anyH_done (by kernel_rfl) ?_
      intro u106 E2'
      have EX105 := Lib.hid E2'
      clear E2'
      go_wp2_with fail
      simp only [Exit.jump]
      go_ret
      refine ⟨_, _, rfl, EX105.out, [(g, Obj.cells cur 29 (0, 0))], rfl, ?_, fun y hy => by cases List.mem_singleton.1 hy; exact HGW.out⟩
      rw [HOUT.out]
      exact .inl ⟨g, cap, cur, rfl, rfl, HCUR.out⟩
    | cons y r =>
      obtain ⟨k, hk⟩ : ∃ k, r.length = k := ⟨_, rfl⟩
      have hkl : (y :: r).length + 1 = k + 2 := by rw [List.length_cons, hk]
      rw [hkl] at HCUR hlen hcap2 ⊢
      obtain ⟨q, hq⟩ : ∃ q, r.reverse = q := ⟨_, rfl⟩
      have hl2 : (x :: y :: r).reverse = q ++ [y, x] := by rw [List.reverse_cons, List.reverse_cons, hq, List.append_assoc]; rfl
      have hql : q.length = k := by rw [← hq, List.length_reverse, hk]
      have hokl : okTs (q ++ [y, x]) := fun t ht => hok t (by rw [← List.mem_reverse, hl2]; exact ht)
      have hokq : okTs q := fun t ht => hokl t (List.mem_append_left _ ht)
      rw [hl2] at HCUR
      have HX := Lib.hid (hok x (List.mem_cons_self ..))
      have HY := Lib.hid (hok y (List.mem_cons_of_mem _ (List.mem_cons_self ..)))
      have HOKR : Hid (∀ t ∈ r, okT t) := fun t ht => hok t (List.mem_cons_of_mem _ (List.mem_cons_of_mem _ ht))
      have hll : (q ++ [y, x]).length = k + 2 := by rw [List.length_append, hql]; rfl
      have hgx : (q ++ [y, x]).getD (k + 1) noTot = x := by
        rw [List.getD_eq_getElem?_getD, List.getElem?_append_right (by omega), hql, show k + 1 - k = 1 by omega]
        rfl
      have hgy : (q ++ [y, x]).getD k noTot = y := by
        rw [List.getD_eq_getElem?_getD, List.getElem?_append_right (by omega), hql, Nat.sub_self]
        rfl
      have HLD : Hid (∀ u : World, Row u g 29 cur → (loadVar 29 ((⟨g, 0, none⟩ : Addr).add ((k + 1) * 37))).run Tryd.prog u = .ok (totV x) u ∧ (loadVar 29 ((⟨g, 0, none⟩ : Addr).add (k * 37))).run Tryd.prog u = .ok (totV y) u) := fun u hu => by
        have hT := row_tots (cap := cap) hu hokl hll HCUR.out.2.2.2
        obtain ⟨a1, e1, h1⟩ := hT.loads hokl (k := k + 1) (by omega)
        obtain ⟨a2, e2, h2⟩ := hT.loads hokl (k := k) (by omega)
        cases e1
        cases e2
        have h1 := h1 u (EnvX.start u)
        have h2 := h2 u (EnvX.start u)
        rw [hgx] at h1
        rw [hgy] at h2
        exact ⟨h1.1, h2.1⟩
      have HK : Hid (k + 2 < 9223372036854775808) := by show _ < _; omega
      have HS1 : Hid (((k + 2 : Nat) : Int) - 1 = ((k + 1 : Nat) : Int) ∧ InI ((k + 1 : Nat) : Int)) := ⟨by omega, by unfold InI; omega⟩
      have HS2 : Hid (((k + 2 : Nat) : Int) - 2 = (k : Int) ∧ InI (k : Int)) := ⟨by omega, by unfold InI; omega⟩
      have HX1 : Hid (k + 1 < k + 2) := by show _ < _; omega
      have HX2 : Hid (k < k + 2) := by show _ < _; omega
      have HG2 : Hid (decide (((k + 2 : Nat) : Int) < 2) = false) := decide_eq_false (by omega)
      have HKB : Hid (k ≤ 1000000) := by show _ ≤ _; omega
      have HKC : Hid (k ≤ cap) := by show _ ≤ _; omega
      have HQL : Hid ((q.map totC).flatten.length = k * 37) := by show _ = _; rw [flatT_len hokq, hql]
      have HFK : Hid (FreshR 29 37 k (q.map totC).flatten (.slice (some ⟨g, 0, none⟩) k cap) [(g, Obj.cells cur 29 (0, 0))]) := by
        refine .inl ⟨g, cap, cur, rfl, rfl, HKC.out, HCUR.out.2.1, HCUR.out.2.2.1, ?_⟩
        have h := congrArg (List.take (k * 37)) HCUR.out.2.2.2
        rw [List.take_take, Nat.min_eq_left (by omega), List.map_append, List.flatten_append, List.take_left' HQL.out] at h
        exact h
      have HQQ := Lib.hid hq
      have HLEN := Lib.hid (And.intro hlen hk)
      have HQI := Lib.hid (And.intro hokl (And.intro hql hll))
      clear hok hokl hkl hk hq hl2 hgx hgy hlen hql hll hcap2 hokq
      by_cases hxy : (fun a b => decide (a.n = b.n)) y x = true
      · have HD : Hid (∀ u, Calls Tryd.prog 30 #[.agg (totA y), .agg (totA x)] u fun e w' => e = .returned (.bool true) ∧ Below u.heap.size u w') := fun u => by
          have h := alike_any y x u HY.out HX.out
          rwa [show decide (y.n = x.n) = true from hxy] at h
        have HCT : Hid (jlT (fun a b => decide (a.n = b.n)) x (y :: r) = jlT (fun a b => decide (a.n = b.n)) (joinT y x) r) := by show _ = _; rw [jlT, if_pos hxy]
        have HJ : Hid (∀ u, Below w0.heap.size w0 u → Calls Tryd.prog 20 #[.agg (totA y), .agg (totA x)] u fun e w' => e = .returned (.agg (totA (joinT y x))) ∧ Below u.heap.size u w') := fun u hb => mjoin_any y x u HY.out HX.out (HT.out.below hb)
        clear hxy
        go_upto_region 1 with (fail)
        refine wp_region_Hx (w0 := w0) [0, 1, 2] ((g, Obj.cells cur 29 (0, 0)) :: M0) rfl EK.out ?_
        refine lexH_phase [0, 1, 2] [] ?_
        have hw101 : EnvX w0 _ ((g, Obj.cells cur 29 (0, 0)) :: M0) := EK.out
        have hone := @EnvC.one _ _ _ hw101
        (refine wpG_op rfl rfl rfl ?_; intro K hK; go_big_quiet_op; go_big_quiet_on)
        (refine wpG_val (v := .int .i64 ((k + 2 : Nat) : Int)) rfl rfl (fun u hu => len_op Tryd.underlying22 HK.out u rfl) ?_ hw101; intro K hK; go_big_quiet_op; go_big_quiet_on)
        (refine wpG_op rfl rfl rfl ?_; intro K hK; go_big_quiet_op; go_big_quiet_on)
        clear hone hw101
        refine wpG_nil ?_
        intro u103 E2'
        have EX102 := Lib.hid E2'
        clear E2'
        go_upto_region 2 with (fail)
        refine wp_region_H (w0 := w0) ((g, Obj.cells cur 29 (0, 0)) :: M0) (by kernel_rfl) EX102.out ?_
        refine anyH_phase [0, 1, 2, 3, 4, 5, 6, 7, 8, 9, 10, 11, 12, 13, 14, 15, 16] 0 rfl ⟨_, (EnvX.drew EX102.out)⟩ (by kernel_rfl) ?_
        have hw104 : EnvX w0 _ ((g, Obj.cells cur 29 (0, 0)) :: M0) := (EnvX.drew EX102.out)
        have hone := @EnvC.one _ _ _ hw104
        (refine wpG_op rfl rfl rfl ?_; intro K hK; go_big_quiet_op; go_big_quiet_on)
        (refine wpG_val (v := .bool false) rfl rfl (fun u hu => lssI_op u HG2.out rfl rfl) ?_ hw104; intro K hK; go_big_quiet_op; go_big_quiet_on)
        (refine wpG_op rfl rfl rfl ?_; intro K hK; go_big_quiet_op; go_big_quiet_on)
        (refine wpG_op rfl rfl rfl ?_; intro K hK; go_big_quiet_op; go_big_quiet_on)
        (refine wpG_op rfl rfl rfl ?_; intro K hK; go_big_quiet_op; go_big_quiet_on)
        (refine wpG_op rfl rfl rfl ?_; intro K hK; go_big_quiet_op; go_big_quiet_on)
        (refine wpG_val (v := .int .i64 (k : Int)) rfl rfl (fun u hu => sub_op u HS2.out.1 HS2.out.2 rfl rfl) ?_ hw104; intro K hK; go_big_quiet_op; go_big_quiet_on)
        (refine wpG_val (v := .pointer (some ((⟨g, 0, none⟩ : Addr).add (k * 37)))) rfl rfl (fun u hu => idxSl_op Tryd.underlying22 aggTot.size HX2.out u rfl rfl) ?_ hw104; intro K hK; go_big_quiet_op; go_big_quiet_on)
        (refine wpG_val (v := .agg (totA y)) rfl rfl (fun u hu => load_any_op u (HLD.out u (EnvX.row hu (List.Mem.head _))).2 rfl) ?_ hw104; intro K hK; go_big_quiet_op; go_big_quiet_on)
        (refine wpG_op rfl rfl rfl ?_; intro K hK; go_big_quiet_op; go_big_quiet_on)
        (refine wpG_op rfl rfl rfl ?_; intro K hK; go_big_quiet_op; go_big_quiet_on)
        (refine wpG_val (v := .int .i64 ((k + 1 : Nat) : Int)) rfl rfl (fun u hu => sub_op u HS1.out.1 HS1.out.2 rfl rfl) ?_ hw104; intro K hK; go_big_quiet_op; go_big_quiet_on)
        (refine wpG_val (v := .pointer (some ((⟨g, 0, none⟩ : Addr).add ((k + 1) * 37)))) rfl rfl (fun u hu => idxSl_op Tryd.underlying22 aggTot.size HX1.out u rfl rfl) ?_ hw104; intro K hK; go_big_quiet_op; go_big_quiet_on)
        (refine wpG_val (v := .agg (totA x)) rfl rfl (fun u hu => load_any_op u (HLD.out u (EnvX.row hu (List.Mem.head _))).1 rfl) ?_ hw104; intro K hK; go_big_quiet_op; go_big_quiet_on)
        (refine wpG_callV (f := 30) (args := #[.agg (totA y), .agg (totA x)]) (caps := #[]) (all := #[.agg (totA y), .agg (totA x)]) (v := .bool true) rfl rfl rfl rfl rfl Tryd.func30 rfl rfl (fun u hu => HD.out u) ?_ hw104; intro K hK; go_big_quiet_op; go_big_quiet_on)
        (refine wpG_op rfl rfl rfl ?_; intro K hK; go_big_quiet_op; go_big_quiet_on)
        (refine wpG_op rfl rfl rfl ?_; intro K hK; go_big_quiet_op; go_big_quiet_on)
        clear hone hw104
        refine wpG_nil ?_
        refine anyH_done (by kernel_rfl) ?_
        intro u106 E2'
        have EX105 := Lib.hid E2'
        clear E2'
        go_upto_region 4 with (fail)
        refine wp_region_H (w0 := w0) ((g, Obj.cells cur 29 (0, 0)) :: M0) (by kernel_rfl) EX105.out ?_
        refine anyH_phase [0, 1, 2, 3, 4, 5, 6, 7, 8, 9, 10, 11, 12, 13, 14] 3 rfl ⟨_, (EnvX.drew EX105.out)⟩ (by kernel_rfl) ?_
        have hw107 : EnvX w0 _ ((g, Obj.cells cur 29 (0, 0)) :: M0) := (EnvX.drew EX105.out)
        have hone := @EnvC.one _ _ _ hw107
        (refine wpG_op rfl rfl rfl ?_; intro K hK; go_big_quiet_op; go_big_quiet_on)
        (refine wpG_op rfl rfl rfl ?_; intro K hK; go_big_quiet_op; go_big_quiet_on)
        (refine wpG_val (v := .int .i64 (k : Int)) rfl rfl (fun u hu => sub_op u HS2.out.1 HS2.out.2 rfl rfl) ?_ hw107; intro K hK; go_big_quiet_op; go_big_quiet_on)
        (refine wpG_val (v := .slice (some ⟨g, 0, none⟩) k cap) rfl rfl (fun u hu => cutXh_op elTot u HKC.out rfl rfl) ?_ hw107; intro K hK; go_big_quiet_op; go_big_quiet_on)
        (refine wpG_op rfl rfl rfl ?_; intro K hK; go_big_quiet_op; go_big_quiet_on)
        (refine wpG_op rfl rfl rfl ?_; intro K hK; go_big_quiet_op; go_big_quiet_on)
        (refine wpG_val (v := .int .i64 (k : Int)) rfl rfl (fun u hu => sub_op u HS2.out.1 HS2.out.2 rfl rfl) ?_ hw107; intro K hK; go_big_quiet_op; go_big_quiet_on)
        (refine wpG_val (v := .pointer (some ((⟨g, 0, none⟩ : Addr).add (k * 37)))) rfl rfl (fun u hu => idxSl_op Tryd.underlying22 aggTot.size HX2.out u rfl rfl) ?_ hw107; intro K hK; go_big_quiet_op; go_big_quiet_on)
        (refine wpG_val (v := .agg (totA y)) rfl rfl (fun u hu => load_any_op u (HLD.out u (EnvX.row hu (List.Mem.head _))).2 rfl) ?_ hw107; intro K hK; go_big_quiet_op; go_big_quiet_on)
        (refine wpG_op rfl rfl rfl ?_; intro K hK; go_big_quiet_op; go_big_quiet_on)
        (refine wpG_op rfl rfl rfl ?_; intro K hK; go_big_quiet_op; go_big_quiet_on)
        (refine wpG_val (v := .int .i64 ((k + 1 : Nat) : Int)) rfl rfl (fun u hu => sub_op u HS1.out.1 HS1.out.2 rfl rfl) ?_ hw107; intro K hK; go_big_quiet_op; go_big_quiet_on)
        (refine wpG_val (v := .pointer (some ((⟨g, 0, none⟩ : Addr).add ((k + 1) * 37)))) rfl rfl (fun u hu => idxSl_op Tryd.underlying22 aggTot.size HX1.out u rfl rfl) ?_ hw107; intro K hK; go_big_quiet_op; go_big_quiet_on)
        (refine wpG_val (v := .agg (totA x)) rfl rfl (fun u hu => load_any_op u (HLD.out u (EnvX.row hu (List.Mem.head _))).1 rfl) ?_ hw107; intro K hK; go_big_quiet_op; go_big_quiet_on)
        (refine wpG_call (f := 20) (args := #[.agg (totA y), .agg (totA x)]) (v := .agg (totA (joinT y x))) rfl rfl rfl Tryd.func20 rfl rfl (fun u hu => HJ.out u (EnvX.bel hu)) ?_ hw107; intro K hK; go_big_quiet_op; go_big_quiet_on)
        clear hone hw107
        refine wpG_nil ?_
        refine anyH_one (i := 15) (by kernel_rfl) (hOp_fresh (R := BuiltR 29 (totC (joinT y x))) (M0 := ((g, Obj.cells cur 29 (0, 0)) :: M0)) rfl rfl (fun _ h => h) (fun u hu => FAt_buildR elTot (totC_len join_ok.len) (totC_one _) rfl u) ?_)
        rintro _ _ ⟨gj, rfl, rfl⟩ hf he108; intro K' hK'; go_big_quiet_op; go_big_quiet_on
        have HGJ := Lib.hid (hf _ (List.mem_singleton.2 rfl))
        clear hf
        change anyH _ _ _ _ _ _ _ _ ((gj, Obj.cells (totC (joinT y x)).toArray 29 (0, 0)) :: ((g, Obj.cells cur 29 (0, 0)) :: M0))
        refine anyH_one (i := 16) (by kernel_rfl) (hOp_own (gd := none) (R := GrownR w0 29 37 (k + 1) ((q.map totC).flatten ++ totC (joinT y x)) M0) rfl rfl rfl rfl (fun u hu => appX_op elTot (m := 1) M0 hu HQL.out (by rw [Nat.one_mul]; exact totC_len join_ok.len) (totC_one _) HFK.out (List.forall_mem_cons.2 ⟨⟨(List.Mem.tail _ (List.Mem.head _)), HGW.out.1⟩, fun _ h => by cases h⟩) (src_box (k := 0) hu (List.Mem.head _) (by rw [List.drop_zero, List.take_length])) (fun z hz => ⟨List.Mem.tail _ (List.Mem.tail _ hz), fun y hy => by cases List.mem_singleton.1 hy; exact HGW.out.2 z hz⟩) (by have := HKB.out; omega) rfl rfl) ?_)
        rintro x9 M' ⟨N9, rfl, hF9, hn9⟩ he109; intro K' hK'; go_big_quiet_op; go_big_quiet_on
        have HF9 := Lib.hid (And.intro hF9 hn9)
        clear hF9 hn9
        change anyH _ _ _ _ _ _ _ _ (N9 ++ M0)
        refine anyH_phase [17] 0 rfl ⟨_, he109.choose_spec⟩ (by kernel_rfl) ?_
        have hw110 : EnvX w0 _ (N9 ++ M0) := he109.choose_spec
        have hone := @EnvC.one _ _ _ hw110
        (refine wpG_op rfl rfl rfl ?_; intro K hK; go_big_quiet_op; go_big_quiet_on)
        clear hone hw110
        refine wpG_nil ?_
        refine anyH_done (by kernel_rfl) ?_
        intro u112 E2'
        have EX111 := Lib.hid E2'
        clear E2'
        have HNX : Hid (JInv (fun a b => decide (a.n = b.n)) w0 M0 out 1000001 x9 u112) := by
          refine ⟨r, joinT y x, N9, ?_, by rw [← HCT.out]; exact HCAR.out, by have := HLEN.out; omega, ?_, HF9.out.2, EX111.out⟩
          · intro t ht
            rcases List.mem_cons.1 ht with rfl | h
            · exact join_ok
            · exact HOKR.out t h
          · have h := HF9.out.1
            rw [List.reverse_cons, HQQ.out, List.map_append, List.flatten_append, List.map_singleton, List.flatten_singleton, HLEN.out.2]
            exact h
        have HLV : Hid (lenV x9 = k + 1) := by
          rcases HF9.out.1 with ⟨_, _, _, e, _⟩ | ⟨_, _, e, _⟩
          · show _ = _; rw [e]; rfl
          · cases e
        go_wp2_with fail
        go_step3
        refine ⟨rfl, ⟨x9, _, _, _, _, _, _, _, _, _, _, _, _, _, _, _, _, _, _, _, _, _, _, _, _, _, _, _, _, _, _, _, _, _, _, _, _, _, _, rfl, HNX⟩, ?_⟩
        show lenV x9 < k + 2
        rw [HLV.out]
        omega
      · have hxy2 : decide (y.n = x.n) = false := by
          have h : (fun a b => decide (a.n = b.n)) y x = decide (y.n = x.n) := rfl
          rw [← h]
          exact Bool.eq_false_iff.2 hxy
        have HD : Hid (∀ u, Calls Tryd.prog 30 #[.agg (totA y), .agg (totA x)] u fun e w' => e = .returned (.bool false) ∧ Below u.heap.size u w') := fun u => by
          have h := alike_any y x u HY.out HX.out
          rwa [hxy2] at h
        have HOUT : Hid (out = q ++ [y, x]) := by
          show _ = _
          rw [← HCAR.out, jlT, if_neg hxy, List.reverse_cons, List.reverse_cons, HQQ.out, List.append_assoc]
          rfl
        clear hxy hxy2
        go_upto_region 1 with (fail)
        refine wp_region_Hx (w0 := w0) [0, 1, 2] ((g, Obj.cells cur 29 (0, 0)) :: M0) rfl EK.out ?_
        refine lexH_phase [0, 1, 2] [] ?_
        have hw101 : EnvX w0 _ ((g, Obj.cells cur 29 (0, 0)) :: M0) := EK.out
        have hone := @EnvC.one _ _ _ hw101
        (refine wpG_op rfl rfl rfl ?_; intro K hK; go_big_quiet_op; go_big_quiet_on)
        (refine wpG_val (v := .int .i64 ((k + 2 : Nat) : Int)) rfl rfl (fun u hu => len_op Tryd.underlying22 HK.out u rfl) ?_ hw101; intro K hK; go_big_quiet_op; go_big_quiet_on)
        (refine wpG_op rfl rfl rfl ?_; intro K hK; go_big_quiet_op; go_big_quiet_on)
        clear hone hw101
        refine wpG_nil ?_
        intro u103 E2'
        have EX102 := Lib.hid E2'
        clear E2'
        go_upto_region 2 with (fail)
        refine wp_region_H (w0 := w0) ((g, Obj.cells cur 29 (0, 0)) :: M0) (by kernel_rfl) EX102.out ?_
        refine anyH_phase [0, 1, 2, 3, 4, 5, 6, 7, 8, 9, 10, 11, 12, 13, 14, 15, 16] 0 rfl ⟨_, (EnvX.drew EX102.out)⟩ (by kernel_rfl) ?_
        have hw104 : EnvX w0 _ ((g, Obj.cells cur 29 (0, 0)) :: M0) := (EnvX.drew EX102.out)
        have hone := @EnvC.one _ _ _ hw104
        (refine wpG_op rfl rfl rfl ?_; intro K hK; go_big_quiet_op; go_big_quiet_on)
        (refine wpG_val (v := .bool false) rfl rfl (fun u hu => lssI_op u HG2.out rfl rfl) ?_ hw104; intro K hK; go_big_quiet_op; go_big_quiet_on)
        (refine wpG_op rfl rfl rfl ?_; intro K hK; go_big_quiet_op; go_big_quiet_on)
        (refine wpG_op rfl rfl rfl ?_; intro K hK; go_big_quiet_op; go_big_quiet_on)
        (refine wpG_op rfl rfl rfl ?_; intro K hK; go_big_quiet_op; go_big_quiet_on)
        (refine wpG_op rfl rfl rfl ?_; intro K hK; go_big_quiet_op; go_big_quiet_on)
        (refine wpG_val (v := .int .i64 (k : Int)) rfl rfl (fun u hu => sub_op u HS2.out.1 HS2.out.2 rfl rfl) ?_ hw104; intro K hK; go_big_quiet_op; go_big_quiet_on)
        (refine wpG_val (v := .pointer (some ((⟨g, 0, none⟩ : Addr).add (k * 37)))) rfl rfl (fun u hu => idxSl_op Tryd.underlying22 aggTot.size HX2.out u rfl rfl) ?_ hw104; intro K hK; go_big_quiet_op; go_big_quiet_on)
        (refine wpG_val (v := .agg (totA y)) rfl rfl (fun u hu => load_any_op u (HLD.out u (EnvX.row hu (List.Mem.head _))).2 rfl) ?_ hw104; intro K hK; go_big_quiet_op; go_big_quiet_on)
        (refine wpG_op rfl rfl rfl ?_; intro K hK; go_big_quiet_op; go_big_quiet_on)
        (refine wpG_op rfl rfl rfl ?_; intro K hK; go_big_quiet_op; go_big_quiet_on)
        (refine wpG_val (v := .int .i64 ((k + 1 : Nat) : Int)) rfl rfl (fun u hu => sub_op u HS1.out.1 HS1.out.2 rfl rfl) ?_ hw104; intro K hK; go_big_quiet_op; go_big_quiet_on)
        (refine wpG_val (v := .pointer (some ((⟨g, 0, none⟩ : Addr).add ((k + 1) * 37)))) rfl rfl (fun u hu => idxSl_op Tryd.underlying22 aggTot.size HX1.out u rfl rfl) ?_ hw104; intro K hK; go_big_quiet_op; go_big_quiet_on)
        (refine wpG_val (v := .agg (totA x)) rfl rfl (fun u hu => load_any_op u (HLD.out u (EnvX.row hu (List.Mem.head _))).1 rfl) ?_ hw104; intro K hK; go_big_quiet_op; go_big_quiet_on)
        (refine wpG_callV (f := 30) (args := #[.agg (totA y), .agg (totA x)]) (caps := #[]) (all := #[.agg (totA y), .agg (totA x)]) (v := .bool false) rfl rfl rfl rfl rfl Tryd.func30 rfl rfl (fun u hu => HD.out u) ?_ hw104; intro K hK; go_big_quiet_op; go_big_quiet_on)
        (refine wpG_op rfl rfl rfl ?_; intro K hK; go_big_quiet_op; go_big_quiet_on)
        (refine wpG_op rfl rfl rfl ?_; intro K hK; go_big_quiet_op; go_big_quiet_on)
        clear hone hw104
        refine wpG_nil ?_
        refine anyH_done (by kernel_rfl) ?_
        intro u106 E2'
        have EX105 := Lib.hid E2'
        clear E2'
        go_wp2_with fail
        simp only [Exit.jump]
        go_ret
        refine ⟨_, _, rfl, EX105.out, [(g, Obj.cells cur 29 (0, 0))], rfl, ?_, fun y hy => by cases List.mem_singleton.1 hy; exact HGW.out⟩
        rw [HOUT.out, HQI.out.2.2]
        exact .inl ⟨g, cap, cur, rfl, rfl, HCUR.out⟩
  · intro hrest
    go_upto_region 1 with (fail)
    refine wp_label ?_
    rename_i hK
    exact hK _ _ (hrest _ _ ⟨v, _, _, _, _, _, _, _, _, _, _, _, _, _, _, _, _, _, _, _, _, _, _, _, _, _, _, _, _, _, _, _, _, _, _, _, _, _, _, rfl, HI⟩)
/-- at the label, as the frame has it -/
def JjlR (w0 : World) (M0 : Boxes) (out : List Tot) (B : Nat) (a' : Act) (w' : World) : Prop :=
  ∃ (v u5_ u6_ u7_ u8_ u9_ u10_ u11_ u12_ u13_ u14_ u15_ u16_ u17_ u18_ u19_ u20_ u21_ u22_ u23_ u24_ u25_ u26_ u27_ u28_ u29_ u30_ u31_ u32_ u33_ u34_ u35_ u36_ u37_ u38_ u39_ u40_ u41_ u42_ : Value), a' = { tmps := List.toArray (v :: .func (.func 45) #[] #[] :: undef :: undef :: .slice none 0 0 :: u5_ :: u6_ :: u7_ :: u8_ :: u9_ :: u10_ :: u11_ :: u12_ :: u13_ :: u14_ :: u15_ :: u16_ :: u17_ :: u18_ :: u19_ :: u20_ :: u21_ :: u22_ :: u23_ :: u24_ :: u25_ :: u26_ :: u27_ :: u28_ :: u29_ :: u30_ :: u31_ :: u32_ :: u33_ :: u34_ :: u35_ :: u36_ :: u37_ :: u38_ :: u39_ :: u40_ :: u41_ :: u42_ :: []), defers := [] } ∧ Hid (JInv (fun _ _ => true) w0 M0 out B v w')
set_option maxRecDepth 20000 in
set_option maxHeartbeats 8000000 in
theorem jlR (w0 : World) (M0 : Boxes) (r : List Tot) (x : Tot) (v : Value) (N : Boxes) (w : World) (hok : okTs (x :: r)) (hB : r.length + 1 ≤ 1000001) (hF : FreshR 29 37 (r.length + 1) (((x :: r).reverse).map totC).flatten v N) (hfr : freshN w0 N M0) (hE : EnvX w0 w (N ++ M0)) (ht : Tables w0) :
    Calls Tryd.prog 31 #[v, .func (.func 45) #[] #[]] w fun e w'' => ∃ x' M', e = .returned x' ∧ EnvX w0 w'' M' ∧ JLeft w0 M0 ((jlT (fun _ _ => true) x r).reverse) x' M' := by
  have HI : Hid (JInv (fun _ _ => true) w0 M0 ((jlT (fun _ _ => true) x r).reverse) 1000001 v w) := ⟨r, x, N, hok, rfl, hB, hF, hfr, hE⟩
  have HT := Lib.hid ht
  obtain ⟨out, hout⟩ : ∃ out, (jlT (fun _ _ => true) x r).reverse = out := ⟨_, rfl⟩
  rw [hout] at HI ⊢
  clear hok hB hF hfr hE ht hout
  go_enter Tryd.func31, Tryd.ntmps31
  go_wp2_with fail
  refine wp_scope_jumps2 0 (JjlR w0 M0 out 1000001) (fun a' _ => lenV (a'.tmps.getD 0 undef)) rfl ?_ ?_
  · clear HI
    rintro a' w' ⟨v, u5_, u6_, u7_, u8_, u9_, u10_, u11_, u12_, u13_, u14_, u15_, u16_, u17_, u18_, u19_, u20_, u21_, u22_, u23_, u24_, u25_, u26_, u27_, u28_, u29_, u30_, u31_, u32_, u33_, u34_, u35_, u36_, u37_, u38_, u39_, u40_, u41_, u42_, rfl, hinv⟩
    obtain ⟨r, x, N, hok, hcar, hlen, hF, hfr, hE⟩ := hinv.out
    clear hinv
    obtain ⟨g, cap, cur, rfl, rfl, hcur⟩ | ⟨_, _, h0, _⟩ := hF
    case inr => cases h0
    have HGW := Lib.hid (hfr _ (List.mem_singleton.2 rfl))
    have HCUR := Lib.hid hcur
    have hcap := hcur.2.1
    have hcap2 := hcur.1
    have EK : Hid (EnvX w0 w' ((g, Obj.cells cur 29 (0, 0)) :: M0)) := hE
    have HCAR := Lib.hid hcar
    clear hcur hE hfr hcar
    unfold maxLen at hcap
    cases r with
    | nil =>
      have HOUT : Hid (out = [x]) := HCAR.out.symm
      have HOK1 := Lib.hid (hok x (List.mem_cons_self ..))
      have hl0 : ([] : List Tot).length + 1 = 1 := rfl
      rw [hl0] at HCUR hcap2 ⊢
      have HG0 : Hid (decide (((1 : Nat) : Int) < 2) = true) := Lib.hid (by decide : decide (((1 : Nat) : Int) < 2) = true)
      have H1B : Hid (1 < 9223372036854775808) := Lib.hid (by decide : 1 < 9223372036854775808)
      clear hok hl0
      go_upto_region 1 with (fail)
      refine wp_region_Hx (w0 := w0) [0, 1, 2] ((g, Obj.cells cur 29 (0, 0)) :: M0) rfl EK.out ?_
      refine lexH_phase [0, 1, 2] [] ?_
      have hw101 : EnvX w0 _ ((g, Obj.cells cur 29 (0, 0)) :: M0) := EK.out
      have hone := @EnvC.one _ _ _ hw101
      (refine wpG_op rfl rfl rfl ?_; intro K hK; go_big_quiet_op; go_big_quiet_on)
      (refine wpG_val (v := .int .i64 ((1 : Nat) : Int)) rfl rfl (fun u hu => len_op Tryd.underlying22 H1B.out u rfl) ?_ hw101; intro K hK; go_big_quiet_op; go_big_quiet_on)
      (refine wpG_op rfl rfl rfl ?_; intro K hK; go_big_quiet_op; go_big_quiet_on)
      clear hone hw101
      refine wpG_nil ?_
      intro u103 E2'
      have EX102 := Lib.hid E2'
      clear E2'
      go_upto_region 2 with (fail)
      refine wp_region_H (w0 := w0) ((g, Obj.cells cur 29 (0, 0)) :: M0) (by kernel_rfl) EX102.out ?_
      refine anyH_phase [0, 1, 2, 3, 4, 5, 6, 7, 8, 9, 10, 11, 12, 13, 14, 15, 16] 0 rfl ⟨_, (EnvX.drew EX102.out)⟩ (by kernel_rfl) ?_
      have hw104 : EnvX w0 _ ((g, Obj.cells cur 29 (0, 0)) :: M0) := (EnvX.drew EX102.out)
      have hone := @EnvC.one _ _ _ hw104
      (refine wpG_op rfl rfl rfl ?_; intro K hK; go_big_quiet_op; go_big_quiet_on)
      (refine wpG_val (v := .bool true) rfl rfl (fun u hu => lssI_op u HG0.out rfl rfl) ?_ hw104; intro K hK; go_big_quiet_op; go_big_quiet_on)
      (refine wpG_op rfl rfl rfl ?_; intro K hK; go_big_quiet_op; go_big_quiet_on)
      (refine wpG_skip rfl rfl ?_ hw104; intro K hK; go_big_quiet_op; go_big_quiet_on)
      (refine wpG_skip rfl rfl ?_ hw104; intro K hK; go_big_quiet_op; go_big_quiet_on)
      (refine wpG_skip rfl rfl ?_ hw104; intro K hK; go_big_quiet_op; go_big_quiet_on)
      (refine wpG_skip rfl rfl ?_ hw104; intro K hK; go_big_quiet_op; go_big_quiet_on)
      (refine wpG_skip rfl rfl ?_ hw104; intro K hK; go_big_quiet_op; go_big_quiet_on)
      (refine wpG_skip rfl rfl ?_ hw104; intro K hK; go_big_quiet_op; go_big_quiet_on)
      (refine wpG_skip rfl rfl ?_ hw104; intro K hK; go_big_quiet_op; go_big_quiet_on)
      (refine wpG_skip rfl rfl ?_ hw104; intro K hK; go_big_quiet_op; go_big_quiet_on)
      (refine wpG_skip rfl rfl ?_ hw104; intro K hK; go_big_quiet_op; go_big_quiet_on)
      (refine wpG_skip rfl rfl ?_ hw104; intro K hK; go_big_quiet_op; go_big_quiet_on)
      (refine wpG_skip rfl rfl ?_ hw104; intro K hK; go_big_quiet_op; go_big_quiet_on)
      (refine wpG_skip rfl rfl ?_ hw104; intro K hK; go_big_quiet_op; go_big_quiet_on)
      (refine wpG_skip rfl rfl ?_ hw104; intro K hK; go_big_quiet_op; go_big_quiet_on)
      (refine wpG_op rfl rfl rfl ?_; intro K hK; go_big_quiet_op; go_big_quiet_on)
      clear hone hw104
      refine wpG_nil ?_
      refine anyH_done (by kernel_rfl) ?_
      intro u106 E2'
      have EX105 := Lib.hid E2'
      clear E2'
      go_wp2_with fail
      simp only [Exit.jump]
      go_ret
      refine ⟨_, _, rfl, EX105.out, [(g, Obj.cells cur 29 (0, 0))], rfl, ?_, fun y hy => by cases List.mem_singleton.1 hy; exact HGW.out⟩
      rw [HOUT.out]
      exact .inl ⟨g, cap, cur, rfl, rfl, HCUR.out⟩
    | cons y r =>
      obtain ⟨k, hk⟩ : ∃ k, r.length = k := ⟨_, rfl⟩
      have hkl : (y :: r).length + 1 = k + 2 := by rw [List.length_cons, hk]
      rw [hkl] at HCUR hlen hcap2 ⊢
      obtain ⟨q, hq⟩ : ∃ q, r.reverse = q := ⟨_, rfl⟩
      have hl2 : (x :: y :: r).reverse = q ++ [y, x] := by rw [List.reverse_cons, List.reverse_cons, hq, List.append_assoc]; rfl
      have hql : q.length = k := by rw [← hq, List.length_reverse, hk]
      have hokl : okTs (q ++ [y, x]) := fun t ht => hok t (by rw [← List.mem_reverse, hl2]; exact ht)
      have hokq : okTs q := fun t ht => hokl t (List.mem_append_left _ ht)
      rw [hl2] at HCUR
      have HX := Lib.hid (hok x (List.mem_cons_self ..))
      have HY := Lib.hid (hok y (List.mem_cons_of_mem _ (List.mem_cons_self ..)))
      have HOKR : Hid (∀ t ∈ r, okT t) := fun t ht => hok t (List.mem_cons_of_mem _ (List.mem_cons_of_mem _ ht))
      have hll : (q ++ [y, x]).length = k + 2 := by rw [List.length_append, hql]; rfl
      have hgx : (q ++ [y, x]).getD (k + 1) noTot = x := by
        rw [List.getD_eq_getElem?_getD, List.getElem?_append_right (by omega), hql, show k + 1 - k = 1 by omega]
        rfl
      have hgy : (q ++ [y, x]).getD k noTot = y := by
        rw [List.getD_eq_getElem?_getD, List.getElem?_append_right (by omega), hql, Nat.sub_self]
        rfl
      have HLD : Hid (∀ u : World, Row u g 29 cur → (loadVar 29 ((⟨g, 0, none⟩ : Addr).add ((k + 1) * 37))).run Tryd.prog u = .ok (totV x) u ∧ (loadVar 29 ((⟨g, 0, none⟩ : Addr).add (k * 37))).run Tryd.prog u = .ok (totV y) u) := fun u hu => by
        have hT := row_tots (cap := cap) hu hokl hll HCUR.out.2.2.2
        obtain ⟨a1, e1, h1⟩ := hT.loads hokl (k := k + 1) (by omega)
        obtain ⟨a2, e2, h2⟩ := hT.loads hokl (k := k) (by omega)
        cases e1
        cases e2
        have h1 := h1 u (EnvX.start u)
        have h2 := h2 u (EnvX.start u)
        rw [hgx] at h1
        rw [hgy] at h2
        exact ⟨h1.1, h2.1⟩
      have HK : Hid (k + 2 < 9223372036854775808) := by show _ < _; omega
      have HS1 : Hid (((k + 2 : Nat) : Int) - 1 = ((k + 1 : Nat) : Int) ∧ InI ((k + 1 : Nat) : Int)) := ⟨by omega, by unfold InI; omega⟩
      have HS2 : Hid (((k + 2 : Nat) : Int) - 2 = (k : Int) ∧ InI (k : Int)) := ⟨by omega, by unfold InI; omega⟩
      have HX1 : Hid (k + 1 < k + 2) := by show _ < _; omega
      have HX2 : Hid (k < k + 2) := by show _ < _; omega
      have HG2 : Hid (decide (((k + 2 : Nat) : Int) < 2) = false) := decide_eq_false (by omega)
      have HKB : Hid (k ≤ 1000000) := by show _ ≤ _; omega
      have HKC : Hid (k ≤ cap) := by show _ ≤ _; omega
      have HQL : Hid ((q.map totC).flatten.length = k * 37) := by show _ = _; rw [flatT_len hokq, hql]
      have HFK : Hid (FreshR 29 37 k (q.map totC).flatten (.slice (some ⟨g, 0, none⟩) k cap) [(g, Obj.cells cur 29 (0, 0))]) := by
        refine .inl ⟨g, cap, cur, rfl, rfl, HKC.out, HCUR.out.2.1, HCUR.out.2.2.1, ?_⟩
        have h := congrArg (List.take (k * 37)) HCUR.out.2.2.2
        rw [List.take_take, Nat.min_eq_left (by omega), List.map_append, List.flatten_append, List.take_left' HQL.out] at h
        exact h
      have HQQ := Lib.hid hq
      have HLEN := Lib.hid (And.intro hlen hk)
      have HQI := Lib.hid (And.intro hokl (And.intro hql hll))
      clear hok hokl hkl hk hq hl2 hgx hgy hlen hql hll hcap2 hokq
      by_cases hxy : (fun _ _ => true) y x = true
      · have HD : Hid (∀ u, Calls Tryd.prog 45 #[.agg (totA y), .agg (totA x)] u fun e w' => e = .returned (.bool true) ∧ Below u.heap.size u w') := fun u => by
          have h := always_any y x u HY.out HX.out
          rwa [show true = true from hxy] at h
        have HCT : Hid (jlT (fun _ _ => true) x (y :: r) = jlT (fun _ _ => true) (joinT y x) r) := by show _ = _; rw [jlT, if_pos hxy]
        have HJ : Hid (∀ u, Below w0.heap.size w0 u → Calls Tryd.prog 20 #[.agg (totA y), .agg (totA x)] u fun e w' => e = .returned (.agg (totA (joinT y x))) ∧ Below u.heap.size u w') := fun u hb => mjoin_any y x u HY.out HX.out (HT.out.below hb)
        clear hxy
        go_upto_region 1 with (fail)
        refine wp_region_Hx (w0 := w0) [0, 1, 2] ((g, Obj.cells cur 29 (0, 0)) :: M0) rfl EK.out ?_
        refine lexH_phase [0, 1, 2] [] ?_
        have hw101 : EnvX w0 _ ((g, Obj.cells cur 29 (0, 0)) :: M0) := EK.out
        have hone := @EnvC.one _ _ _ hw101
        (refine wpG_op rfl rfl rfl ?_; intro K hK; go_big_quiet_op; go_big_quiet_on)
        (refine wpG_val (v := .int .i64 ((k + 2 : Nat) : Int)) rfl rfl (fun u hu => len_op Tryd.underlying22 HK.out u rfl) ?_ hw101; intro K hK; go_big_quiet_op; go_big_quiet_on)
        (refine wpG_op rfl rfl rfl ?_; intro K hK; go_big_quiet_op; go_big_quiet_on)
        clear hone hw101
        refine wpG_nil ?_
        intro u103 E2'
        have EX102 := Lib.hid E2'
        clear E2'
        go_upto_region 2 with (fail)
        refine wp_region_H (w0 := w0) ((g, Obj.cells cur 29 (0, 0)) :: M0) (by kernel_rfl) EX102.out ?_
        refine anyH_phase [0, 1, 2, 3, 4, 5, 6, 7, 8, 9, 10, 11, 12, 13, 14, 15, 16] 0 rfl ⟨_, (EnvX.drew EX102.out)⟩ (by kernel_rfl) ?_
        have hw104 : EnvX w0 _ ((g, Obj.cells cur 29 (0, 0)) :: M0) := (EnvX.drew EX102.out)
        have hone := @EnvC.one _ _ _ hw104
        (refine wpG_op rfl rfl rfl ?_; intro K hK; go_big_quiet_op; go_big_quiet_on)
        (refine wpG_val (v := .bool false) rfl rfl (fun u hu => lssI_op u HG2.out rfl rfl) ?_ hw104; intro K hK; go_big_quiet_op; go_big_quiet_on)
        (refine wpG_op rfl rfl rfl ?_; intro K hK; go_big_quiet_op; go_big_quiet_on)
        (refine wpG_op rfl rfl rfl ?_; intro K hK; go_big_quiet_op; go_big_quiet_on)
        (refine wpG_op rfl rfl rfl ?_; intro K hK; go_big_quiet_op; go_big_quiet_on)
        (refine wpG_op rfl rfl rfl ?_; intro K hK; go_big_quiet_op; go_big_quiet_on)
        (refine wpG_val (v := .int .i64 (k : Int)) rfl rfl (fun u hu => sub_op u HS2.out.1 HS2.out.2 rfl rfl) ?_ hw104; intro K hK; go_big_quiet_op; go_big_quiet_on)
        (refine wpG_val (v := .pointer (some ((⟨g, 0, none⟩ : Addr).add (k * 37)))) rfl rfl (fun u hu => idxSl_op Tryd.underlying22 aggTot.size HX2.out u rfl rfl) ?_ hw104; intro K hK; go_big_quiet_op; go_big_quiet_on)
        (refine wpG_val (v := .agg (totA y)) rfl rfl (fun u hu => load_any_op u (HLD.out u (EnvX.row hu (List.Mem.head _))).2 rfl) ?_ hw104; intro K hK; go_big_quiet_op; go_big_quiet_on)
        (refine wpG_op rfl rfl rfl ?_; intro K hK; go_big_quiet_op; go_big_quiet_on)
        (refine wpG_op rfl rfl rfl ?_; intro K hK; go_big_quiet_op; go_big_quiet_on)
        (refine wpG_val (v := .int .i64 ((k + 1 : Nat) : Int)) rfl rfl (fun u hu => sub_op u HS1.out.1 HS1.out.2 rfl rfl) ?_ hw104; intro K hK; go_big_quiet_op; go_big_quiet_on)
        (refine wpG_val (v := .pointer (some ((⟨g, 0, none⟩ : Addr).add ((k + 1) * 37)))) rfl rfl (fun u hu => idxSl_op Tryd.underlying22 aggTot.size HX1.out u rfl rfl) ?_ hw104; intro K hK; go_big_quiet_op; go_big_quiet_on)
        (refine wpG_val (v := .agg (totA x)) rfl rfl (fun u hu => load_any_op u (HLD.out u (EnvX.row hu (List.Mem.head _))).1 rfl) ?_ hw104; intro K hK; go_big_quiet_op; go_big_quiet_on)
        (refine wpG_callV (f := 45) (args := #[.agg (totA y), .agg (totA x)]) (caps := #[]) (all := #[.agg (totA y), .agg (totA x)]) (v := .bool true) rfl rfl rfl rfl rfl Tryd.func45 rfl rfl (fun u hu => HD.out u) ?_ hw104; intro K hK; go_big_quiet_op; go_big_quiet_on)
        (refine wpG_op rfl rfl rfl ?_; intro K hK; go_big_quiet_op; go_big_quiet_on)
        (refine wpG_op rfl rfl rfl ?_; intro K hK; go_big_quiet_op; go_big_quiet_on)
        clear hone hw104
        refine wpG_nil ?_
        refine anyH_done (by kernel_rfl) ?_
        intro u106 E2'
        have EX105 := Lib.hid E2'
        clear E2'
        go_upto_region 4 with (fail)
        refine wp_region_H (w0 := w0) ((g, Obj.cells cur 29 (0, 0)) :: M0) (by kernel_rfl) EX105.out ?_
        refine anyH_phase [0, 1, 2, 3, 4, 5, 6, 7, 8, 9, 10, 11, 12, 13, 14] 3 rfl ⟨_, (EnvX.drew EX105.out)⟩ (by kernel_rfl) ?_
        have hw107 : EnvX w0 _ ((g, Obj.cells cur 29 (0, 0)) :: M0) := (EnvX.drew EX105.out)
        have hone := @EnvC.one _ _ _ hw107
        (refine wpG_op rfl rfl rfl ?_; intro K hK; go_big_quiet_op; go_big_quiet_on)
        (refine wpG_op rfl rfl rfl ?_; intro K hK; go_big_quiet_op; go_big_quiet_on)
        (refine wpG_val (v := .int .i64 (k : Int)) rfl rfl (fun u hu => sub_op u HS2.out.1 HS2.out.2 rfl rfl) ?_ hw107; intro K hK; go_big_quiet_op; go_big_quiet_on)
        (refine wpG_val (v := .slice (some ⟨g, 0, none⟩) k cap) rfl rfl (fun u hu => cutXh_op elTot u HKC.out rfl rfl) ?_ hw107; intro K hK; go_big_quiet_op; go_big_quiet_on)
        (refine wpG_op rfl rfl rfl ?_; intro K hK; go_big_quiet_op; go_big_quiet_on)
        (refine wpG_op rfl rfl rfl ?_; intro K hK; go_big_quiet_op; go_big_quiet_on)
        (refine wpG_val (v := .int .i64 (k : Int)) rfl rfl (fun u hu => sub_op u HS2.out.1 HS2.out.2 rfl rfl) ?_ hw107; intro K hK; go_big_quiet_op; go_big_quiet_on)
        (refine wpG_val (v := .pointer (some ((⟨g, 0, none⟩ : Addr).add (k * 37)))) rfl rfl (fun u hu => idxSl_op Tryd.underlying22 aggTot.size HX2.out u rfl rfl) ?_ hw107; intro K hK; go_big_quiet_op; go_big_quiet_on)
        (refine wpG_val (v := .agg (totA y)) rfl rfl (fun u hu => load_any_op u (HLD.out u (EnvX.row hu (List.Mem.head _))).2 rfl) ?_ hw107; intro K hK; go_big_quiet_op; go_big_quiet_on)
        (refine wpG_op rfl rfl rfl ?_; intro K hK; go_big_quiet_op; go_big_quiet_on)
        (refine wpG_op rfl rfl rfl ?_; intro K hK; go_big_quiet_op; go_big_quiet_on)
        (refine wpG_val (v := .int .i64 ((k + 1 : Nat) : Int)) rfl rfl (fun u hu => sub_op u HS1.out.1 HS1.out.2 rfl rfl) ?_ hw107; intro K hK; go_big_quiet_op; go_big_quiet_on)
        (refine wpG_val (v := .pointer (some ((⟨g, 0, none⟩ : Addr).add ((k + 1) * 37)))) rfl rfl (fun u hu => idxSl_op Tryd.underlying22 aggTot.size HX1.out u rfl rfl) ?_ hw107; intro K hK; go_big_quiet_op; go_big_quiet_on)
        (refine wpG_val (v := .agg (totA x)) rfl rfl (fun u hu => load_any_op u (HLD.out u (EnvX.row hu (List.Mem.head _))).1 rfl) ?_ hw107; intro K hK; go_big_quiet_op; go_big_quiet_on)
        (refine wpG_call (f := 20) (args := #[.agg (totA y), .agg (totA x)]) (v := .agg (totA (joinT y x))) rfl rfl rfl Tryd.func20 rfl rfl (fun u hu => HJ.out u (EnvX.bel hu)) ?_ hw107; intro K hK; go_big_quiet_op; go_big_quiet_on)
        clear hone hw107
        refine wpG_nil ?_
        refine anyH_one (i := 15) (by kernel_rfl) (hOp_fresh (R := BuiltR 29 (totC (joinT y x))) (M0 := ((g, Obj.cells cur 29 (0, 0)) :: M0)) rfl rfl (fun _ h => h) (fun u hu => FAt_buildR elTot (totC_len join_ok.len) (totC_one _) rfl u) ?_)
        rintro _ _ ⟨gj, rfl, rfl⟩ hf he108; intro K' hK'; go_big_quiet_op; go_big_quiet_on
        have HGJ := Lib.hid (hf _ (List.mem_singleton.2 rfl))
        clear hf
        change anyH _ _ _ _ _ _ _ _ ((gj, Obj.cells (totC (joinT y x)).toArray 29 (0, 0)) :: ((g, Obj.cells cur 29 (0, 0)) :: M0))
        refine anyH_one (i := 16) (by kernel_rfl) (hOp_own (gd := none) (R := GrownR w0 29 37 (k + 1) ((q.map totC).flatten ++ totC (joinT y x)) M0) rfl rfl rfl rfl (fun u hu => appX_op elTot (m := 1) M0 hu HQL.out (by rw [Nat.one_mul]; exact totC_len join_ok.len) (totC_one _) HFK.out (List.forall_mem_cons.2 ⟨⟨(List.Mem.tail _ (List.Mem.head _)), HGW.out.1⟩, fun _ h => by cases h⟩) (src_box (k := 0) hu (List.Mem.head _) (by rw [List.drop_zero, List.take_length])) (fun z hz => ⟨List.Mem.tail _ (List.Mem.tail _ hz), fun y hy => by cases List.mem_singleton.1 hy; exact HGW.out.2 z hz⟩) (by have := HKB.out; omega) rfl rfl) ?_)
        rintro x9 M' ⟨N9, rfl, hF9, hn9⟩ he109; intro K' hK'; go_big_quiet_op; go_big_quiet_on
        have HF9 := Lib.hid (And.intro hF9 hn9)
        clear hF9 hn9
        change anyH _ _ _ _ _ _ _ _ (N9 ++ M0)
        refine anyH_phase [17] 0 rfl ⟨_, he109.choose_spec⟩ (by kernel_rfl) ?_
        have hw110 : EnvX w0 _ (N9 ++ M0) := he109.choose_spec
        have hone := @EnvC.one _ _ _ hw110
        (refine wpG_op rfl rfl rfl ?_; intro K hK; go_big_quiet_op; go_big_quiet_on)
        clear hone hw110
        refine wpG_nil ?_
        refine anyH_done (by kernel_rfl) ?_
        intro u112 E2'
        have EX111 := Lib.hid E2'
        clear E2'
        have HNX : Hid (JInv (fun _ _ => true) w0 M0 out 1000001 x9 u112) := by
          refine ⟨r, joinT y x, N9, ?_, by rw [← HCT.out]; exact HCAR.out, by have := HLEN.out; omega, ?_, HF9.out.2, EX111.out⟩
          · intro t ht
            rcases List.mem_cons.1 ht with rfl | h
            · exact join_ok
            · exact HOKR.out t h
          · have h := HF9.out.1
            rw [List.reverse_cons, HQQ.out, List.map_append, List.flatten_append, List.map_singleton, List.flatten_singleton, HLEN.out.2]
            exact h
        have HLV : Hid (lenV x9 = k + 1) := by
          rcases HF9.out.1 with ⟨_, _, _, e, _⟩ | ⟨_, _, e, _⟩
          · show _ = _; rw [e]; rfl
          · cases e
        go_wp2_with fail
        go_step3
        refine ⟨rfl, ⟨x9, _, _, _, _, _, _, _, _, _, _, _, _, _, _, _, _, _, _, _, _, _, _, _, _, _, _, _, _, _, _, _, _, _, _, _, _, _, _, rfl, HNX⟩, ?_⟩
        show lenV x9 < k + 2
        rw [HLV.out]
        omega
      · have hxy2 : true = false := by
          have h : (fun _ _ => true) y x = true := rfl
          rw [← h]
          exact Bool.eq_false_iff.2 hxy
        have HD : Hid (∀ u, Calls Tryd.prog 45 #[.agg (totA y), .agg (totA x)] u fun e w' => e = .returned (.bool false) ∧ Below u.heap.size u w') := fun u => by
          have h := always_any y x u HY.out HX.out
          rwa [hxy2] at h
        have HOUT : Hid (out = q ++ [y, x]) := by
          show _ = _
          rw [← HCAR.out, jlT, if_neg hxy, List.reverse_cons, List.reverse_cons, HQQ.out, List.append_assoc]
          rfl
        clear hxy hxy2
        go_upto_region 1 with (fail)
        refine wp_region_Hx (w0 := w0) [0, 1, 2] ((g, Obj.cells cur 29 (0, 0)) :: M0) rfl EK.out ?_
        refine lexH_phase [0, 1, 2] [] ?_
        have hw101 : EnvX w0 _ ((g, Obj.cells cur 29 (0, 0)) :: M0) := EK.out
        have hone := @EnvC.one _ _ _ hw101
        (refine wpG_op rfl rfl rfl ?_; intro K hK; go_big_quiet_op; go_big_quiet_on)
        (refine wpG_val (v := .int .i64 ((k + 2 : Nat) : Int)) rfl rfl (fun u hu => len_op Tryd.underlying22 HK.out u rfl) ?_ hw101; intro K hK; go_big_quiet_op; go_big_quiet_on)
        (refine wpG_op rfl rfl rfl ?_; intro K hK; go_big_quiet_op; go_big_quiet_on)
        clear hone hw101
        refine wpG_nil ?_
        intro u103 E2'
        have EX102 := Lib.hid E2'
        clear E2'
        go_upto_region 2 with (fail)
        refine wp_region_H (w0 := w0) ((g, Obj.cells cur 29 (0, 0)) :: M0) (by kernel_rfl) EX102.out ?_
        refine anyH_phase [0, 1, 2, 3, 4, 5, 6, 7, 8, 9, 10, 11, 12, 13, 14, 15, 16] 0 rfl ⟨_, (EnvX.drew EX102.out)⟩ (by kernel_rfl) ?_
        have hw104 : EnvX w0 _ ((g, Obj.cells cur 29 (0, 0)) :: M0) := (EnvX.drew EX102.out)
        have hone := @EnvC.one _ _ _ hw104
        (refine wpG_op rfl rfl rfl ?_; intro K hK; go_big_quiet_op; go_big_quiet_on)
        (refine wpG_val (v := .bool false) rfl rfl (fun u hu => lssI_op u HG2.out rfl rfl) ?_ hw104; intro K hK; go_big_quiet_op; go_big_quiet_on)
        (refine wpG_op rfl rfl rfl ?_; intro K hK; go_big_quiet_op; go_big_quiet_on)
        (refine wpG_op rfl rfl rfl ?_; intro K hK; go_big_quiet_op; go_big_quiet_on)
        (refine wpG_op rfl rfl rfl ?_; intro K hK; go_big_quiet_op; go_big_quiet_on)
        (refine wpG_op rfl rfl rfl ?_; intro K hK; go_big_quiet_op; go_big_quiet_on)
        (refine wpG_val (v := .int .i64 (k : Int)) rfl rfl (fun u hu => sub_op u HS2.out.1 HS2.out.2 rfl rfl) ?_ hw104; intro K hK; go_big_quiet_op; go_big_quiet_on)
        (refine wpG_val (v := .pointer (some ((⟨g, 0, none⟩ : Addr).add (k * 37)))) rfl rfl (fun u hu => idxSl_op Tryd.underlying22 aggTot.size HX2.out u rfl rfl) ?_ hw104; intro K hK; go_big_quiet_op; go_big_quiet_on)
        (refine wpG_val (v := .agg (totA y)) rfl rfl (fun u hu => load_any_op u (HLD.out u (EnvX.row hu (List.Mem.head _))).2 rfl) ?_ hw104; intro K hK; go_big_quiet_op; go_big_quiet_on)
        (refine wpG_op rfl rfl rfl ?_; intro K hK; go_big_quiet_op; go_big_quiet_on)
        (refine wpG_op rfl rfl rfl ?_; intro K hK; go_big_quiet_op; go_big_quiet_on)
        (refine wpG_val (v := .int .i64 ((k + 1 : Nat) : Int)) rfl rfl (fun u hu => sub_op u HS1.out.1 HS1.out.2 rfl rfl) ?_ hw104; intro K hK; go_big_quiet_op; go_big_quiet_on)
        (refine wpG_val (v := .pointer (some ((⟨g, 0, none⟩ : Addr).add ((k + 1) * 37)))) rfl rfl (fun u hu => idxSl_op Tryd.underlying22 aggTot.size HX1.out u rfl rfl) ?_ hw104; intro K hK; go_big_quiet_op; go_big_quiet_on)
        (refine wpG_val (v := .agg (totA x)) rfl rfl (fun u hu => load_any_op u (HLD.out u (EnvX.row hu (List.Mem.head _))).1 rfl) ?_ hw104; intro K hK; go_big_quiet_op; go_big_quiet_on)
        (refine wpG_callV (f := 45) (args := #[.agg (totA y), .agg (totA x)]) (caps := #[]) (all := #[.agg (totA y), .agg (totA x)]) (v := .bool false) rfl rfl rfl rfl rfl Tryd.func45 rfl rfl (fun u hu => HD.out u) ?_ hw104; intro K hK; go_big_quiet_op; go_big_quiet_on)
        (refine wpG_op rfl rfl rfl ?_; intro K hK; go_big_quiet_op; go_big_quiet_on)
        (refine wpG_op rfl rfl rfl ?_; intro K hK; go_big_quiet_op; go_big_quiet_on)
        clear hone hw104
        refine wpG_nil ?_
        refine anyH_done (by kernel_rfl) ?_
        intro u106 E2'
        have EX105 := Lib.hid E2'
        clear E2'
        go_wp2_with fail
        simp only [Exit.jump]
        go_ret
        refine ⟨_, _, rfl, EX105.out, [(g, Obj.cells cur 29 (0, 0))], rfl, ?_, fun y hy => by cases List.mem_singleton.1 hy; exact HGW.out⟩
        rw [HOUT.out, HQI.out.2.2]
        exact .inl ⟨g, cap, cur, rfl, rfl, HCUR.out⟩
  · intro hrest
    go_upto_region 1 with (fail)
    refine wp_label ?_
    rename_i hK
    exact hK _ _ (hrest _ _ ⟨v, _, _, _, _, _, _, _, _, _, _, _, _, _, _, _, _, _, _, _, _, _, _, _, _, _, _, _, _, _, _, _, _, _, _, _, _, _, _, rfl, HI⟩)
end Go.Proofs.YtbmiecogjmbciaaDoor
