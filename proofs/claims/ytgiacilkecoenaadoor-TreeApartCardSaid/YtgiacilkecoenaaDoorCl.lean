/- Bytes in regions that are walked over boxes: conversions, cuts; calls that hand back new bytes. -/
import Derived.Test.YtgiacilkecoenaaDoorCk
namespace Go.Proofs.YtgiacilkecoenaaDoor
open Go.RowKit

section
variable {a : Act} {dst : Option Tmp} {x l h : Operand} {ty : TypeId} {pos : String} {after : Array Edge} {gd : Option (Nat × Bool)}
theorem conv_op {A : Option Addr} {n c B : Nat} {xs : List Int} {s : ByteArray} (u : World) (hl : xs.length = n) (h : Bytes u B A xs) (hs : strOfNums xs = s) (hx : a.eval x = .slice A n c) :
    (execOp a.eval ⟨dst, .convert 23 9 x, ty, pos, after, gd⟩).run Tryd.prog u = .ok (.value (.string s)) u := by
  subst hs
  unfold execOp
  simp only [hx, Sem.run_bind, Sem.run_pure, Result.andThen_ok, conv_bytes A n c B xs u hl h]
theorem cut2_op {A : Option Addr} {n c i j : Nat} (u : World) (h1 : i ≤ j) (h2 : j ≤ c) (hx : a.eval x = .slice A n c) (hl : a.eval l = .int .i64 (i : Int)) (hh : a.eval h = .int .i64 (j : Int)) :
    (execOp a.eval ⟨dst, .slice 23 x (some l) (some h) none, ty, pos, after, gd⟩).run Tryd.prog u = .ok (.value (.slice (cutA A i c) (j - i) (c - i))) u := by
  unfold execOp
  simp only [hx, hl, hh, Option.map_some, Option.map_none, Sem.run_bind, Sem.run_pure, Result.andThen_ok, run_cut2 A n c i j u h1 h2]
theorem eqs_op {s s' : ByteArray} {b : Bool} (u : World) (hb : (s.toList == s'.toList) = b) (hx : a.eval x = .string s) (hy : a.eval l = .string s') :
    (execOp a.eval ⟨dst, .binOp .eql 9 x l 9, ty, pos, after, gd⟩).run Tryd.prog u = .ok (.value (.bool b)) u := by
  subst hb
  unfold execOp
  simp only [hx, hy]
  go_simp
theorem nes_op {s s' : ByteArray} {b : Bool} (u : World) (hb : (!(s.toList == s'.toList)) = b) (hx : a.eval x = .string s) (hy : a.eval l = .string s') :
    (execOp a.eval ⟨dst, .binOp .neq 9 x l 9, ty, pos, after, gd⟩).run Tryd.prog u = .ok (.value (.bool b)) u := by
  subst hb
  unfold execOp
  simp only [hx, hy]
  go_simp
end
/-- new bytes, as boxes -/
def FreshB (xs : List Int) (x : Value) (N : Boxes) : Prop := ∃ g cap cur, x = .slice (some ⟨g, 0, none⟩) xs.length cap ∧ N = [(g, Obj.cells cur 5 (0, 0))] ∧ xs.length ≤ cap ∧ cap ≤ maxLen ∧ cur.size = cap * 1 ∧ cur.toList.take (xs.length * 1) = xs.map u8v
theorem OwnB.fresh {w : World} {B : Nat} {v : Value} {xs : List Int} (h : OwnB w B v xs) (hp : 0 < xs.length) : ∃ N, FreshB xs v N ∧ ∀ y ∈ N, B ≤ y.1 ∧ w.heap[y.1]? = some y.2 := by
  rcases h.2 with ⟨_, e⟩ | ⟨g, cap, cur, rfl, h1, h2, h3, h4, h5, h6⟩
  · omega
  · refine ⟨_, ⟨g, cap, cur, rfl, rfl, h3, h4, h5, h6⟩, fun y hy => ?_⟩
    cases List.mem_singleton.1 hy
    exact ⟨h1, h2⟩
/-- a call that hands back new bytes -/
theorem calls_fresh {f : FuncId} {args : Array Value} {u : World} {xs : List Int} (hp : 0 < xs.length) (h : Calls Tryd.prog f args u fun e w' => (∃ v, e = .returned v ∧ OwnB w' u.heap.size v xs) ∧ Below u.heap.size u w') :
    Calls Tryd.prog f args u fun e w'' => ∃ x N, e = .returned x ∧ FreshB xs x N ∧ Below u.heap.size u w'' ∧ ∀ y ∈ N, u.heap.size ≤ y.1 ∧ w''.heap[y.1]? = some y.2 :=
  h.mono fun e w'' ⟨⟨v, he, ho⟩, hb⟩ => by
    obtain ⟨N, hN, hm⟩ := ho.fresh hp
    exact ⟨v, N, he, hN, hb, hm⟩
/-- the bytes of a box -/
theorem box_bytes {w0 u : World} {M : Boxes} {g cap : Nat} {cur : Array Value} {xs : List Int} (hu : EnvC w0 M u) (hm : (g, Obj.cells cur 5 (0, 0)) ∈ M) (h : xs.length ≤ cap ∧ cap ≤ maxLen ∧ cur.size = cap * 1 ∧ cur.toList.take (xs.length * 1) = xs.map u8v) : Bytes u u.heap.size (some ⟨g, 0, none⟩) xs := by
  have : OwnB u 0 (.slice (some ⟨g, 0, none⟩) xs.length cap) xs := ⟨by simp, .inr ⟨g, cap, cur, rfl, Nat.zero_le _, EnvX.box hu g _ hm, h.1, h.2.1, h.2.2.1, h.2.2.2⟩⟩
  exact this.bytes.2
end Go.Proofs.YtgiacilkecoenaaDoor

/- The reference's Clash. -/
namespace Go.Proofs.YtgiacilkecoenaaDoor
open Go.RowKit

theorem rcheck_any (root leaf : List Int) (n i : Int) (p : List (List Int)) (A : Option Addr) (m c : Nat) (w : World) (hn0 : -9223372036854775808 ≤ n) (hn1 : n ≤ 9223372036854775807) (hi0 : -9223372036854775808 ≤ i) (hi1 : i ≤ 9223372036854775807)
    (hr : root.length = 32) (hl : leaf.length = 32 ∧ ∀ b ∈ leaf, 0 ≤ b ∧ b ≤ 255) (hm : p.length = m) (hmc : m ≤ c) (hcm : c ≤ maxLen) (hI : isIds p) (hA : IdsIn w w.heap.size A p) :
    Calls Tryd.prog 18 #[idv root, .int .i64 n, .int .i64 i, idv leaf, .slice A m c] w fun e w' => e = .returned (.bool (checkT root n i leaf p)) ∧ Below w.heap.size w w' := by
  by_cases h : 1 ≤ n ∧ n ≤ 64 ∧ 0 ≤ i ∧ i < n
  · obtain ⟨h1, h2, h3, h4⟩ := h
    obtain ⟨j, rfl⟩ := Int.eq_ofNat_of_zero_le h3
    obtain ⟨k, rfl⟩ := Int.eq_ofNat_of_zero_le (by omega : 0 ≤ n)
    exact rcheck_in root leaf k j p A m c w (by omega) (by omega) hr hl hm hmc hcm hI hA
  · have hf : checkT root n i leaf p = false := by
      unfold checkT
      simp only [decide_eq_false_iff_not]
      exact fun hh => h ⟨hh.1, hh.2.1, hh.2.2.1, hh.2.2.2.1⟩
    rw [hf]
    exact rcheck_odd root leaf n i A m c w hn0 hn1 hi0 hi1 h
theorem clash_meet {l : List (List Int)} {i : Nat} {leaf : List Int} {path : List (List Int)} (hj : i < l.length) (hc : checkT (rootT l) l.length i leaf path = true) (hne : leaf ≠ l.getD i []) :
    ∃ j, j < (sidesT l.length i).length ∧ clashT l i leaf path = some (stepText ((sidesT l.length i).getD j true) (climbK (sidesT l.length i) leaf path j) (path.getD j []), stepText ((sidesT l.length i).getD j true) (climbK (sidesT l.length i) (l.getD i []) (pathT l i) j) ((pathT l i).getD j [])) ∧
      climbK (sidesT l.length i) leaf path (j + 1) = climbK (sidesT l.length i) (l.getD i []) (pathT l i) (j + 1) ∧ ∀ t, t < j → climbK (sidesT l.length i) leaf path (t + 1) ≠ climbK (sidesT l.length i) (l.getD i []) (pathT l i) (t + 1) := by
  have hc' := hc
  unfold checkT at hc'
  simp only [decide_eq_true_eq, Int.toNat_natCast] at hc'
  obtain ⟨k1, k2, k3, k4, k5, k6⟩ := hc'
  have htop := path_top l.length l i rfl hj
  have heq : climbK (sidesT l.length i) leaf path (sidesT l.length i).length = climbK (sidesT l.length i) (l.getD i []) (pathT l i) (sidesT l.length i).length := k6.trans htop.symm
  unfold clashT
  rw [if_pos ⟨hc, by simpa using hne⟩]
  simp only [Int.toNat_natCast]
  cases hm : meetK (sidesT l.length i) leaf (l.getD i []) path (pathT l i) (sidesT l.length i).length 0 with
  | none =>
    exfalso
    have hno := meetK_none _ _ _ _ _ _ _ hm
    obtain ⟨t, h1, h2, h3, _⟩ := climb_meet _ _ _ path (pathT l i) hne _ heq
    exact hno t (Nat.zero_le _) (by omega) h3
  | some k =>
    obtain ⟨_, m2, m3, m4⟩ := meetK_some _ _ _ _ _ _ _ _ hm
    exact ⟨k, by omega, rfl, m3, fun t ht => m4 t (Nat.zero_le _) ht⟩
/-- what Clash answers -/
def ClashR (l : List (List Int)) (i : Int) (leaf : List Int) (p : List (List Int)) (B : Nat) (e : Ending) (w' : World) : Prop := match clashT l i leaf p with
  | none => e = .returned (.tuple #[.slice none 0 0, .slice none 0 0, .bool false])
  | some (a, b) => ∃ va vb, e = .returned (.tuple #[va, vb, .bool true]) ∧ OwnB w' B va a ∧ OwnB w' B vb b
theorem ClashR.no {l : List (List Int)} {i : Int} {leaf : List Int} {p : List (List Int)} {B : Nat} {e : Ending} {w' : World} (h : ¬ (checkT (rootT l) l.length i leaf p = true ∧ leaf ≠ l.getD i.toNat [])) (he : e = .returned (.tuple #[.slice none 0 0, .slice none 0 0, .bool false])) : ClashR l i leaf p B e w' := by
  unfold ClashR clashT
  rw [if_neg h]
  exact he
theorem ClashR.yes {l : List (List Int)} {i : Int} {leaf : List Int} {p : List (List Int)} {B : Nat} {e : Ending} {w' : World} {a b : List Int} {va vb : Value} (h : clashT l i leaf p = some (a, b)) (he : e = .returned (.tuple #[va, vb, .bool true])) (ha : OwnB w' B va a) (hb : OwnB w' B vb b) : ClashR l i leaf p B e w' := by
  unfold ClashR
  rw [h]
  exact ⟨va, vb, he, ha, hb⟩
theorem box_own {u : World} {B g cap : Nat} {cur : Array Value} {xs : List Int} (hu : u.heap[g]? = some (.cells cur 5 (0, 0))) (hB : B ≤ g) (h : xs.length ≤ cap ∧ cap ≤ maxLen ∧ cur.size = cap * 1 ∧ cur.toList.take (xs.length * 1) = xs.map u8v) : OwnB u B (.slice (some ⟨g, 0, none⟩) xs.length cap) xs :=
  ⟨by simp, .inr ⟨g, cap, cur, rfl, hB, hu, h.1, h.2.1, h.2.2.1, h.2.2.2⟩⟩
theorem stepText_len (s : Bool) {a b : List Int} (ha : a.length = 32) (hb : b.length = 32) : (stepText s a b).length = 65 := by
  cases s <;> simp [stepText, textT, ha, hb]
set_option maxRecDepth 20000 in
set_option maxHeartbeats 4000000 in
theorem rclash_out (l : List (List Int)) (i : Int) (leaf : List Int) (p : List (List Int)) (A A2 : Option Addr) (n c m c2 : Nat) (w : World) (hl : l.length = n) (hn : n ≤ 64) (hnc : n ≤ c) (hc : c ≤ maxLen) (hi0 : -9223372036854775808 ≤ i) (hi1 : i ≤ 9223372036854775807)
    (hm : p.length = m) (hmc : m ≤ c2) (hcm : c2 ≤ maxLen) (hI : isIds l) (hA : IdsIn w w.heap.size A l) (hJ : isIds p) (hA2 : IdsIn w w.heap.size A2 p) (hx : leaf.length = 32 ∧ ∀ b ∈ leaf, 0 ≤ b ∧ b ≤ 255) (ho : ¬ (0 ≤ i ∧ i < n)) :
    Calls Tryd.prog 22 #[.slice A n c, .int .i64 i, idv leaf, .slice A2 m c2] w fun e w' => ClashR l i leaf p w.heap.size e w' ∧ Below w.heap.size w w' := by
  have hb : checkT (rootT l) n i leaf p = false := by
    unfold checkT
    simp only [decide_eq_false_iff_not]
    exact fun hh => ho ⟨hh.2.2.1, hh.2.2.2.1⟩
  have HNO : Hid (¬ (checkT (rootT l) l.length i leaf p = true ∧ leaf ≠ l.getD i.toNat [])) := by show ¬ _; rw [hl, hb]; simp
  have HX := Lib.hid hx
  have E1 : Hid (EnvX w (w.alloc (.cells (arrB 32 leaf) 29)) [(w.heap.size, Obj.cells (arrB 32 leaf) 29 (0, 0))]) := (EnvX.start w).new _
  have HP := Lib.hid (fun u => rPath_none n i A c u (by unfold maxLen at hc ⊢; omega) hi0 hi1 (fun h => ho h.2))
  have HRT : Hid (∀ u, EnvX w u [] → Calls Tryd.prog 14 #[.slice A n c] u fun e w' => e = .returned (idv (rootT l)) ∧ Below u.heap.size u w') := fun u hu => rroot_any n l A c u hl (by omega) hnc hc hI (hA.up (EnvX.bel hu))
  have HCH : Hid (∀ u, EnvX w u [] → Calls Tryd.prog 18 #[idv (rootT l), .int .i64 n, .int .i64 i, idv leaf, .slice A2 m c2] u fun e w' => e = .returned (.bool false) ∧ Below u.heap.size u w') := fun u hu => by
    rw [← hb]
    exact rcheck_any (rootT l) leaf n i p A2 m c2 u (by omega) (by omega) hi0 hi1 (root_id hI).1 hx hm hmc hcm hJ (hA2.up (EnvX.bel hu))
  unfold maxLen at hc hcm
  clear hI hA hJ hA2 hx ho hb
  go_enter Tryd.func22, Tryd.ntmps22
  go_upto_region 1 with (fail)
  show Code.wp _ _ _ _ (w.alloc (.cells (arrB 32 leaf) 29))
  generalize w.alloc (.cells (arrB 32 leaf) 29) = W at *
  go_wp2_with fail
  refine (HP.out W).mono ?_
  rintro e w1 ⟨rfl, rfl⟩
  go_upto_region 2 with (fail)
  refine wp_region_H (w0 := w) [(w.heap.size, Obj.cells (arrB 32 leaf) 29 (0, 0))] (by kernel_rfl) E1.out ?_
  refine anyH_phase [0, 1, 2, 3, 4, 5, 6, 7, 8] 0 rfl ⟨_, (EnvX.drew E1.out)⟩ (by kernel_rfl) ?_
  have hw1 : EnvX w _ [(w.heap.size, Obj.cells (arrB 32 leaf) 29 (0, 0))] := (EnvX.drew E1.out)
  have hone := @EnvC.one _ _ _ hw1
  (refine wpG_op rfl rfl rfl ?_; intro K hK; go_big_quiet_op; go_big_quiet_on)
  (refine wpG_call (f := 14) (args := #[.slice A n c]) (v := idv (rootT l)) rfl rfl rfl Tryd.func14 rfl rfl (fun u hu => HRT.out u (EnvX.sub hu (fun _ h => by cases h))) ?_ hw1; intro K hK; go_big_quiet_op; go_big_quiet_on)
  (refine wpG_op rfl rfl rfl ?_; intro K hK; go_big_quiet_op; go_big_quiet_on)
  (refine wpG_val (v := .int .i64 n) rfl rfl (fun u hu => lenI_op u rfl) ?_ hw1; intro K hK; go_big_quiet_op; go_big_quiet_on)
  (refine wpG_op rfl rfl rfl ?_; intro K hK; go_big_quiet_op; go_big_quiet_on)
  (refine wpG_val (v := idv leaf) rfl rfl (fun u hu => load_run_op u (box_load hu (List.Mem.head _) HX.out.1) rfl) ?_ hw1; intro K hK; go_big_quiet_op; go_big_quiet_on)
  (refine wpG_op rfl rfl rfl ?_; intro K hK; go_big_quiet_op; go_big_quiet_on)
  (refine wpG_call (f := 18) (args := #[idv (rootT l), .int .i64 n, .int .i64 i, idv leaf, .slice A2 m c2]) (v := .bool false) rfl rfl rfl Tryd.func18 rfl rfl (fun u hu => HCH.out u (EnvX.sub hu (fun _ h => by cases h))) ?_ hw1; intro K hK; go_big_quiet_op; go_big_quiet_on)
  (refine wpG_op rfl rfl rfl ?_; intro K hK; go_big_quiet_op; go_big_quiet_on)
  clear hone hw1
  refine wpG_nil ?_
  refine anyH_done (by kernel_rfl) ?_
  intro u3 E2'
  have EX2 := Lib.hid E2'
  clear E2'
  go_upto_region 3 with (fail)
  refine wp_region_H (w0 := w) [(w.heap.size, Obj.cells (arrB 32 leaf) 29 (0, 0))] (by kernel_rfl) EX2.out ?_
  refine anyH_phase [0, 1, 2, 3, 4, 5, 6, 7, 8, 9, 10, 11, 12, 13] 0 rfl ⟨_, (EnvX.drew EX2.out)⟩ (by kernel_rfl) ?_
  have hw4 : EnvX w _ [(w.heap.size, Obj.cells (arrB 32 leaf) 29 (0, 0))] := (EnvX.drew EX2.out)
  have hone := @EnvC.one _ _ _ hw4
  (refine wpG_op rfl rfl rfl ?_; intro K hK; go_big_quiet_op; go_big_quiet_on)
  (refine wpG_op rfl rfl rfl ?_; intro K hK; go_big_quiet_op; go_big_quiet_on)
  (refine wpG_op rfl rfl rfl ?_; intro K hK; go_big_quiet_op; go_big_quiet_on)
  (refine wpG_skip rfl rfl ?_ hw4; intro K hK; go_big_quiet_op; go_big_quiet_on)
  (refine wpG_skip rfl rfl ?_ hw4; intro K hK; go_big_quiet_op; go_big_quiet_on)
  (refine wpG_op rfl rfl rfl ?_; intro K hK; go_big_quiet_op; go_big_quiet_on)
  (refine wpG_op rfl rfl rfl ?_; intro K hK; go_big_quiet_op; go_big_quiet_on)
  (refine wpG_skip rfl rfl ?_ hw4; intro K hK; go_big_quiet_op; go_big_quiet_on)
  (refine wpG_skip rfl rfl ?_ hw4; intro K hK; go_big_quiet_op; go_big_quiet_on)
  (refine wpG_skip rfl rfl ?_ hw4; intro K hK; go_big_quiet_op; go_big_quiet_on)
  (refine wpG_skip rfl rfl ?_ hw4; intro K hK; go_big_quiet_op; go_big_quiet_on)
  (refine wpG_skip rfl rfl ?_ hw4; intro K hK; go_big_quiet_op; go_big_quiet_on)
  (refine wpG_skip rfl rfl ?_ hw4; intro K hK; go_big_quiet_op; go_big_quiet_on)
  (refine wpG_op rfl rfl rfl ?_; intro K hK; go_big_quiet_op; go_big_quiet_on)
  clear hone hw4
  refine wpG_nil ?_
  refine anyH_done (by kernel_rfl) ?_
  intro u6 E2'
  have EX5 := Lib.hid E2'
  clear E2'
  go_wp2
  go_returns
  exact ⟨ClashR.no HNO.out rfl, EnvX.bel EX5.out⟩
set_option maxRecDepth 20000 in
set_option maxHeartbeats 4000000 in
theorem rclash_b (l : List (List Int)) (i : Nat) (leaf : List Int) (p : List (List Int)) (A A2 : Option Addr) (n c m c2 : Nat) (w : World) (hl : l.length = n) (hn : n ≤ 64) (hnc : n ≤ c) (hc : c ≤ maxLen)
    (hm : p.length = m) (hmc : m ≤ c2) (hcm : c2 ≤ maxLen) (hI : isIds l) (hA : IdsIn w w.heap.size A l) (hJ : isIds p) (hA2 : IdsIn w w.heap.size A2 p) (hx : leaf.length = 32 ∧ ∀ b ∈ leaf, 0 ≤ b ∧ b ≤ 255) (hin : i < n)
    (hb : checkT (rootT l) n i leaf p = false) :
    Calls Tryd.prog 22 #[.slice A n c, .int .i64 i, idv leaf, .slice A2 m c2] w fun e w' => ClashR l i leaf p w.heap.size e w' ∧ Below w.heap.size w w' := by
  have HNO : Hid (¬ (checkT (rootT l) l.length (i : Int) leaf p = true ∧ leaf ≠ l.getD (i : Int).toNat [])) := by show ¬ _; rw [hl, hb]; simp
  have HX := Lib.hid hx
  have HI := Lib.hid (And.intro hI hA)
  have HJ := Lib.hid (And.intro hJ hA2)
  have HL := Lib.hid hl
  have HM := Lib.hid hm
  have HBB := Lib.hid hb
  have E1 : Hid (EnvX w (w.alloc (.cells (arrB 32 leaf) 29)) [(w.heap.size, Obj.cells (arrB 32 leaf) 29 (0, 0))]) := (EnvX.start w).new _
  have HP : Hid (∀ u, EnvX w u [] → Calls Tryd.prog 11 #[.slice A n c, .int .i64 i] u fun e w' => (∃ v, e = .returned (.tuple #[v, .bool true]) ∧ OwnI w' u.heap.size v (pathT l i)) ∧ Below u.heap.size u w') := fun u hu => by
    have h := rPath_some i l A c u (by omega) (by omega) (by omega) hc hI (hA.up (EnvX.bel hu))
    rwa [hl] at h
  clear hI hA hJ hA2 hx hl hm hb
  go_enter Tryd.func22, Tryd.ntmps22
  go_upto_region 1 with (fail)
  show Code.wp _ _ _ _ (w.alloc (.cells (arrB 32 leaf) 29))
  generalize w.alloc (.cells (arrB 32 leaf) 29) = W at *
  have HPW := Lib.hid (HP.out W (EnvX.sub E1.out (fun _ h => by cases h)))
  go_wp2_with fail
  refine HPW.out.mono ?_
  rintro e w1 ⟨⟨v, rfl, hv⟩, hb1⟩
  obtain ⟨Av, cv, rfl, hv1, hv2⟩ := hv.form
  have HV := Lib.hid hv.ids
  have HPL : Hid ((pathT l i).length = (sidesT n i).length) := path_len n l i HL.out
  rw [HPL.out] at hv1 ⊢
  have E2 : Hid (EnvX w1 w1 [(w.heap.size, Obj.cells (arrB 32 leaf) 29 (0, 0))]) := ⟨Below.refl _ _, (EnvX.below E1.out hb1).box⟩
  have HB := Lib.hid ((EnvX.below E1.out hb1).bel)
  have HRT : Hid (∀ u, EnvX w1 u [] → Calls Tryd.prog 14 #[.slice A n c] u fun e w' => e = .returned (idv (rootT l)) ∧ Below u.heap.size u w') := fun u hu => rroot_any n l A c u HL.out (by omega) hnc hc HI.out.1 ((HI.out.2.up HB.out).up (EnvX.bel hu))
  have HCH : Hid (∀ u, EnvX w1 u [] → Calls Tryd.prog 18 #[idv (rootT l), .int .i64 n, .int .i64 i, idv leaf, .slice A2 m c2] u fun e w' => e = .returned (.bool false) ∧ Below u.heap.size u w') := fun u hu => by
    rw [← HBB.out]
    exact rcheck_any (rootT l) leaf n i p A2 m c2 u (by omega) (by omega) (by omega) (by omega) (root_id HI.out.1).1 HX.out HM.out hmc hcm HJ.out.1 ((HJ.out.2.up HB.out).up (EnvX.bel hu))
  unfold maxLen at hc hcm hv2
  clear hb1 hv E1 HP HPW
  go_upto_region 2 with (fail)
  refine wp_region_H (w0 := w1) [(w.heap.size, Obj.cells (arrB 32 leaf) 29 (0, 0))] (by kernel_rfl) E2.out ?_
  refine anyH_phase [0, 1, 2, 3, 4, 5, 6, 7, 8] 0 rfl ⟨_, (EnvX.drew E2.out)⟩ (by kernel_rfl) ?_
  have hw1 : EnvX w1 _ [(w.heap.size, Obj.cells (arrB 32 leaf) 29 (0, 0))] := (EnvX.drew E2.out)
  have hone := @EnvC.one _ _ _ hw1
  (refine wpG_op rfl rfl rfl ?_; intro K hK; go_big_quiet_op; go_big_quiet_on)
  (refine wpG_call (f := 14) (args := #[.slice A n c]) (v := idv (rootT l)) rfl rfl rfl Tryd.func14 rfl rfl (fun u hu => HRT.out u (EnvX.sub hu (fun _ h => by cases h))) ?_ hw1; intro K hK; go_big_quiet_op; go_big_quiet_on)
  (refine wpG_op rfl rfl rfl ?_; intro K hK; go_big_quiet_op; go_big_quiet_on)
  (refine wpG_val (v := .int .i64 n) rfl rfl (fun u hu => lenI_op u rfl) ?_ hw1; intro K hK; go_big_quiet_op; go_big_quiet_on)
  (refine wpG_op rfl rfl rfl ?_; intro K hK; go_big_quiet_op; go_big_quiet_on)
  (refine wpG_val (v := idv leaf) rfl rfl (fun u hu => load_run_op u (box_load hu (List.Mem.head _) HX.out.1) rfl) ?_ hw1; intro K hK; go_big_quiet_op; go_big_quiet_on)
  (refine wpG_op rfl rfl rfl ?_; intro K hK; go_big_quiet_op; go_big_quiet_on)
  (refine wpG_call (f := 18) (args := #[idv (rootT l), .int .i64 n, .int .i64 i, idv leaf, .slice A2 m c2]) (v := .bool false) rfl rfl rfl Tryd.func18 rfl rfl (fun u hu => HCH.out u (EnvX.sub hu (fun _ h => by cases h))) ?_ hw1; intro K hK; go_big_quiet_op; go_big_quiet_on)
  (refine wpG_op rfl rfl rfl ?_; intro K hK; go_big_quiet_op; go_big_quiet_on)
  clear hone hw1
  refine wpG_nil ?_
  refine anyH_done (by kernel_rfl) ?_
  intro u3 E2'
  have EX2 := Lib.hid E2'
  clear E2'
  go_upto_region 3 with (fail)
  refine wp_region_H (w0 := w1) [(w.heap.size, Obj.cells (arrB 32 leaf) 29 (0, 0))] (by kernel_rfl) EX2.out ?_
  refine anyH_phase [0, 1, 2, 3, 4, 5, 6, 7, 8, 9, 10, 11, 12, 13] 0 rfl ⟨_, (EnvX.drew EX2.out)⟩ (by kernel_rfl) ?_
  have hw4 : EnvX w1 _ [(w.heap.size, Obj.cells (arrB 32 leaf) 29 (0, 0))] := (EnvX.drew EX2.out)
  have hone := @EnvC.one _ _ _ hw4
  (refine wpG_op rfl rfl rfl ?_; intro K hK; go_big_quiet_op; go_big_quiet_on)
  (refine wpG_op rfl rfl rfl ?_; intro K hK; go_big_quiet_op; go_big_quiet_on)
  (refine wpG_op rfl rfl rfl ?_; intro K hK; go_big_quiet_op; go_big_quiet_on)
  (refine wpG_op rfl rfl rfl ?_; intro K hK; go_big_quiet_op; go_big_quiet_on)
  (refine wpG_op rfl rfl rfl ?_; intro K hK; go_big_quiet_op; go_big_quiet_on)
  (refine wpG_op rfl rfl rfl ?_; intro K hK; go_big_quiet_op; go_big_quiet_on)
  (refine wpG_op rfl rfl rfl ?_; intro K hK; go_big_quiet_op; go_big_quiet_on)
  (refine wpG_skip rfl rfl ?_ hw4; intro K hK; go_big_quiet_op; go_big_quiet_on)
  (refine wpG_skip rfl rfl ?_ hw4; intro K hK; go_big_quiet_op; go_big_quiet_on)
  (refine wpG_skip rfl rfl ?_ hw4; intro K hK; go_big_quiet_op; go_big_quiet_on)
  (refine wpG_skip rfl rfl ?_ hw4; intro K hK; go_big_quiet_op; go_big_quiet_on)
  (refine wpG_skip rfl rfl ?_ hw4; intro K hK; go_big_quiet_op; go_big_quiet_on)
  (refine wpG_skip rfl rfl ?_ hw4; intro K hK; go_big_quiet_op; go_big_quiet_on)
  (refine wpG_op rfl rfl rfl ?_; intro K hK; go_big_quiet_op; go_big_quiet_on)
  clear hone hw4
  refine wpG_nil ?_
  refine anyH_done (by kernel_rfl) ?_
  intro u6 E2'
  have EX5 := Lib.hid E2'
  clear E2'
  go_wp2
  go_returns
  exact ⟨ClashR.no HNO.out rfl, HB.out.trans ((EnvX.bel EX5.out).mono HB.out.size)⟩
set_option maxRecDepth 20000 in
set_option maxHeartbeats 4000000 in
theorem rclash_c (l : List (List Int)) (i : Nat) (leaf : List Int) (p : List (List Int)) (A A2 : Option Addr) (n c m c2 : Nat) (w : World) (hl : l.length = n) (hn : n ≤ 64) (hnc : n ≤ c) (hc : c ≤ maxLen)
    (hm : p.length = m) (hmc : m ≤ c2) (hcm : c2 ≤ maxLen) (hI : isIds l) (hA : IdsIn w w.heap.size A l) (hJ : isIds p) (hA2 : IdsIn w w.heap.size A2 p) (hx : leaf.length = 32 ∧ ∀ b ∈ leaf, 0 ≤ b ∧ b ≤ 255) (hin : i < n)
    (hb : checkT (rootT l) n i leaf p = true) (he : leaf = l.getD i []) :
    Calls Tryd.prog 22 #[.slice A n c, .int .i64 i, idv leaf, .slice A2 m c2] w fun e w' => ClashR l i leaf p w.heap.size e w' ∧ Below w.heap.size w w' := by
  have HNO : Hid (¬ (checkT (rootT l) l.length (i : Int) leaf p = true ∧ leaf ≠ l.getD (i : Int).toNat [])) := by show ¬ _; rw [hl, hb, Int.toNat_natCast, ← he]; simp
  have HEQ : Hid (eqL leaf (l.getD i []) = true) := by show _ = _; rw [← he]; simp [eqL]
  clear he
  have HX := Lib.hid hx
  have HI := Lib.hid (And.intro hI hA)
  have HJ := Lib.hid (And.intro hJ hA2)
  have HL := Lib.hid hl
  have HM := Lib.hid hm
  have HBB := Lib.hid hb
  have E1 : Hid (EnvX w (w.alloc (.cells (arrB 32 leaf) 29)) [(w.heap.size, Obj.cells (arrB 32 leaf) 29 (0, 0))]) := (EnvX.start w).new _
  have HP : Hid (∀ u, EnvX w u [] → Calls Tryd.prog 11 #[.slice A n c, .int .i64 i] u fun e w' => (∃ v, e = .returned (.tuple #[v, .bool true]) ∧ OwnI w' u.heap.size v (pathT l i)) ∧ Below u.heap.size u w') := fun u hu => by
    have h := rPath_some i l A c u (by omega) (by omega) (by omega) hc hI (hA.up (EnvX.bel hu))
    rwa [hl] at h
  clear hI hA hJ hA2 hx hl hm hb
  go_enter Tryd.func22, Tryd.ntmps22
  go_upto_region 1 with (fail)
  show Code.wp _ _ _ _ (w.alloc (.cells (arrB 32 leaf) 29))
  generalize w.alloc (.cells (arrB 32 leaf) 29) = W at *
  have HPW := Lib.hid (HP.out W (EnvX.sub E1.out (fun _ h => by cases h)))
  go_wp2_with fail
  refine HPW.out.mono ?_
  rintro e w1 ⟨⟨v, rfl, hv⟩, hb1⟩
  obtain ⟨Av, cv, rfl, hv1, hv2⟩ := hv.form
  have HV := Lib.hid hv.ids
  have HPL : Hid ((pathT l i).length = (sidesT n i).length) := path_len n l i HL.out
  rw [HPL.out] at hv1 ⊢
  have E2 : Hid (EnvX w1 w1 [(w.heap.size, Obj.cells (arrB 32 leaf) 29 (0, 0))]) := ⟨Below.refl _ _, (EnvX.below E1.out hb1).box⟩
  have HB := Lib.hid ((EnvX.below E1.out hb1).bel)
  have HRT : Hid (∀ u, EnvX w1 u [] → Calls Tryd.prog 14 #[.slice A n c] u fun e w' => e = .returned (idv (rootT l)) ∧ Below u.heap.size u w') := fun u hu => rroot_any n l A c u HL.out (by omega) hnc hc HI.out.1 ((HI.out.2.up HB.out).up (EnvX.bel hu))
  have HCH : Hid (∀ u, EnvX w1 u [] → Calls Tryd.prog 18 #[idv (rootT l), .int .i64 n, .int .i64 i, idv leaf, .slice A2 m c2] u fun e w' => e = .returned (.bool true) ∧ Below u.heap.size u w') := fun u hu => by
    rw [← HBB.out]
    exact rcheck_any (rootT l) leaf n i p A2 m c2 u (by omega) (by omega) (by omega) (by omega) (root_id HI.out.1).1 HX.out HM.out hmc hcm HJ.out.1 ((HJ.out.2.up HB.out).up (EnvX.bel hu))
  unfold maxLen at hc hcm hv2
  clear hb1 hv E1 HP HPW
  go_upto_region 2 with (fail)
  refine wp_region_H (w0 := w1) [(w.heap.size, Obj.cells (arrB 32 leaf) 29 (0, 0))] (by kernel_rfl) E2.out ?_
  refine anyH_phase [0, 1, 2, 3, 4, 5, 6, 7, 8] 0 rfl ⟨_, (EnvX.drew E2.out)⟩ (by kernel_rfl) ?_
  have hw1 : EnvX w1 _ [(w.heap.size, Obj.cells (arrB 32 leaf) 29 (0, 0))] := (EnvX.drew E2.out)
  have hone := @EnvC.one _ _ _ hw1
  (refine wpG_op rfl rfl rfl ?_; intro K hK; go_big_quiet_op; go_big_quiet_on)
  (refine wpG_call (f := 14) (args := #[.slice A n c]) (v := idv (rootT l)) rfl rfl rfl Tryd.func14 rfl rfl (fun u hu => HRT.out u (EnvX.sub hu (fun _ h => by cases h))) ?_ hw1; intro K hK; go_big_quiet_op; go_big_quiet_on)
  (refine wpG_op rfl rfl rfl ?_; intro K hK; go_big_quiet_op; go_big_quiet_on)
  (refine wpG_val (v := .int .i64 n) rfl rfl (fun u hu => lenI_op u rfl) ?_ hw1; intro K hK; go_big_quiet_op; go_big_quiet_on)
  (refine wpG_op rfl rfl rfl ?_; intro K hK; go_big_quiet_op; go_big_quiet_on)
  (refine wpG_val (v := idv leaf) rfl rfl (fun u hu => load_run_op u (box_load hu (List.Mem.head _) HX.out.1) rfl) ?_ hw1; intro K hK; go_big_quiet_op; go_big_quiet_on)
  (refine wpG_op rfl rfl rfl ?_; intro K hK; go_big_quiet_op; go_big_quiet_on)
  (refine wpG_call (f := 18) (args := #[idv (rootT l), .int .i64 n, .int .i64 i, idv leaf, .slice A2 m c2]) (v := .bool true) rfl rfl rfl Tryd.func18 rfl rfl (fun u hu => HCH.out u (EnvX.sub hu (fun _ h => by cases h))) ?_ hw1; intro K hK; go_big_quiet_op; go_big_quiet_on)
  (refine wpG_op rfl rfl rfl ?_; intro K hK; go_big_quiet_op; go_big_quiet_on)
  clear hone hw1
  refine wpG_nil ?_
  refine anyH_done (by kernel_rfl) ?_
  intro u3 E2'
  have EX2 := Lib.hid E2'
  clear E2'
  obtain ⟨ad, rfl, hli⟩ := (HI.out.2.up HB.out).loads HI.out.1 (k := i) (by rw [HL.out]; exact hin)
  have HLI := Lib.hid hli
  have HY := Lib.hid (HI.out.1.get (i := i) (by rw [HL.out]; exact hin))
  have hin2 : (i : Int) < (n : Int) := by omega
  clear hli
  generalize hy : l.getD i [] = y at *
  have HYY := Lib.hid hy
  clear hy
  go_upto_region 3 with (fail)
  refine wp_region_H (w0 := w1) [(w.heap.size, Obj.cells (arrB 32 leaf) 29 (0, 0))] (by kernel_rfl) EX2.out ?_
  refine anyH_phase [0, 1, 2, 3, 4, 5, 6, 7, 8, 9, 10, 11, 12, 13] 0 rfl ⟨_, (EnvX.drew EX2.out)⟩ (by kernel_rfl) ?_
  have hw4 : EnvX w1 _ [(w.heap.size, Obj.cells (arrB 32 leaf) 29 (0, 0))] := (EnvX.drew EX2.out)
  have hone := @EnvC.one _ _ _ hw4
  (refine wpG_op rfl rfl rfl ?_; intro K hK; go_big_quiet_op; go_big_quiet_on)
  (refine wpG_op rfl rfl rfl ?_; intro K hK; go_big_quiet_op; go_big_quiet_on)
  (refine wpG_op rfl rfl rfl ?_; intro K hK; go_big_quiet_op; go_big_quiet_on)
  (refine wpG_op rfl rfl rfl ?_; intro K hK; go_big_quiet_op; go_big_quiet_on)
  (refine wpG_op rfl rfl rfl ?_; intro K hK; go_big_quiet_op; go_big_quiet_on)
  (refine wpG_op rfl rfl rfl ?_; intro K hK; go_big_quiet_op; go_big_quiet_on)
  (refine wpG_op rfl rfl rfl ?_; intro K hK; go_big_quiet_op; go_big_quiet_on)
  (refine wpG_val (v := idv leaf) rfl rfl (fun u hu => load_run_op u (box_load hu (List.Mem.head _) HX.out.1) rfl) ?_ hw4; intro K hK; go_big_quiet_op; go_big_quiet_on)
  (refine wpG_op rfl rfl rfl ?_; intro K hK; go_big_quiet_op; go_big_quiet_on)
  (refine wpG_op rfl rfl rfl ?_; intro K hK; go_big_quiet_op; go_big_quiet_on)
  (refine wpG_op rfl rfl rfl ?_; intro K hK; go_big_quiet_op; go_big_quiet_on)
  (refine wpG_val (v := idv y) rfl rfl (fun u hu => load_run_op u (HLI.out u (EnvX.sub hu (fun _ h => by cases h))) rfl) ?_ hw4; intro K hK; go_big_quiet_op; go_big_quiet_on)
  (refine wpG_val (v := .bool true) rfl rfl (fun u hu => eqlb_op HX.out.1 HY.out.1 HEQ.out u rfl rfl) ?_ hw4; intro K hK; go_big_quiet_op; go_big_quiet_on)
  (refine wpG_op rfl rfl rfl ?_; intro K hK; go_big_quiet_op; go_big_quiet_on)
  clear hone hw4
  refine wpG_nil ?_
  refine anyH_done (by kernel_rfl) ?_
  intro u6 E2'
  have EX5 := Lib.hid E2'
  clear E2'
  go_wp2
  go_returns
  exact ⟨ClashR.no HNO.out rfl, HB.out.trans ((EnvX.bel EX5.out).mono HB.out.size)⟩
set_option maxRecDepth 20000 in
set_option maxHeartbeats 4000000 in
theorem rclash_d (l : List (List Int)) (i : Nat) (leaf : List Int) (p : List (List Int)) (A A2 : Option Addr) (n c m c2 : Nat) (w : World) (hl : l.length = n) (hn : n ≤ 64) (hnc : n ≤ c) (hc : c ≤ maxLen)
    (hm : p.length = m) (hmc : m ≤ c2) (hcm : c2 ≤ maxLen) (hI : isIds l) (hA : IdsIn w w.heap.size A l) (hJ : isIds p) (hA2 : IdsIn w w.heap.size A2 p) (hx : leaf.length = 32 ∧ ∀ b ∈ leaf, 0 ≤ b ∧ b ≤ 255) (hin : i < n)
    (hb : checkT (rootT l) n i leaf p = true) (he : leaf ≠ l.getD i []) :
    Calls Tryd.prog 22 #[.slice A n c, .int .i64 i, idv leaf, .slice A2 m c2] w fun e w' => ClashR l i leaf p w.heap.size e w' ∧ Below w.heap.size w w' := by
  have hmeet := clash_meet (l := l) (i := i) (leaf := leaf) (path := p) (by omega) (by rw [hl]; exact hb) he
  rw [hl] at hmeet
  obtain ⟨j, hj, hcl, heq, hfirst⟩ := hmeet
  have HCL := Lib.hid hcl
  have HQE := Lib.hid heq
  have HFST := Lib.hid hfirst
  have hmq : m = (sidesT n i).length := by
    have h := hb
    unfold checkT at h
    simp only [decide_eq_true_eq, Int.toNat_natCast] at h
    rw [← hm]
    exact h.2.2.2.2.1
  have HEQ : Hid (eqL leaf (l.getD i []) = false) := decide_eq_false he
  have HMQ := Lib.hid hmq
  clear he hcl heq hfirst hmq
  have HX := Lib.hid hx
  have HI := Lib.hid (And.intro hI hA)
  have HJ := Lib.hid (And.intro hJ hA2)
  have HL := Lib.hid hl
  have HM := Lib.hid hm
  have HBB := Lib.hid hb
  have E1 : Hid (EnvX w (w.alloc (.cells (arrB 32 leaf) 29)) [(w.heap.size, Obj.cells (arrB 32 leaf) 29 (0, 0))]) := (EnvX.start w).new _
  have HP : Hid (∀ u, EnvX w u [] → Calls Tryd.prog 11 #[.slice A n c, .int .i64 i] u fun e w' => (∃ v, e = .returned (.tuple #[v, .bool true]) ∧ OwnI w' u.heap.size v (pathT l i)) ∧ Below u.heap.size u w') := fun u hu => by
    have h := rPath_some i l A c u (by omega) (by omega) (by omega) hc hI (hA.up (EnvX.bel hu))
    rwa [hl] at h
  clear hI hA hJ hA2 hx hl hm hb
  go_enter Tryd.func22, Tryd.ntmps22
  go_upto_region 1 with (fail)
  show Code.wp _ _ _ _ (w.alloc (.cells (arrB 32 leaf) 29))
  generalize w.alloc (.cells (arrB 32 leaf) 29) = W at *
  have HPW := Lib.hid (HP.out W (EnvX.sub E1.out (fun _ h => by cases h)))
  go_wp2_with fail
  refine HPW.out.mono ?_
  rintro e w1 ⟨⟨v, rfl, hv⟩, hb1⟩
  obtain ⟨Av, cv, rfl, hv1, hv2⟩ := hv.form
  have HV := Lib.hid hv.ids
  have HPL : Hid ((pathT l i).length = (sidesT n i).length) := path_len n l i HL.out
  rw [HPL.out] at hv1 ⊢
  have E2 : Hid (EnvX w1 w1 [(w.heap.size, Obj.cells (arrB 32 leaf) 29 (0, 0))]) := ⟨Below.refl _ _, (EnvX.below E1.out hb1).box⟩
  have HB := Lib.hid ((EnvX.below E1.out hb1).bel)
  have HRT : Hid (∀ u, EnvX w1 u [] → Calls Tryd.prog 14 #[.slice A n c] u fun e w' => e = .returned (idv (rootT l)) ∧ Below u.heap.size u w') := fun u hu => rroot_any n l A c u HL.out (by omega) hnc hc HI.out.1 ((HI.out.2.up HB.out).up (EnvX.bel hu))
  have HCH : Hid (∀ u, EnvX w1 u [] → Calls Tryd.prog 18 #[idv (rootT l), .int .i64 n, .int .i64 i, idv leaf, .slice A2 m c2] u fun e w' => e = .returned (.bool true) ∧ Below u.heap.size u w') := fun u hu => by
    rw [← HBB.out]
    exact rcheck_any (rootT l) leaf n i p A2 m c2 u (by omega) (by omega) (by omega) (by omega) (root_id HI.out.1).1 HX.out HM.out hmc hcm HJ.out.1 ((HJ.out.2.up HB.out).up (EnvX.bel hu))
  unfold maxLen at hc hcm hv2
  clear hb1 hv E1 HP HPW
  go_upto_region 2 with (fail)
  refine wp_region_H (w0 := w1) [(w.heap.size, Obj.cells (arrB 32 leaf) 29 (0, 0))] (by kernel_rfl) E2.out ?_
  refine anyH_phase [0, 1, 2, 3, 4, 5, 6, 7, 8] 0 rfl ⟨_, (EnvX.drew E2.out)⟩ (by kernel_rfl) ?_
  have hw1 : EnvX w1 _ [(w.heap.size, Obj.cells (arrB 32 leaf) 29 (0, 0))] := (EnvX.drew E2.out)
  have hone := @EnvC.one _ _ _ hw1
  (refine wpG_op rfl rfl rfl ?_; intro K hK; go_big_quiet_op; go_big_quiet_on)
  (refine wpG_call (f := 14) (args := #[.slice A n c]) (v := idv (rootT l)) rfl rfl rfl Tryd.func14 rfl rfl (fun u hu => HRT.out u (EnvX.sub hu (fun _ h => by cases h))) ?_ hw1; intro K hK; go_big_quiet_op; go_big_quiet_on)
  (refine wpG_op rfl rfl rfl ?_; intro K hK; go_big_quiet_op; go_big_quiet_on)
  (refine wpG_val (v := .int .i64 n) rfl rfl (fun u hu => lenI_op u rfl) ?_ hw1; intro K hK; go_big_quiet_op; go_big_quiet_on)
  (refine wpG_op rfl rfl rfl ?_; intro K hK; go_big_quiet_op; go_big_quiet_on)
  (refine wpG_val (v := idv leaf) rfl rfl (fun u hu => load_run_op u (box_load hu (List.Mem.head _) HX.out.1) rfl) ?_ hw1; intro K hK; go_big_quiet_op; go_big_quiet_on)
  (refine wpG_op rfl rfl rfl ?_; intro K hK; go_big_quiet_op; go_big_quiet_on)
  (refine wpG_call (f := 18) (args := #[idv (rootT l), .int .i64 n, .int .i64 i, idv leaf, .slice A2 m c2]) (v := .bool true) rfl rfl rfl Tryd.func18 rfl rfl (fun u hu => HCH.out u (EnvX.sub hu (fun _ h => by cases h))) ?_ hw1; intro K hK; go_big_quiet_op; go_big_quiet_on)
  (refine wpG_op rfl rfl rfl ?_; intro K hK; go_big_quiet_op; go_big_quiet_on)
  clear hone hw1
  refine wpG_nil ?_
  refine anyH_done (by kernel_rfl) ?_
  intro u3 E2'
  have EX2 := Lib.hid E2'
  clear E2'
  obtain ⟨ad, rfl, hli⟩ := (HI.out.2.up HB.out).loads HI.out.1 (k := i) (by rw [HL.out]; exact hin)
  have HLI := Lib.hid hli
  have HY := Lib.hid (HI.out.1.get (i := i) (by rw [HL.out]; exact hin))
  have hin2 : (i : Int) < (n : Int) := by omega
  clear hli
  generalize hy : l.getD i [] = y at *
  have HYY := Lib.hid hy
  clear hy
  go_upto_region 3 with (fail)
  refine wp_region_H (w0 := w1) [(w.heap.size, Obj.cells (arrB 32 leaf) 29 (0, 0))] (by kernel_rfl) EX2.out ?_
  refine anyH_phase [0, 1, 2, 3, 4, 5, 6, 7, 8, 9, 10, 11, 12, 13] 0 rfl ⟨_, (EnvX.drew EX2.out)⟩ (by kernel_rfl) ?_
  have hw4 : EnvX w1 _ [(w.heap.size, Obj.cells (arrB 32 leaf) 29 (0, 0))] := (EnvX.drew EX2.out)
  have hone := @EnvC.one _ _ _ hw4
  (refine wpG_op rfl rfl rfl ?_; intro K hK; go_big_quiet_op; go_big_quiet_on)
  (refine wpG_op rfl rfl rfl ?_; intro K hK; go_big_quiet_op; go_big_quiet_on)
  (refine wpG_op rfl rfl rfl ?_; intro K hK; go_big_quiet_op; go_big_quiet_on)
  (refine wpG_op rfl rfl rfl ?_; intro K hK; go_big_quiet_op; go_big_quiet_on)
  (refine wpG_op rfl rfl rfl ?_; intro K hK; go_big_quiet_op; go_big_quiet_on)
  (refine wpG_op rfl rfl rfl ?_; intro K hK; go_big_quiet_op; go_big_quiet_on)
  (refine wpG_op rfl rfl rfl ?_; intro K hK; go_big_quiet_op; go_big_quiet_on)
  (refine wpG_val (v := idv leaf) rfl rfl (fun u hu => load_run_op u (box_load hu (List.Mem.head _) HX.out.1) rfl) ?_ hw4; intro K hK; go_big_quiet_op; go_big_quiet_on)
  (refine wpG_op rfl rfl rfl ?_; intro K hK; go_big_quiet_op; go_big_quiet_on)
  (refine wpG_op rfl rfl rfl ?_; intro K hK; go_big_quiet_op; go_big_quiet_on)
  (refine wpG_op rfl rfl rfl ?_; intro K hK; go_big_quiet_op; go_big_quiet_on)
  (refine wpG_val (v := idv y) rfl rfl (fun u hu => load_run_op u (HLI.out u (EnvX.sub hu (fun _ h => by cases h))) rfl) ?_ hw4; intro K hK; go_big_quiet_op; go_big_quiet_on)
  (refine wpG_val (v := .bool false) rfl rfl (fun u hu => eqlb_op HX.out.1 HY.out.1 HEQ.out u rfl rfl) ?_ hw4; intro K hK; go_big_quiet_op; go_big_quiet_on)
  (refine wpG_op rfl rfl rfl ?_; intro K hK; go_big_quiet_op; go_big_quiet_on)
  clear hone hw4
  refine wpG_nil ?_
  refine anyH_done (by kernel_rfl) ?_
  intro u6 E2'
  have EX5 := Lib.hid E2'
  clear E2'
  have HSD := Lib.hid (fun u => rsides_any n i u (by omega) (by omega) hin)
  have hle := sides_le 6 n i (by omega)
  have HJJ := Lib.hid hj
  clear hj
  go_upto_region 5 with (fail)
  go_wp2_with fail
  refine (HSD.out _).mono ?_
  rintro e w4 ⟨⟨v4, rfl, hs⟩, hb4⟩
  obtain ⟨As, cs, rfl, hsc, hsm⟩ := hs.form
  clear HSD
  have hmq := HMQ.out
  have hj := HJJ.out
  clear HMQ HJJ
  have hrpi := Lib.hid (path_ids l.length l i rfl HI.out.1)
  generalize sidesT n i = s at *
  generalize pathT l i = rp at *
  obtain ⟨q, hq⟩ : ∃ q, s.length = q := ⟨_, rfl⟩
  have HSF : Hid (OwnF w4 0 (.slice As q cs) s) := by rw [← hq]; exact hs.less (Nat.zero_le _)
  have HQ := Lib.hid hq
  rw [hq] at hv1 hsc hmq hj hle ⊢
  have HPL2 : Hid (rp.length = q) := HPL.out.trans hq
  clear hq hs HPL
  subst hmq
  unfold maxLen at hsm
  have E4 : Hid (EnvX w4 w4 [(w.heap.size, Obj.cells (arrB 32 leaf) 29 (0, 0))]) := ⟨Below.refl _ _, (EnvX.below EX5.out hb4).box⟩
  have H14 := Lib.hid ((EnvX.below EX5.out hb4).bel)
  have HB4 := Lib.hid (HB.out.trans (H14.out.mono HB.out.size))
  clear hb4 EX5
  have HSFu : Hid (∀ u, EnvX w4 u [] → OwnF u 0 (.slice As m cs) s) := fun u hu => ⟨HSF.out.1, HSF.out.2.imp id (fun ⟨g, cap, cur, e, h1, h2, h3⟩ => ⟨g, cap, cur, e, h1, (((EnvX.bel hu).block g (Row.lt (t := 4) h2)).trans h2), h3⟩)⟩
  have HCLa : Hid (∀ u, EnvX w4 u [] → Calls Tryd.prog 33 #[.slice As m cs, idv leaf, .slice A2 m c2] u fun e w' => (∃ v, e = .returned v ∧ OwnI w' u.heap.size v (outsK s leaf p m)) ∧ Below u.heap.size u w') := fun u hu =>
    rclimb_any m s leaf p As cs A2 m c2 u HQ.out (by omega) (HSFu.out u hu) HX.out HM.out (Nat.le_refl _) hmc (by unfold maxLen; omega) HJ.out.1 ((HJ.out.2.up HB4.out).up (EnvX.bel hu))
  have HCLb : Hid (∀ u, EnvX w4 u [] → Calls Tryd.prog 33 #[.slice As m cs, idv y, .slice Av m cv] u fun e w' => (∃ v, e = .returned v ∧ OwnI w' u.heap.size v (outsK s y rp m)) ∧ Below u.heap.size u w') := fun u hu =>
    rclimb_any m s y rp As cs Av m cv u HQ.out (by omega) (HSFu.out u hu) HY.out HPL2.out (Nat.le_refl _) hv1 (by unfold maxLen; omega) hrpi.out ((HV.out.up H14.out).up (EnvX.bel hu))
  have HLI4 : Hid (∀ u, EnvX w4 u [] → (loadVar 29 (ad.add (i * 32))).run Tryd.prog u = .ok (idv y) u) := fun u hu => HLI.out u ⟨H14.out.trans ((EnvX.bel hu).mono H14.out.size), fun _ _ h => by cases h⟩
  have HOIa := Lib.hid (outs_ids s leaf p HX.out m)
  have HOLa := Lib.hid (outs_len s leaf p m)
  have HGEa := Lib.hid (fun k (h : k ≤ m) => outs_get s leaf p (k := m) (j := k) h)
  have HCKa := Lib.hid (climb_id s leaf p HX.out)
  have HOIb := Lib.hid (outs_ids s y rp HY.out m)
  have HOLb := Lib.hid (outs_len s y rp m)
  have HGEb := Lib.hid (fun k (h : k ≤ m) => outs_get s y rp (k := m) (j := k) h)
  have HCKb := Lib.hid (climb_id s y rp HY.out)
  go_upto_region 6 with (fail)
  refine wp_region_Hx (w0 := w4) [0, 1, 2, 3, 4] [(w.heap.size, Obj.cells (arrB 32 leaf) 29 (0, 0))] rfl E4.out ?_
  refine lexH_phase [0, 1, 2] [3, 4] ?_
  have hw7 : EnvX w4 _ [(w.heap.size, Obj.cells (arrB 32 leaf) 29 (0, 0))] := E4.out
  have hone := @EnvC.one _ _ _ hw7
  (refine wpG_op rfl rfl rfl ?_; intro K hK; go_big_quiet_op; go_big_quiet_on)
  (refine wpG_val (v := idv leaf) rfl rfl (fun u hu => load_run_op u (box_load hu (List.Mem.head _) HX.out.1) rfl) ?_ hw7; intro K hK; go_big_quiet_op; go_big_quiet_on)
  (refine wpG_op rfl rfl rfl ?_; intro K hK; go_big_quiet_op; go_big_quiet_on)
  clear hone hw7
  refine wpG_nil ?_
  refine (hOp_fresh (R := FreshI (outsK s leaf p m)) (M0 := [(w.heap.size, Obj.cells (arrB 32 leaf) 29 (0, 0))]) rfl rfl (fun _ h => h) (fun u hu => FAt_call (fid := 33) (xs := #[.tmp 50, .tmp 51, .tmp 52]) (args := #[.slice As m cs, idv leaf, .slice A2 m c2]) rfl Tryd.func33 rfl rfl u (callsI_fresh (HCLa.out u (EnvX.sub hu (fun _ h => by cases h))))) ?_)
  rintro x N hFa hf he8; intro K' hK'; go_big_quiet_op; go_big_quiet_on
  obtain ⟨ga, capa, cura, rfl, rfl, hcura⟩ := FreshI.full hFa (by rw [HOLa.out]; omega)
  have HFa := Lib.hid hFa
  clear hFa
  rw [HOLa.out] at hcura HFa ⊢
  have hcapa := hcura.1
  have hcapa2 := hcura.2.1
  unfold maxLen at hcapa2
  clear hcura
  clear hf
  change lexH _ _ _ _ _ _ [(ga, Obj.cells cura 29 (0, 0)), (w.heap.size, Obj.cells (arrB 32 leaf) 29 (0, 0))]
  refine lexH_phase [4] [] ?_
  have hw9 : EnvX w4 _ [(ga, Obj.cells cura 29 (0, 0)), (w.heap.size, Obj.cells (arrB 32 leaf) 29 (0, 0))] := he8.choose_spec
  have hone := @EnvC.one _ _ _ hw9
  (refine wpG_op rfl rfl rfl ?_; intro K hK; go_big_quiet_op; go_big_quiet_on)
  clear hone hw9
  refine wpG_nil ?_
  intro u11 E2'
  have EX10 := Lib.hid E2'
  clear E2'
  go_upto_region 7 with (fail)
  refine wp_region_Hx (w0 := w4) [0, 1, 2, 3, 4, 5, 6, 7] [(ga, Obj.cells cura 29 (0, 0)), (w.heap.size, Obj.cells (arrB 32 leaf) 29 (0, 0))] rfl EX10.out ?_
  refine lexH_phase [0, 1, 2, 3, 4, 5] [6, 7] ?_
  have hw12 : EnvX w4 _ [(ga, Obj.cells cura 29 (0, 0)), (w.heap.size, Obj.cells (arrB 32 leaf) 29 (0, 0))] := EX10.out
  have hone := @EnvC.one _ _ _ hw12
  (refine wpG_op rfl rfl rfl ?_; intro K hK; go_big_quiet_op; go_big_quiet_on)
  (refine wpG_op rfl rfl rfl ?_; intro K hK; go_big_quiet_op; go_big_quiet_on)
  (refine wpG_op rfl rfl rfl ?_; intro K hK; go_big_quiet_op; go_big_quiet_on)
  (refine wpG_op rfl rfl rfl ?_; intro K hK; go_big_quiet_op; go_big_quiet_on)
  (refine wpG_val (v := idv y) rfl rfl (fun u hu => load_run_op u (HLI4.out u (EnvX.sub hu (fun _ h => by cases h))) rfl) ?_ hw12; intro K hK; go_big_quiet_op; go_big_quiet_on)
  (refine wpG_op rfl rfl rfl ?_; intro K hK; go_big_quiet_op; go_big_quiet_on)
  clear hone hw12
  refine wpG_nil ?_
  refine (hOp_fresh (R := FreshI (outsK s y rp m)) (M0 := [(ga, Obj.cells cura 29 (0, 0)), (w.heap.size, Obj.cells (arrB 32 leaf) 29 (0, 0))]) rfl rfl (fun _ h => h) (fun u hu => FAt_call (fid := 33) (xs := #[.tmp 54, .tmp 58, .tmp 59]) (args := #[.slice As m cs, idv y, .slice Av m cv]) rfl Tryd.func33 rfl rfl u (callsI_fresh (HCLb.out u (EnvX.sub hu (fun _ h => by cases h))))) ?_)
  rintro x N hFb hf he13; intro K' hK'; go_big_quiet_op; go_big_quiet_on
  obtain ⟨gb, capb, curb, rfl, rfl, hcurb⟩ := FreshI.full hFb (by rw [HOLb.out]; omega)
  have HFb := Lib.hid hFb
  clear hFb
  rw [HOLb.out] at hcurb HFb ⊢
  have hcapb := hcurb.1
  have hcapb2 := hcurb.2.1
  unfold maxLen at hcapb2
  clear hcurb
  clear hf
  change lexH _ _ _ _ _ _ [(gb, Obj.cells curb 29 (0, 0)), (ga, Obj.cells cura 29 (0, 0)), (w.heap.size, Obj.cells (arrB 32 leaf) 29 (0, 0))]
  refine lexH_phase [7] [] ?_
  have hw14 : EnvX w4 _ [(gb, Obj.cells curb 29 (0, 0)), (ga, Obj.cells cura 29 (0, 0)), (w.heap.size, Obj.cells (arrB 32 leaf) 29 (0, 0))] := he13.choose_spec
  have hone := @EnvC.one _ _ _ hw14
  (refine wpG_op rfl rfl rfl ?_; intro K hK; go_big_quiet_op; go_big_quiet_on)
  clear hone hw14
  refine wpG_nil ?_
  intro u16 E2'
  have EX15 := Lib.hid E2'
  clear E2'
  go_upto_region 9 with (fail)
  have E8 : Hid (EnvX w4 u16 [(gb, Obj.cells curb 29 (0, 0)), (ga, Obj.cells cura 29 (0, 0))]) := EnvX.sub EX15.out (fun x hx => by
    rcases List.mem_cons.1 hx with h | h
    · cases h; exact List.Mem.head _
    · cases List.mem_singleton.1 h; exact List.Mem.tail _ (List.Mem.head _))
  clear EX15 HCLa HCLb HLI4 HRT HCH E2 E4
  go_loopw [17] (fun i u => ∃ k : Nat, k ≤ j ∧ i = .int .i64 k ∧ Hid (EnvX w4 u [(gb, Obj.cells curb 29 (0, 0)), (ga, Obj.cells cura 29 (0, 0))])) (fun i _ => m - (intOf i).toNat)
  case atStart => exact ⟨0, by omega, rfl, E8⟩
  case round =>
    obtain ⟨k, hk, rfl, EK⟩ := hrel
    clear E8
    have hkm : k < m := by omega
    have hkm2 : (k : Int) < (m : Int) := by omega
    have HG1a := Lib.hid (HGEa.out (k + 1) (by omega))
    have HG1b := Lib.hid (HGEb.out (k + 1) (by omega))
    have HC1a := Lib.hid (HCKa.out (k + 1))
    have HC1b := Lib.hid (HCKb.out (k + 1))
    have HK1 : Hid (k < j → climbK s leaf p (k + 1) ≠ climbK s y rp (k + 1)) := fun h => HFST.out k h
    have HK2 : Hid (k = j → climbK s leaf p (k + 1) = climbK s y rp (k + 1)) := fun h => by subst h; exact HQE.out
    generalize climbK s leaf p (k + 1) = a1 at *
    generalize climbK s y rp (k + 1) = b1 at *
    go_upto_region 11 with (fail)
    refine wp_region_H (w0 := w4) [(gb, Obj.cells curb 29 (0, 0)), (ga, Obj.cells cura 29 (0, 0))] (by kernel_rfl) EK.out ?_
    refine anyH_phase [0, 1, 2, 3, 4, 5, 6, 7, 8, 9, 10] 0 rfl ⟨_, (EnvX.drew EK.out)⟩ (by kernel_rfl) ?_
    have hw17 : EnvX w4 _ [(gb, Obj.cells curb 29 (0, 0)), (ga, Obj.cells cura 29 (0, 0))] := (EnvX.drew EK.out)
    have hone := @EnvC.one _ _ _ hw17
    (refine wpG_op rfl rfl rfl ?_; intro K hK; go_big_quiet_op; go_big_quiet_on)
    (refine wpG_op rfl rfl rfl ?_; intro K hK; go_big_quiet_op; go_big_quiet_on)
    (refine wpG_op rfl rfl rfl ?_; intro K hK; go_big_quiet_op; go_big_quiet_on)
    (refine wpG_op rfl rfl rfl ?_; intro K hK; go_big_quiet_op; go_big_quiet_on)
    (refine wpG_val (v := idv a1) rfl rfl (fun u hu => load_run_op u (by rw [← HG1a.out]; exact boxes_load (k := k + 1) hu HFa.out (fun y hy => by cases List.mem_singleton.1 hy; exact List.Mem.tail _ (List.Mem.head _)) HOIa.out rfl (by rw [HOLa.out]; omega)) rfl) ?_ hw17; intro K hK; go_big_quiet_op; go_big_quiet_on)
    (refine wpG_op rfl rfl rfl ?_; intro K hK; go_big_quiet_op; go_big_quiet_on)
    (refine wpG_op rfl rfl rfl ?_; intro K hK; go_big_quiet_op; go_big_quiet_on)
    (refine wpG_op rfl rfl rfl ?_; intro K hK; go_big_quiet_op; go_big_quiet_on)
    (refine wpG_op rfl rfl rfl ?_; intro K hK; go_big_quiet_op; go_big_quiet_on)
    (refine wpG_val (v := idv b1) rfl rfl (fun u hu => load_run_op u (by rw [← HG1b.out]; exact boxes_load (k := k + 1) hu HFb.out (fun y hy => by cases List.mem_singleton.1 hy; exact List.Mem.head _) HOIb.out rfl (by rw [HOLb.out]; omega)) rfl) ?_ hw17; intro K hK; go_big_quiet_op; go_big_quiet_on)
    (refine wpG_val (v := .bool (eqL a1 b1)) rfl rfl (fun u hu => eql_id_op HC1a.out.1 HC1b.out.1 u rfl rfl) ?_ hw17; intro K hK; go_big_quiet_op; go_big_quiet_on)
    clear hone hw17
    refine wpG_nil ?_
    refine anyH_done (by kernel_rfl) ?_
    intro u19 E2'
    have EX18 := Lib.hid E2'
    clear E2'
    by_cases hab : a1 = b1
    · have hbt : eqL a1 b1 = true := by simp [eqL, hab]
      rw [hbt]
      obtain rfl : k = j := by
        rcases Nat.lt_or_ge k j with h | h
        · exact absurd hab (HK1.out h)
        · omega
      clear hbt hab HK1 HK2 HG1a HG1b HC1a HC1b HFST HQE
      obtain ⟨gs, rfl, hgs, hcell⟩ := (HSF.out.get).2 k hkm
      have HSC : Hid (∀ u, EnvX w4 u [] → u.cell? ⟨gs, k, none⟩ = some (.bool (s.getD k true))) := fun u hu => ((EnvX.bel hu).cell (p := ⟨gs, k, none⟩) hgs).trans hcell
      obtain ⟨ad2, rfl, hlp⟩ := (HJ.out.2.up HB4.out).loads HJ.out.1 (k := k) (by rw [HM.out]; exact hkm)
      obtain ⟨ad3, rfl, hlr⟩ := (HV.out.up H14.out).loads hrpi.out (k := k) (by rw [HPL2.out]; exact hkm)
      have HLP := Lib.hid hlp
      have HLR := Lib.hid hlr
      have HPK := Lib.hid (HJ.out.1.get (i := k) (by rw [HM.out]; exact hkm))
      have HRK := Lib.hid (hrpi.out.get (i := k) (by rw [HPL2.out]; exact hkm))
      have HG0a := Lib.hid (HGEa.out k (by omega))
      have HG0b := Lib.hid (HGEb.out k (by omega))
      have HC0a := Lib.hid (HCKa.out k)
      have HC0b := Lib.hid (HCKb.out k)
      clear hlp hlr hcell
      generalize s.getD k true = sk at *
      generalize climbK s leaf p k = ak at *
      generalize climbK s y rp k = bk at *
      generalize p.getD k [] = pk at *
      generalize rp.getD k [] = rk at *
      have HTa := Lib.hid (stepText_len sk HC0a.out.1 HPK.out.1)
      have HTb := Lib.hid (stepText_len sk HC0b.out.1 HRK.out.1)
      go_upto_region 12 with (fail)
      refine wp_region_H (w0 := w4) [(gb, Obj.cells curb 29 (0, 0)), (ga, Obj.cells cura 29 (0, 0))] (by kernel_rfl) EX18.out ?_
      refine anyH_phase [0, 1, 2, 3, 4, 5, 6, 7, 8, 9, 10, 11, 13, 14, 15, 16, 17, 18, 19, 20, 21, 22, 23, 24] 5 rfl ⟨_, (EnvX.drew EX18.out)⟩ (by kernel_rfl) ?_
      have hw20 : EnvX w4 _ [(gb, Obj.cells curb 29 (0, 0)), (ga, Obj.cells cura 29 (0, 0))] := (EnvX.drew EX18.out)
      have hone := @EnvC.one _ _ _ hw20
      (refine wpG_op rfl rfl rfl ?_; intro K hK; go_big_quiet_op; go_big_quiet_on)
      (refine wpG_op rfl rfl rfl ?_; intro K hK; go_big_quiet_op; go_big_quiet_on)
      (refine wpG_op rfl rfl rfl ?_; intro K hK; go_big_quiet_op; go_big_quiet_on)
      (refine wpG_val (v := .bool sk) rfl rfl (fun u hu => load_bool_op u (HSC.out u (EnvX.sub hu (fun _ h => by cases h))) rfl) ?_ hw20; intro K hK; go_big_quiet_op; go_big_quiet_on)
      (refine wpG_op rfl rfl rfl ?_; intro K hK; go_big_quiet_op; go_big_quiet_on)
      (refine wpG_op rfl rfl rfl ?_; intro K hK; go_big_quiet_op; go_big_quiet_on)
      (refine wpG_op rfl rfl rfl ?_; intro K hK; go_big_quiet_op; go_big_quiet_on)
      (refine wpG_val (v := idv ak) rfl rfl (fun u hu => load_run_op u (by rw [← HG0a.out]; exact boxes_load (k := k) hu HFa.out (fun y hy => by cases List.mem_singleton.1 hy; exact List.Mem.tail _ (List.Mem.head _)) HOIa.out rfl (by rw [HOLa.out]; omega)) rfl) ?_ hw20; intro K hK; go_big_quiet_op; go_big_quiet_on)
      (refine wpG_op rfl rfl rfl ?_; intro K hK; go_big_quiet_op; go_big_quiet_on)
      (refine wpG_op rfl rfl rfl ?_; intro K hK; go_big_quiet_op; go_big_quiet_on)
      (refine wpG_op rfl rfl rfl ?_; intro K hK; go_big_quiet_op; go_big_quiet_on)
      (refine wpG_val (v := idv pk) rfl rfl (fun u hu => load_run_op u (HLP.out u (EnvX.sub hu (fun _ h => by cases h))) rfl) ?_ hw20; intro K hK; go_big_quiet_op; go_big_quiet_on)
      (refine wpG_op rfl rfl rfl ?_; intro K hK; go_big_quiet_op; go_big_quiet_on)
      (refine wpG_op rfl rfl rfl ?_; intro K hK; go_big_quiet_op; go_big_quiet_on)
      (refine wpG_op rfl rfl rfl ?_; intro K hK; go_big_quiet_op; go_big_quiet_on)
      (refine wpG_val (v := .bool sk) rfl rfl (fun u hu => load_bool_op u (HSC.out u (EnvX.sub hu (fun _ h => by cases h))) rfl) ?_ hw20; intro K hK; go_big_quiet_op; go_big_quiet_on)
      (refine wpG_op rfl rfl rfl ?_; intro K hK; go_big_quiet_op; go_big_quiet_on)
      (refine wpG_op rfl rfl rfl ?_; intro K hK; go_big_quiet_op; go_big_quiet_on)
      (refine wpG_op rfl rfl rfl ?_; intro K hK; go_big_quiet_op; go_big_quiet_on)
      (refine wpG_val (v := idv bk) rfl rfl (fun u hu => load_run_op u (by rw [← HG0b.out]; exact boxes_load (k := k) hu HFb.out (fun y hy => by cases List.mem_singleton.1 hy; exact List.Mem.head _) HOIb.out rfl (by rw [HOLb.out]; omega)) rfl) ?_ hw20; intro K hK; go_big_quiet_op; go_big_quiet_on)
      (refine wpG_op rfl rfl rfl ?_; intro K hK; go_big_quiet_op; go_big_quiet_on)
      (refine wpG_op rfl rfl rfl ?_; intro K hK; go_big_quiet_op; go_big_quiet_on)
      (refine wpG_op rfl rfl rfl ?_; intro K hK; go_big_quiet_op; go_big_quiet_on)
      (refine wpG_val (v := idv rk) rfl rfl (fun u hu => load_run_op u (HLR.out u (EnvX.sub hu (fun _ h => by cases h))) rfl) ?_ hw20; intro K hK; go_big_quiet_op; go_big_quiet_on)
      clear hone hw20
      refine wpG_nil ?_
      refine anyH_one (i := 12) (by kernel_rfl) (hOp_fresh (R := FreshB (stepText sk ak pk)) (M0 := [(gb, Obj.cells curb 29 (0, 0)), (ga, Obj.cells cura 29 (0, 0))]) rfl rfl (fun _ h => h) (fun u hu => FAt_call (fid := 37) (xs := #[.tmp 81, .tmp 85, .tmp 89]) (args := #[.bool sk, idv ak, idv pk]) rfl Tryd.func37 rfl rfl u (calls_fresh (by rw [HTa.out]; omega) (rtxt_any sk ak pk u HC0a.out.1 HPK.out.1))) ?_)
      rintro x N ⟨g1, cap1, cur1, rfl, rfl, hc1⟩ hf he21; intro K' hK'; go_big_quiet_op; go_big_quiet_on
      have HU1 := Lib.hid hc1
      have HW1 := Lib.hid hf
      clear hc1
      clear hf
      change anyH _ _ _ _ _ _ _ _ [(g1, Obj.cells cur1 5 (0, 0)), (gb, Obj.cells curb 29 (0, 0)), (ga, Obj.cells cura 29 (0, 0))]
      refine anyH_one (i := 25) (by kernel_rfl) (hOp_fresh (R := FreshB (stepText sk bk rk)) (M0 := [(g1, Obj.cells cur1 5 (0, 0)), (gb, Obj.cells curb 29 (0, 0)), (ga, Obj.cells cura 29 (0, 0))]) rfl rfl (fun _ h => h) (fun u hu => FAt_call (fid := 37) (xs := #[.tmp 94, .tmp 98, .tmp 102]) (args := #[.bool sk, idv bk, idv rk]) rfl Tryd.func37 rfl rfl u (calls_fresh (by rw [HTb.out]; omega) (rtxt_any sk bk rk u HC0b.out.1 HRK.out.1))) ?_)
      rintro x N ⟨g2, cap2, cur2, rfl, rfl, hc2⟩ hf he22; intro K' hK'; go_big_quiet_op; go_big_quiet_on
      have HU2 := Lib.hid hc2
      have HW2 := Lib.hid hf
      clear hc2
      clear hf
      change anyH _ _ _ _ _ _ _ _ [(g2, Obj.cells cur2 5 (0, 0)), (g1, Obj.cells cur1 5 (0, 0)), (gb, Obj.cells curb 29 (0, 0)), (ga, Obj.cells cura 29 (0, 0))]
      refine anyH_phase [26, 27, 28] 0 rfl ⟨_, he22.choose_spec⟩ (by kernel_rfl) ?_
      have hw23 : EnvX w4 _ [(g2, Obj.cells cur2 5 (0, 0)), (g1, Obj.cells cur1 5 (0, 0)), (gb, Obj.cells curb 29 (0, 0)), (ga, Obj.cells cura 29 (0, 0))] := he22.choose_spec
      have hone := @EnvC.one _ _ _ hw23
      (refine wpG_op rfl rfl rfl ?_; intro K hK; go_big_quiet_op; go_big_quiet_on)
      (refine wpG_op rfl rfl rfl ?_; intro K hK; go_big_quiet_op; go_big_quiet_on)
      (refine wpG_op rfl rfl rfl ?_; intro K hK; go_big_quiet_op; go_big_quiet_on)
      clear hone hw23
      refine wpG_nil ?_
      refine anyH_done (by kernel_rfl) ?_
      intro u25 E2'
      have EX24 := Lib.hid E2'
      clear E2'
      go_wp2
      go_returns
      have hwb : w.heap.size ≤ w4.heap.size := HB4.out.size
      exact ⟨ClashR.yes HCL.out rfl (box_own (EnvX.box EX24.out _ _ (List.Mem.tail _ (List.Mem.head _))) (Nat.le_trans hwb (HW1.out _ (List.mem_singleton.2 rfl)).1) HU1.out) (box_own (EnvX.box EX24.out _ _ (List.Mem.head _)) (Nat.le_trans hwb (HW2.out _ (List.mem_singleton.2 rfl)).1) HU2.out), HB4.out.trans ((EnvX.bel EX24.out).mono HB4.out.size)⟩
    · have hbf : eqL a1 b1 = false := by simp [eqL, hab]
      rw [hbf]
      have hkj : k ≠ j := fun e => hab (HK2.out e)
      go_wp2
      go_roundw
      case rel => exact ⟨k + 1, by omega, by go_num, EX18⟩
      case measure => simp [intOf]; omega
theorem rclash_any (l : List (List Int)) (i : Int) (leaf : List Int) (p : List (List Int)) (A A2 : Option Addr) (n c m c2 : Nat) (w : World) (hl : l.length = n) (hn : n ≤ 64) (hnc : n ≤ c) (hc : c ≤ maxLen) (hi0 : -9223372036854775808 ≤ i) (hi1 : i ≤ 9223372036854775807)
    (hm : p.length = m) (hmc : m ≤ c2) (hcm : c2 ≤ maxLen) (hI : isIds l) (hA : IdsIn w w.heap.size A l) (hJ : isIds p) (hA2 : IdsIn w w.heap.size A2 p) (hx : leaf.length = 32 ∧ ∀ b ∈ leaf, 0 ≤ b ∧ b ≤ 255) :
    Calls Tryd.prog 22 #[.slice A n c, .int .i64 i, idv leaf, .slice A2 m c2] w fun e w' => ClashR l i leaf p w.heap.size e w' ∧ Below w.heap.size w w' := by
  by_cases ho : 0 ≤ i ∧ i < n
  · obtain ⟨j, rfl⟩ := Int.eq_ofNat_of_zero_le ho.1
    have hj : j < n := by omega
    cases hb : checkT (rootT l) n j leaf p with
    | false => exact rclash_b l j leaf p A A2 n c m c2 w hl hn hnc hc hm hmc hcm hI hA hJ hA2 hx hj hb
    | true =>
      by_cases he : leaf = l.getD j []
      · exact rclash_c l j leaf p A A2 n c m c2 w hl hn hnc hc hm hmc hcm hI hA hJ hA2 hx hj hb he
      · exact rclash_d l j leaf p A A2 n c m c2 w hl hn hnc hc hm hmc hcm hI hA hJ hA2 hx hj hb he
  · exact rclash_out l i leaf p A A2 n c m c2 w hl hn hnc hc hi0 hi1 hm hmc hcm hI hA hJ hA2 hx ho
end Go.Proofs.YtgiacilkecoenaaDoor
