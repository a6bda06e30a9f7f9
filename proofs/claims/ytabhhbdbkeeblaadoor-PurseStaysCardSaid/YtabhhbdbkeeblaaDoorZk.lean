/- Part of a proof. -/
import Derived.Test.YtabhhbdbkeeblaaDoorZj
namespace Go.Proofs.YtabhhbdbkeeblaaDoor
set_option maxRecDepth 8000
open Go.RowKit
/-- coins of one's own -/
def OwnCo (w : World) (B : Nat) (v : Value) (l : List CoinR) : Prop := w.ownsRow B 50 35 v l.length (l.map coC).flatten
/-- lists of coins, in memory -/
def PartsC (w : World) (B : Nat) (A : Option Addr) (pss : List (List CoinR)) : Prop := ∀ (k : Nat) (ps : List CoinR), pss[k]? = some ps → ∃ b o a c, A = some ⟨b, o, none⟩ ∧ b < B ∧ w.cell? ⟨b, o + k, none⟩ = some (.slice a ps.length c) ∧ CoinsIn w B a ps ∧ okP ps
theorem flat_stepC {α : Type} (xss : List (List α)) (k : Nat) (xs : List α) (h : xss[k]? = some xs) : (xss.take (k + 1)).flatten = (xss.take k).flatten ++ xs := by
  rw [List.take_add_one, h]
  simp
theorem flat_take_leC {α : Type} (xss : List (List α)) (k : Nat) : (xss.take k).flatten.length ≤ xss.flatten.length := by
  conv => rhs; rw [← List.take_append_drop k xss, List.flatten_append, List.length_append]
  omega
theorem OwnCo.append {w : World} {B B' c : Nat} {v : Value} {l ps : List CoinR} {a : Option Addr} (h : OwnCo w B v l) (hy : CoinsIn w B' a ps) (hok : okP ps) (hs : l.length + ps.length ≤ 2000000) (hB : B ≤ w.heap.size) :
    ∃ v' w', (∀ ty, (Builtin.append_ #[22, 22] ty #[v, .slice a ps.length c]).run Tryd.prog w = .ok v' w') ∧ OwnCo w' B v' (l ++ ps) ∧ Below B w w' := by
  unfold OwnCo at *
  have hfl : (ps.map coC).flatten.length = ps.length * 35 := flat35 hok.lens
  cases a with
  | none =>
    have h0 : ps = [] := by
      refine List.eq_nil_of_length_eq_zero (Nat.eq_zero_of_not_pos fun hp => ?_)
      obtain ⟨ad, e, _⟩ := hy (by rw [hfl]; omega)
      cases e
    subst h0
    obtain ⟨A1, c1, rfl, k1, k2⟩ := ownR_form h
    cases hi : Tryd.prog.info? 50 with
    | none => have := elCo.info; rw [hi] at this; cases this
    | some i =>
      have hrun : ∀ ty, (Builtin.append_ #[22, 22] ty #[.slice A1 l.length c1, .slice none 0 c]).run Tryd.prog w = .ok (.slice A1 l.length c1) w := fun ty => by
        cases A1 <;> simp [Builtin.append_, run_underlying elCo.und, sizeOf, typeInfo, hi, Builtin.lenOf, Builtin.firstCells, k1, storeCells]
      refine ⟨_, w, hrun, ?_, Below.refl _ _⟩
      rw [List.append_nil]
      exact h
  | some ad =>
    have hc : ∀ j u, ((ps.map coC).flatten)[j]? = some u → w.cell? (ad.add j) = some u := fun j u hu => by
      obtain ⟨ad', e, _, hcc⟩ := hy (by
        rcases Nat.eq_zero_or_pos ((ps.map coC).flatten).length with h0 | h0
        · rw [List.eq_nil_of_length_eq_zero h0] at hu; simp at hu
        · exact h0)
      obtain rfl := Option.some.inj e
      exact hcc j u hu
    cases hq : Tryd.prog.info? 50 with
    | none => have := elCo.info; rw [hq] at this; cases this
    | some i =>
      have hi := elCo.info
      rw [hq] at hi
      simp only [Option.map_some, Option.some.injEq, Prod.mk.injEq] at hi
      obtain ⟨k1, k2, k3⟩ := hi
      obtain ⟨v', w', hrun, hown', hg, _, ho⟩ := run_append_own_at (P := Tryd.prog) w B 22 22 50 i (coV noC0) 35 56 elCo.und hq k1 k2 k3 elCo.zs elCo.pos v l.length _ h ad ps.length c _ hfl hc (coins_one ps) (by unfold maxLen; omega) (by omega) hB
      refine ⟨v', w', fun ty => ?_, ?_, below_of_grown hg (fun r hr => (h.lt r hr).1) hB⟩
      · exact hrun
      · rw [List.length_append, List.map_append, List.flatten_append]
        exact hown'
/-- room for n coins, of nothing -/
theorem growC_any (n : Nat) (w : World) (h0 : 0 < n) (hn : n ≤ 1000000) :
    Calls Tryd.prog 81 #[.slice none 0 0, .int .i64 (n : Int)] w fun e w' => (∃ v, e = .returned v ∧ OwnCo w' w.heap.size v []) ∧ Below w.heap.size w w' := by
  have hT := elCo.info
  cases hq : Tryd.prog.info? 50 with
  | none => rw [hq] at hT; cases hT
  | some i =>
    rw [hq] at hT
    simp only [Option.map_some, Option.some.injEq, Prod.mk.injEq] at hT
    obtain ⟨k1, k2, k3⟩ := hT
    have hrz : Hid (∀ ty, (Builtin.append_ #[22, 3] ty #[.slice none 0 0, .int .i64 (n : Int)]).run Tryd.prog w = _) := fun ty => Lib.run_append_nil_zeros w 22 3 ty 50 i _ .i64 .i64 Tryd.underlying22 Tryd.underlying3 hq k1 n h0 (by omega) (by omega) (by rw [k3]; omega)
    have hG := grownCap_ge w n 0 50
    have hG2 := grownCap_le_maxLen w n 0 50 (by unfold maxLen; omega)
    obtain ⟨G, hGe⟩ : ∃ G, G = grownCap w n 0 50 := ⟨_, rfl⟩
    rw [← hGe] at hrz hG hG2
    have hcs : (Builtin.zeroCells (coV noC0).cells n ++ Builtin.zeroCells (coV noC0).cells (G - n)).size = G * 35 := by
      have hz := elCo.zs
      rw [Array.size_append]
      simp only [Builtin.zeroCells, Array.size_map, Array.size_range, hz]
      omega
    generalize Builtin.zeroCells (coV noC0).cells n ++ Builtin.zeroCells (coV noC0).cells (G - n) = cur at *
    have h1 : ¬ ((n : Int) < 0) := by omega
    have h2 : wrap64 ((n : Int)) = (n : Int) := by unfold wrap64; omega
    have h4 : (n : Int) > 0 := by omega
    have h5 : 0 < (n : Int) := by omega
    have hG63 : G ≤ 9223372036854775807 := by unfold maxLen at hG2; omega
    have HC := Lib.hid hcs
    have HG := Lib.hid (And.intro hG hG2)
    clear hcs hG hG2 hGe k1 k2 k3 hq
    go_enter Tryd.func81, Tryd.ntmps81
    go_wp2_with (at_builtin; (with_reducible refine wpList_appzero_run (o := ⟨some 22, _, _, _, _, _⟩) ?_ (.tmp 20) (.tmp 21) ?_ ?_ ?_ hrz.out ?_); (rfl); (rfl); (rfl); (rfl))
    all_goals (go_ret; skip)
    refine ⟨⟨_, rfl, ?_⟩, ?_⟩
    · refine ⟨rfl, .inr ⟨w.heap.size, G, cur, rfl, Nat.le_refl _, ?_, Nat.zero_le _, HG.out.2, HC.out, by simp⟩⟩
      exact heap_alloc_new w.drew _
    · exact ((Below.refl _ w).drew).alloc (Nat.le_refl _) _
set_option maxRecDepth 20000 in
set_option maxHeartbeats 4000000 in
/-- bytes that are put one behind the other -/
theorem concatC_any (A : Option Addr) (n c : Nat) (xss : List (List CoinR)) (w : World) (hl : xss.length = n) (hx : PartsC w w.heap.size A xss) (hn : n ≤ 1000000) (hp : 0 < xss.flatten.length) (hs : xss.flatten.length ≤ 1000000) :
    Calls Tryd.prog 72 #[.slice A n c] w fun e w' => (∃ v, e = .returned v ∧ OwnCo w' w.heap.size v xss.flatten) ∧ Below w.heap.size w w' := by
  have HL := Lib.hid hl
  have HX := Lib.hid hx
  have HP := Lib.hid hp
  have HS := Lib.hid hs
  clear hl hx hp hs
  go_enter Tryd.func72, Tryd.ntmps72
  go_wp2_with fail
  go_loopw [3, 11] (fun v i u => ∃ k : Nat, k ≤ n ∧ i = .int .i64 (k : Int) ∧ v = .int .i64 ((xss.take k).flatten.length : Int) ∧ u = w) (fun _ i _ => n - (intOf i).toNat)
  case atStart => exact ⟨0, by omega, rfl, rfl, rfl⟩
  case round =>
    obtain ⟨k, hk, rfl, rfl, hU⟩ := hrel
    obtain rfl := hU.symm
    by_cases hlt : k < n
    · have hg := List.getElem?_eq_getElem (by rw [HL.out]; exact hlt : k < xss.length)
      have hst := congrArg List.length (flat_stepC xss k _ hg)
      rw [List.length_append] at hst
      obtain ⟨b, o, a, c1, rfl, hb, hc, hy, hr⟩ := HX.out k _ hg
      have hle := flat_take_leC xss (k + 1)
      have h6 := HS.out
      generalize xss[k]'(by rw [HL.out]; exact hlt) = ys at *
      have HST := Lib.hid hst
      generalize (xss.take k).flatten.length = p1 at *
      generalize ys.length = m at *
      have hadd : wrap64 ((p1 : Int) + (m : Int)) = (p1 : Int) + (m : Int) := by unfold wrap64; omega
      have hneg : ¬ ((p1 : Int) + (m : Int) < 0) := by omega
      have hk2 : (k : Int) < (n : Int) := by omega
      clear hg hy hr hle h6 hst
      go_wp2
      go_roundw
      case rel => exact ⟨k + 1, by omega, by go_num, by rw [HST.out, hadd, Int.natCast_add], trivial⟩
      case measure => simp [intOf]; omega
    · obtain rfl : k = n := by omega
      have hT : xss.take k = xss := List.take_of_length_le (by rw [HL.out]; exact Nat.le_refl _)
      rw [hT]
      obtain ⟨q, hq⟩ : ∃ q, xss.flatten.length = q := ⟨_, rfl⟩
      have hq1 := HP.out
      have hq2 := HS.out
      rw [hq] at hq1 hq2 ⊢
      have HQ := Lib.hid hq
      clear hq hT
      go_wp2_with fail
      refine (growC_any q w hq1 hq2).mono ?_
      rintro e w2 ⟨⟨v2, rfl, hv2⟩, hb2⟩
      have HO := Lib.hid hv2
      have HB := Lib.hid hb2
      clear hv2 hb2
      go_wp2_with fail
      go_loopw [6, 27] (fun v i u => ∃ j : Nat, j ≤ k ∧ i = .int .i64 (j : Int) ∧ Hid (OwnCo u w.heap.size v (xss.take j).flatten ∧ Below w.heap.size w u)) (fun _ i _ => k - (intOf i).toNat)
      case atStart => exact ⟨0, by omega, rfl, HO.out, HB.out⟩
      case round =>
        obtain ⟨j, hj, rfl, hinv⟩ := hrel
        obtain ⟨hO, hB⟩ := hinv.out
        clear hinv
        by_cases hjt : j < k
        · have hg := List.getElem?_eq_getElem (by rw [HL.out]; exact hjt : j < xss.length)
          have hst := Lib.hid (flat_stepC xss j _ hg)
          obtain ⟨b, o, a, c1, rfl, hb, hc, hy, hr⟩ := HX.out j _ hg
          have hle := flat_take_leC xss (j + 1)
          rw [hst.out, List.length_append] at hle
          have h6 := HS.out
          generalize xss[j]'(by rw [HL.out]; exact hjt) = ys at *
          obtain ⟨v', w', hrun, hown', hb2⟩ := OwnCo.append (c := c1) hO (CellsIn.below hy hB) hr (by omega) hB.size
          have hcell := (hB.cell (p := ⟨b, o + j, none⟩) hb).trans hc
          have HN : Hid (OwnCo w' w.heap.size v' (xss.take (j + 1)).flatten ∧ Below w.heap.size w w') := ⟨by rw [hst.out]; exact hown', hB.trans hb2⟩
          have HRUN := Lib.hid hrun
          have hj2 : (j : Int) < (k : Int) := by omega
          clear hg hc hy hr hrun hown' hb2 hle h6 hO hB hst
          generalize ys.length = m at *
          go_wp2_with (at_builtin; (with_reducible refine Lib.wpList_append_run _ (o := ⟨some 33, _, _, _, _, _⟩) ?_ (.tmp 31) (.tmp 32) 22 22 ?_ _ _ ?_ ?_ _ _ (HRUN.out _) ?_); (rfl); (rfl); (rfl); (rfl))
          go_roundw
          case rel => exact ⟨j + 1, by omega, by go_num, HN⟩
          case measure => simp [intOf]; omega
        · obtain rfl : j = k := by omega
          have hge : ¬ (j : Int) < (j : Int) := by omega
          have hT : xss.take j = xss := List.take_of_length_le (by rw [HL.out]; exact Nat.le_refl _)
          rw [hT] at hO
          have HO2 := Lib.hid hO
          have HB2 := Lib.hid hB
          clear hO hB hT
          go_wp2
          go_ret
          exact ⟨⟨_, rfl, HO2.out⟩, HB2.out⟩
section
variable {st e : TypeId} {bytes : Nat} {zero : Value}
theorem run_buildR3 (T : ElemT st e 1 bytes zero) (x y z : Value) (hx : x.cells = #[x]) (hy : y.cells = #[y]) (hz : z.cells = #[z]) (u : World) : (Instr.buildSlice st 3 #[(0, x), (1, y), (2, z)]).run Tryd.prog u = .ok (.slice (some ⟨u.heap.size, 0, none⟩) 3 3) (u.alloc (.cells #[x, y, z] e)) := by
  cases hq : Tryd.prog.info? e with
  | none => have := T.info; rw [hq] at this; cases this
  | some i =>
    have hi := T.info
    rw [hq] at hi
    simp only [Option.map_some, Option.some.injEq, Prod.mk.injEq] at hi
    obtain ⟨k1, k2, k3⟩ := hi
    have hsm := T.small
    have hpz := T.pos
    refine run_buildSlice u st e 3 _ #[x, y, z] i zero T.und hq k1 (by omega) (by omega) ?_
    rw [k2]
    have hf := Great.fill_whole (s := 1) T.pos [x, y, z] ((Array.range (3 * 1)).map (zero.cells[· % zero.cells.size]!)) (by
      intro v hv
      simp only [List.mem_cons, List.not_mem_nil, or_false] at hv
      rcases hv with rfl | rfl | rfl
      · rw [hx]; rfl
      · rw [hy]; rfl
      · rw [hz]; rfl) (by simp)
    simpa [hx, hy, hz] using hf
def BuiltS3 (e : TypeId) (x y z : Value) (v : Value) (N : Boxes) : Prop := ∃ g, v = .slice (some ⟨g, 0, none⟩) 3 3 ∧ N = [(g, Obj.cells #[x, y, z] e (0, 0))]
theorem FAt_buildS3 (T : ElemT st e 1 bytes zero) {x y z : Value} (hx : x.cells = #[x]) (hy : y.cells = #[y]) (hz : z.cells = #[z]) {a : Act} {dst : Option Tmp} {p q r : Operand} {ty : TypeId} {pos : String} {after : Array Edge} {gd : Option (Nat × Bool)} (hp : a.eval p = x) (hq : a.eval q = y) (hr : a.eval r = z) (u : World) :
    FAt Tryd.prog ⟨dst, .buildSlice st 3 #[(0, p), (1, q), (2, r)], ty, pos, after, gd⟩ a (BuiltS3 e x y z) u := by
  unfold FAt execOp
  simp only [List.map_toArray, List.map_cons, List.map_nil, hp, hq, hr, Sem.run_bind, Sem.run_pure, run_buildR3 T x y z hx hy hz u, Result.andThen_ok]
  refine ⟨(Below.refl _ _).alloc (Nat.le_refl _) _, _, ⟨_, rfl, rfl⟩, fun y hy => ?_⟩
  cases List.mem_singleton.1 hy
  exact ⟨Nat.le_refl _, heap_alloc_new u _⟩
end
theorem elSls : ElemT 105 22 1 24 (.slice none 0 0) := ⟨Tryd.underlying105, by kernel_rfl, by decide +kernel, by decide, by decide, by decide⟩
theorem partsC3 {w : World} {g n1 n2 n3 c1 c2 c3 : Nat} {a1 a2 a3 : Option Addr} {p1 p2 p3 : List CoinR} (hg : w.heap[g]? = some (.cells #[.slice a1 n1 c1, .slice a2 n2 c2, .slice a3 n3 c3] 22 (0, 0)))
    (l1 : p1.length = n1) (l2 : p2.length = n2) (l3 : p3.length = n3) (h1 : CoinsIn w w.heap.size a1 p1) (h2 : CoinsIn w w.heap.size a2 p2) (h3 : CoinsIn w w.heap.size a3 p3) (o1 : okP p1) (o2 : okP p2) (o3 : okP p3) : PartsC w w.heap.size (some ⟨g, 0, none⟩) [p1, p2, p3] := by
  subst l1 l2 l3
  have hlt := Row.lt (t := 22) hg
  intro k ps hk
  match k, hk with
  | 0, hk => cases hk; exact ⟨g, 0, a1, c1, rfl, hlt, cell_of_row w g 0 _ _ _ hg, h1, o1⟩
  | 1, hk => cases hk; exact ⟨g, 0, a2, c2, rfl, hlt, cell_of_row w g 1 _ _ _ hg, h2, o2⟩
  | 2, hk => cases hk; exact ⟨g, 0, a3, c3, rfl, hlt, cell_of_row w g 2 _ _ _ hg, h3, o3⟩
  | k + 3, hk => simp at hk
set_option maxRecDepth 20000 in
set_option maxHeartbeats 16000000 in
theorem pwith_any (p : List CoinR) (A : Option Addr) (n c : Nat) (id : List Int) (os : List OutR) (A2 : Option Addr) (n2 c2 : Nat) (w : World) (hl : p.length = n) (hn : n ≤ 1000) (hnc : n ≤ c) (hcm : c ≤ maxLen) (hI : okP p) (hup : upP p) (hA : CoinsIn w w.heap.size A p) (hid : isId id) (hth : thereP p id = false) (hl2 : os.length = n2) (h2 : n2 ≤ 1000) (h20 : 0 < n2) (ho : okOuts os) (hA2 : OutsIn w w.heap.size A2 os) :
    Calls Tryd.prog 60 #[.slice A n c, idv id, .slice A2 n2 c2] w fun e w' => (∃ v, e = .returned v ∧ w'.ownsRow w.heap.size 50 35 v (madeP p (newC id 0 os)).length ((madeP p (newC id 0 os)).map coC).flatten) ∧ Below w.heap.size w w' := by
  have HMP := Lib.hid (made_place hI.id hid hup hth os)
  have hkn := placeP_le p ⟨id, 0⟩
  have HL := Lib.hid hl
  have HPP := Lib.hid hI
  have HAA := Lib.hid hA
  have HN63 : Hid (n < 9223372036854775808) := by show _ < _; unfold maxLen at hcm; omega
  have HNC := Lib.hid (And.intro hnc hcm)
  have HN1 : Hid (n ≤ 1000) := hn
  have HID := Lib.hid hid
  have HIL : Hid (id.length = 32) := hid.1
  have HL2 := Lib.hid hl2
  have HN2 : Hid (n2 ≤ 1000) := h2
  have HN20 : Hid (0 < n2) := h20
  have HM63 : Hid (n2 < 9223372036854775808) := by show _ < _; omega
  have HOO := Lib.hid ho
  have HA2 : Hid (OutsIn w w.heap.size A2 os) := hA2
  have HPL : Hid (∀ u, Below w.heap.size w u → Calls Tryd.prog 51 #[.slice A n c, inV ⟨id, 0⟩] u fun e w' => e = .returned (.int .i64 (placeP p ⟨id, 0⟩ : Int)) ∧ Below u.heap.size u w') := fun u hu => pplace_any p A n c ⟨id, 0⟩ u hl (by omega) hI hup (CellsIn.up hA hu) ⟨hid, show I64 0 by unfold I64; omega⟩
  have E1 : Hid (EnvX w (w.alloc (.cells (arrB 32 id) 40)) [(w.heap.size, Obj.cells (arrB 32 id) 40 (0, 0))]) := (EnvX.start w).new _
  obtain ⟨at', hat⟩ : ∃ k, placeP p ⟨id, 0⟩ = k := ⟨_, rfl⟩
  rw [hat] at HPL HMP hkn
  rw [hl] at hkn
  have HAT : Hid (at' ≤ n) := hkn
  clear hl hn hnc hcm hI hup hA hid hth hl2 h2 h20 ho hA2 hkn hat
  unfold idv
  go_enter Tryd.func60, Tryd.ntmps60
  go_upto_region 1 with (fail)
  generalize w.alloc (.cells (arrB 32 id) 40) = W at *
  refine wp_region_Hx (w0 := w) [0, 1, 2, 3] [(w.heap.size, Obj.cells (arrB 32 id) 40 (0, 0))] rfl E1.out ?_
  refine lexH_phase [0, 1] [2, 3] ?_
  have hw1 : EnvX w _ [(w.heap.size, Obj.cells (arrB 32 id) 40 (0, 0))] := E1.out
  have hone := @EnvC.one _ _ _ hw1
  (refine wpG_op rfl rfl rfl ?_; intro K hK; go_big_quiet_op; go_big_quiet_on)
  (refine wpG_val (v := .int .i64 (n2 : Int)) rfl rfl (fun u hu => len_op Tryd.underlying24 HM63.out u rfl) ?_ hw1; intro K hK; go_big_quiet_op; go_big_quiet_on)
  clear hone hw1
  refine wpG_nil ?_
  refine (hOp_fresh (R := fun v N => ∃ g cur, v = .slice (some ⟨g, 0, none⟩) 0 n2 ∧ N = [(g, Obj.cells cur 50 (0, 0))] ∧ cur.size = n2 * 35) (M0 := [(w.heap.size, Obj.cells (arrB 32 id) 40 (0, 0))]) rfl rfl (fun _ h => h) (fun u hu => FAt_makeR elCo (by have := HN2.out; omega) rfl u) ?_)
  rintro _ _ ⟨gm, cm, rfl, rfl, hcm⟩ hf he2; intro K' hK'; go_big_quiet_op; go_big_quiet_on
  have HCM := Lib.hid hcm
  have HGM := Lib.hid (hf _ (List.mem_singleton.2 rfl))
  clear hcm
  clear hf
  change lexH _ _ _ _ _ _ [(gm, Obj.cells cm 50 (0, 0)), (w.heap.size, Obj.cells (arrB 32 id) 40 (0, 0))]
  refine lexH_phase [3] [] ?_
  have hw3 : EnvX w _ [(gm, Obj.cells cm 50 (0, 0)), (w.heap.size, Obj.cells (arrB 32 id) 40 (0, 0))] := he2.choose_spec
  have hone := @EnvC.one _ _ _ hw3
  (refine wpG_op rfl rfl rfl ?_; intro K hK; go_big_quiet_op; go_big_quiet_on)
  clear hone hw3
  refine wpG_nil ?_
  intro u5 E2'
  have EX4 := Lib.hid E2'
  clear E2'
  go_upto_region 2 with (fail)
  refine wp_region_Hx (w0 := w) [0, 1, 2] [(gm, Obj.cells cm 50 (0, 0)), (w.heap.size, Obj.cells (arrB 32 id) 40 (0, 0))] rfl EX4.out ?_
  refine lexH_phase [0, 1, 2] [] ?_
  have hw6 : EnvX w _ [(gm, Obj.cells cm 50 (0, 0)), (w.heap.size, Obj.cells (arrB 32 id) 40 (0, 0))] := EX4.out
  have hone := @EnvC.one _ _ _ hw6
  (refine wpG_op rfl rfl rfl ?_; intro K hK; go_big_quiet_op; go_big_quiet_on)
  (refine wpG_val (v := .int .i64 (n2 : Int)) rfl rfl (fun u hu => len_op Tryd.underlying24 HM63.out u rfl) ?_ hw6; intro K hK; go_big_quiet_op; go_big_quiet_on)
  (refine wpG_op rfl rfl rfl ?_; intro K hK; go_big_quiet_op; go_big_quiet_on)
  clear hone hw6
  refine wpG_nil ?_
  intro u8 E2'
  have EX7 := Lib.hid E2'
  clear E2'
  have HINV : Hid (∃ N, FreshR 50 35 0 ((newC id 0 (os.take 0)).map coC).flatten (.slice (some ⟨gm, 0, none⟩) 0 n2) N ∧ freshN w N [(w.heap.size, Obj.cells (arrB 32 id) 40 (0, 0))] ∧ EnvX w u8 (N ++ [(w.heap.size, Obj.cells (arrB 32 id) 40 (0, 0))])) := ⟨[(gm, Obj.cells cm 50 (0, 0))], .inl ⟨gm, n2, cm, rfl, rfl, Nat.zero_le _, by have := HN2.out; unfold maxLen; omega, HCM.out, by simp [newC]⟩, (fun y hy => by cases List.mem_singleton.1 hy; exact HGM.out), EX7.out⟩
  clear EX7 E1 HCM HGM
  go_upto_region 3 with (fail)
  go_loopw [7, 16] (fun v iv u => ∃ i : Nat, i ≤ n2 ∧ iv = .int .i64 (i : Int) ∧ Hid (∃ N, FreshR 50 35 i ((newC id 0 (os.take i)).map coC).flatten v N ∧ freshN w N [(w.heap.size, Obj.cells (arrB 32 id) 40 (0, 0))] ∧ EnvX w u (N ++ [(w.heap.size, Obj.cells (arrB 32 id) 40 (0, 0))]))) (fun _ iv _ => n2 - (intOf iv).toNat)
  case atStart => exact ⟨0, by omega, rfl, HINV⟩
  case round =>
    obtain ⟨i, hi, rfl, hinv⟩ := hrel
    obtain ⟨N, hF, hfr, hE⟩ := hinv.out
    have EK := Lib.hid hE
    have HF := Lib.hid hF
    have HFR := Lib.hid hfr
    clear hinv HINV hE hF hfr
    by_cases hlt : i < n2
    · have C3 : Hid (decide ((i : Int) < (n2 : Int)) = true) := decide_eq_true (by omega)
      have HI := Lib.hid hlt
      have hil : i < os.length := by rw [HL2.out]; exact hlt
      obtain ⟨ad, rfl, -, hld⟩ := HA2.out.loads hil
      have HLD := Lib.hid hld
      have hoo : okOut (os.getD i noOut) := HOO.out.get hil
      have hsn := newC_snoc id (os.take i) 0 (os.getD i noOut)
      rw [← take_snocC noOut hil, List.length_take, Nat.min_eq_left (by omega), Int.zero_add] at hsn
      have hnl : (newC id 0 (os.take i)).length = i := by rw [newC_len, List.length_take, Nat.min_eq_left (by omega)]
      have hnk : okP (newC id 0 (os.take i)) := newC_ok HID.out (fun o ho => HOO.out o (List.mem_of_mem_take ho)) (by rw [List.length_take]; have := HN2.out; omega)
      obtain ⟨y, hy⟩ : ∃ y, os.getD i noOut = y := ⟨_, rfl⟩
      rw [hy] at HLD hoo hsn
      have HSN := Lib.hid hsn
      have HCO : Hid (lenC ⟨id, i, y.v, y.to⟩) := HIL.out
      have HLI : Hid (lenI ⟨id, i⟩) := HIL.out
      have HSL : Hid (((newC id 0 (os.take i)).map coC).flatten.length = i * 35) := by show _ = _; rw [flat35 hnk.lens, hnl]
      have HXE : Hid (((newC id 0 (os.take (i + 1))).map coC).flatten = ((newC id 0 (os.take i)).map coC).flatten ++ coC ⟨id, i, y.v, y.to⟩) := by
        show _ = _
        rw [hsn, List.map_append, List.flatten_append]
        simp
      clear hlt hil hld hoo hsn hnl hnk hy
      generalize ((newC id 0 (os.take i)).map coC).flatten = xs at *
      go_upto_region 3 with (fail)
      refine wp_region_Hx (w0 := w) [0] (N ++ ((w.heap.size, Obj.cells (arrB 32 id) 40 (0, 0)) :: [])) rfl EK.out ?_
      refine lexH_phase [0] [] ?_
      have hw21 : EnvX w _ (N ++ ((w.heap.size, Obj.cells (arrB 32 id) 40 (0, 0)) :: [])) := EK.out
      have hone := @EnvC.one _ _ _ hw21
      (refine wpG_val (v := .bool true) rfl rfl (fun u hu => ltZ_op u C3.out rfl rfl) ?_ hw21; intro K hK; go_big_quiet_op; go_big_quiet_on)
      clear hone hw21
      refine wpG_nil ?_
      intro u23 E2'
      have EX22 := Lib.hid E2'
      clear E2'
      go_upto_region 4 with (fail)
      refine wp_region_Hx (w0 := w) [0, 1, 2, 3, 4, 5] (N ++ ((w.heap.size, Obj.cells (arrB 32 id) 40 (0, 0)) :: [])) rfl EX22.out ?_
      refine lexH_phase [0, 1, 2] [3, 4, 5] ?_
      have hw24 : EnvX w _ (N ++ ((w.heap.size, Obj.cells (arrB 32 id) 40 (0, 0)) :: [])) := EX22.out
      have hone := @EnvC.one _ _ _ hw24
      (refine wpG_op rfl rfl rfl ?_; intro K hK; go_big_quiet_op; go_big_quiet_on)
      (refine wpG_val (v := .pointer (some (ad.add (i * 2)))) rfl rfl (fun u hu => idxSl_op (i := i) Tryd.underlying24 aggOut.size HI.out u rfl rfl) ?_ hw24; intro K hK; go_big_quiet_op; go_big_quiet_on)
      (refine wpG_val (v := outV y) rfl rfl (fun u hu => load_any_op u (HLD.out u (EnvX.sub hu (fun _ h => by cases h))).1 rfl) ?_ hw24; intro K hK; go_big_quiet_op; go_big_quiet_on)
      clear hone hw24
      refine wpG_nil ?_
      refine (hOp_fresh (R := fun x N => ∃ g, x = .pointer (some ⟨g, 0, none⟩) ∧ N = [(g, Obj.cells (outA noOut) 48 (0, 0))]) (M0 := (N ++ ((w.heap.size, Obj.cells (arrB 32 id) 40 (0, 0)) :: []))) rfl rfl (fun _ h => h) (fun u hu => FAt_new (new_out _) u) ?_)
      rintro _ _ ⟨go, rfl, rfl⟩ hf he25; intro K' hK'; go_big_quiet_op; go_big_quiet_on
      have HG6 := Lib.hid (hf _ (List.mem_singleton.2 rfl))
      clear hf
      change lexH _ _ _ _ _ _ ((go, Obj.cells (outA noOut) 48 (0, 0)) :: (N ++ ((w.heap.size, Obj.cells (arrB 32 id) 40 (0, 0)) :: [])))
      refine lexH_phase [4] [5] ?_
      have hw26 : EnvX w _ ((go, Obj.cells (outA noOut) 48 (0, 0)) :: (N ++ ((w.heap.size, Obj.cells (arrB 32 id) 40 (0, 0)) :: []))) := he25.choose_spec
      have hone := @EnvC.one _ _ _ hw26
      (refine wpG_op rfl rfl rfl ?_; intro K hK; go_big_quiet_op; go_big_quiet_on)
      clear hone hw26
      refine wpG_nil ?_
      refine (hOp_store rfl (go) (outA y) rfl rfl HG6.out.1 48 ((outA noOut)) (List.Mem.head _) (infoOut _ (outA_size _)) ((outA_size _).trans (outA_size _).symm) (outA_one _) ((go, Obj.cells (outA y) 48 (0, 0)) :: (N ++ ((w.heap.size, Obj.cells (arrB 32 id) 40 (0, 0)) :: []))) (List.forall_mem_cons.2 ⟨.inl rfl, fun y hy => .inr ⟨List.mem_cons_of_mem _ hy, HG6.out.2 y hy⟩⟩) ?_)
      intro he27
      intro u29 E2'
      have EX28 := Lib.hid E2'
      clear E2'
      go_upto_region 5 with (fail)
      refine wp_region_Hx (w0 := w) [0, 1, 2, 3, 4, 5, 6, 7, 8] ((go, Obj.cells (outA y) 48 (0, 0)) :: (N ++ ((w.heap.size, Obj.cells (arrB 32 id) 40 (0, 0)) :: []))) rfl EX28.out ?_
      refine lexH_phase [0, 1, 2, 3, 4, 5] [6, 7, 8] ?_
      have hw30 : EnvX w _ ((go, Obj.cells (outA y) 48 (0, 0)) :: (N ++ ((w.heap.size, Obj.cells (arrB 32 id) 40 (0, 0)) :: []))) := EX28.out
      have hone := @EnvC.one _ _ _ hw30
      (refine wpG_op rfl rfl rfl ?_; intro K hK; go_big_quiet_op; go_big_quiet_on)
      (refine wpG_val (v := idv id) rfl rfl (fun u hu => load_any_op u (box_idvP hu (List.Mem.tail _ (List.mem_append_right _ (List.Mem.head _))) HIL.out) rfl) ?_ hw30; intro K hK; go_big_quiet_op; go_big_quiet_on)
      (refine wpG_op rfl rfl rfl ?_; intro K hK; go_big_quiet_op; go_big_quiet_on)
      (refine wpG_val (v := inV ⟨id, i⟩) rfl rfl (fun u hu => buildA_op u (built_in HIL.out)) ?_ hw30; intro K hK; go_big_quiet_op; go_big_quiet_on)
      (refine wpG_val (v := outV y) rfl rfl (fun u hu => load_any_op u (box_out hu (List.Mem.head _)) rfl) ?_ hw30; intro K hK; go_big_quiet_op; go_big_quiet_on)
      (refine wpG_val (v := .agg (coC ⟨id, i, y.v, y.to⟩).toArray) rfl rfl (fun u hu => buildA_op u (built_co HLI.out)) ?_ hw30; intro K hK; go_big_quiet_op; go_big_quiet_on)
      clear hone hw30
      refine wpG_nil ?_
      refine (hOp_fresh (R := BuiltR 50 (coC ⟨id, i, y.v, y.to⟩)) (M0 := ((go, Obj.cells (outA y) 48 (0, 0)) :: (N ++ ((w.heap.size, Obj.cells (arrB 32 id) 40 (0, 0)) :: [])))) rfl rfl (fun _ h => h) (fun u hu => FAt_buildR elCo (coC_len HCO.out) (coC_one _) rfl u) ?_)
      rintro _ _ ⟨g8, rfl, rfl⟩ hf he31; intro K' hK'; go_big_quiet_op; go_big_quiet_on
      clear hf
      change lexH _ _ _ _ _ _ ((g8, Obj.cells (coC ⟨id, i, y.v, y.to⟩).toArray 50 (0, 0)) :: ((go, Obj.cells (outA y) 48 (0, 0)) :: (N ++ ((w.heap.size, Obj.cells (arrB 32 id) 40 (0, 0)) :: []))))
      refine (hOp_own (gd := none) (R := GrownR w 50 35 (i + 1) (xs ++ coC ⟨id, i, y.v, y.to⟩) [(w.heap.size, Obj.cells (arrB 32 id) 40 (0, 0))]) rfl rfl rfl rfl (fun u hu => appR_op elCo (m := 1) (c := 1) [(w.heap.size, Obj.cells (arrB 32 id) 40 (0, 0))] hu HSL.out (by rw [Nat.one_mul]; exact coC_len HCO.out) (coC_one _) HF.out (fun y hy => ⟨List.mem_cons_of_mem _ (List.mem_cons_of_mem _ (List.mem_append_left _ hy)), (HFR.out y hy).1⟩) (List.Mem.head _) (fun z hz => ⟨List.mem_cons_of_mem _ (List.mem_cons_of_mem _ (List.mem_append_right _ hz)), fun y hy => (HFR.out y hy).2 z hz⟩) (by have := HI.out; have := HN2.out; omega) rfl rfl) ?_)
      rintro x9 M' ⟨N9, rfl, hF9, hn9⟩ he32; intro K' hK'; go_big_quiet_op; go_big_quiet_on
      have HF9 := Lib.hid hF9
      have HN9 := Lib.hid hn9
      clear hF9 hn9
      change lexH _ _ _ _ _ _ (N9 ++ ((w.heap.size, Obj.cells (arrB 32 id) 40 (0, 0)) :: []))
      refine lexH_phase [8] [] ?_
      have hw33 : EnvX w _ (N9 ++ ((w.heap.size, Obj.cells (arrB 32 id) 40 (0, 0)) :: [])) := he32.choose_spec
      have hone := @EnvC.one _ _ _ hw33
      (refine wpG_op rfl rfl rfl ?_; intro K hK; go_big_quiet_op; go_big_quiet_on)
      clear hone hw33
      refine wpG_nil ?_
      intro u35 E2'
      have EX34 := Lib.hid E2'
      clear E2'
      have HNX : Hid (∃ N, FreshR 50 35 (i + 1) ((newC id 0 (os.take (i + 1))).map coC).flatten x9 N ∧ freshN w N [(w.heap.size, Obj.cells (arrB 32 id) 40 (0, 0))] ∧ EnvX w u35 (N ++ [(w.heap.size, Obj.cells (arrB 32 id) 40 (0, 0))])) := ⟨N9, by rw [HXE.out]; exact HF9.out, HN9.out, EX34.out⟩
      have hii := HI.out
      have hn := HN2.out
      go_wp2
      go_roundw
      case rel => exact ⟨i + 1, by omega, by go_num, HNX⟩
      case measure => simp [intOf]; omega
    · obtain rfl : i = n2 := by omega
      have C3 : Hid (decide ((i : Int) < (i : Int)) = false) := decide_eq_false (by omega)
      rw [List.take_of_length_le (by rw [HL2.out]; exact Nat.le_refl _)] at HF
      obtain ⟨A3, c3, rfl, hc1, hc2⟩ := FreshR.formC HF.out
      have hnk : okP (newC id 0 os) := newC_ok HID.out (fun o ho => HOO.out o ho) (by rw [HL2.out]; exact HN2.out)
      have hnl : (newC id 0 os).length = i := by rw [newC_len, HL2.out]
      have HNK := Lib.hid hnk
      have HNL := Lib.hid hnl
      have HLT : Hid ((p.take at').length = at' ∧ (p.drop at').length = n - at') := ⟨by rw [List.length_take, HL.out]; have := HAT.out; omega, by rw [List.length_drop, HL.out]⟩
      have HFLT : Hid (0 < [p.take at', newC id 0 os, p.drop at'].flatten.length ∧ [p.take at', newC id 0 os, p.drop at'].flatten.length ≤ 1000000) := by
        have h1 := HLT.out.1
        have h2 := HLT.out.2
        have h3 := HN1.out
        have h4 := HN2.out
        have h5 := HN20.out
        have h6 := HAT.out
        have h : [p.take at', newC id 0 os, p.drop at'].flatten.length = at' + (i + (n - at')) := by simp only [List.flatten_cons, List.flatten_nil, List.length_append, List.length_nil, h1, h2, hnl, Nat.add_zero]
        rw [show _ = _ from h]
        exact ⟨by omega, by omega⟩
      have HEQ : Hid ([p.take at', newC id 0 os, p.drop at'].flatten = madeP p (newC id 0 os)) := by
        show _ = _
        rw [HMP.out]
        simp
      have HCC : Hid (∀ u g, EnvX w u (N ++ []) → u.heap[g]? = some (.cells #[.slice A at' c, .slice A3 i c3, .slice (cutX 35 A at' c) (n - at') (c - at')] 22 (0, 0)) → Calls Tryd.prog 72 #[.slice (some ⟨g, 0, none⟩) 3 3] u fun e w' => (∃ v, e = .returned v ∧ w'.ownsRow u.heap.size 50 35 v (madeP p (newC id 0 os)).length ((madeP p (newC id 0 os)).map coC).flatten) ∧ Below u.heap.size u w') := fun u g hu hg => by
        have hb := EnvX.bel hu
        have hcp : CoinsIn u u.heap.size A p := CellsIn.up HAA.out hb
        have h := concatC_any (some ⟨g, 0, none⟩) 3 3 [p.take at', newC id 0 os, p.drop at'] u rfl (partsC3 hg HLT.out.1 HNL.out HLT.out.2 (CoinsIn.first hcp at') (own_cells (HF.out.own (w := u) (B := 0) (by rw [flat35 HNK.out.lens, HNL.out]) (fun y hy => ⟨Nat.zero_le _, hu.box _ _ (List.mem_append_left _ hy)⟩))) (CoinsIn.rest hcp HPP.out.lens (by rw [HL.out]; exact HAT.out) (by rw [HL.out]; exact HNC.out.1)) (HPP.out.take _) HNK.out (HPP.out.drop _)) (by omega) HFLT.out.1 HFLT.out.2
        rw [HEQ.out] at h
        exact h
      have HATC : Hid (at' ≤ c) := Nat.le_trans HAT.out HNC.out.1
      clear hlt hc1 hc2 hnk hnl
      go_upto_region 3 with (fail)
      refine wp_region_Hx (w0 := w) [0] (N ++ ((w.heap.size, Obj.cells (arrB 32 id) 40 (0, 0)) :: [])) rfl EK.out ?_
      refine lexH_phase [0] [] ?_
      have hw301 : EnvX w _ (N ++ ((w.heap.size, Obj.cells (arrB 32 id) 40 (0, 0)) :: [])) := EK.out
      have hone := @EnvC.one _ _ _ hw301
      (refine wpG_val (v := .bool false) rfl rfl (fun u hu => ltZ_op u C3.out rfl rfl) ?_ hw301; intro K hK; go_big_quiet_op; go_big_quiet_on)
      clear hone hw301
      refine wpG_nil ?_
      intro u303 E2'
      have EX302 := Lib.hid E2'
      clear E2'
      go_upto_region 7 with (fail)
      refine wp_region_Hx (w0 := w) [0, 1, 2, 3, 4] (N ++ ((w.heap.size, Obj.cells (arrB 32 id) 40 (0, 0)) :: [])) rfl EX302.out ?_
      refine lexH_phase [0, 1, 2, 3, 4] [] ?_
      have hw304 : EnvX w _ (N ++ ((w.heap.size, Obj.cells (arrB 32 id) 40 (0, 0)) :: [])) := EX302.out
      have hone := @EnvC.one _ _ _ hw304
      (refine wpG_op rfl rfl rfl ?_; intro K hK; go_big_quiet_op; go_big_quiet_on)
      (refine wpG_val (v := idv id) rfl rfl (fun u hu => load_any_op u (box_idvP hu (List.mem_append_right _ (List.Mem.head _)) HIL.out) rfl) ?_ hw304; intro K hK; go_big_quiet_op; go_big_quiet_on)
      (refine wpG_val (v := inV ⟨id, 0⟩) rfl rfl (fun u hu => buildA_op u (built_in0 HIL.out)) ?_ hw304; intro K hK; go_big_quiet_op; go_big_quiet_on)
      (refine wpG_call (f := 51) (args := #[.slice A n c, inV ⟨id, 0⟩]) (v := (.int .i64 (at' : Int))) rfl rfl rfl Tryd.func51 rfl rfl (fun u hu => HPL.out u (EnvX.bel hu)) ?_ hw304; intro K hK; go_big_quiet_op; go_big_quiet_on)
      (refine wpG_op rfl rfl rfl ?_; intro K hK; go_big_quiet_op; go_big_quiet_on)
      clear hone hw304
      refine wpG_nil ?_
      intro u306 E2'
      have EX305 := Lib.hid E2'
      clear E2'
      go_upto_region 8 with (fail)
      refine wp_region_H (w0 := w) (N ++ ((w.heap.size, Obj.cells (arrB 32 id) 40 (0, 0)) :: [])) (by kernel_rfl) EX305.out ?_
      refine anyH_phase [0, 1, 2, 3, 4, 5, 6] 3 rfl ⟨_, (EnvX.drew EX305.out)⟩ (by kernel_rfl) ?_
      have hw307 : EnvX w _ (N ++ ((w.heap.size, Obj.cells (arrB 32 id) 40 (0, 0)) :: [])) := (EnvX.drew EX305.out)
      have hone := @EnvC.one _ _ _ hw307
      iterate 2 (refine wpG_op rfl rfl rfl ?_; intro K hK; go_big_quiet_op; go_big_quiet_on)
      (refine wpG_val (v := .slice A at' c) rfl rfl (fun u hu => cutXh_op elCo u HATC.out rfl rfl) ?_ hw307; intro K hK; go_big_quiet_op; go_big_quiet_on)
      iterate 3 (refine wpG_op rfl rfl rfl ?_; intro K hK; go_big_quiet_op; go_big_quiet_on)
      (refine wpG_val (v := .slice (cutX 35 A at' c) (n - at') (c - at')) rfl rfl (fun u hu => cutXl_op elCo u HAT.out rfl rfl) ?_ hw307; intro K hK; go_big_quiet_op; go_big_quiet_on)
      clear hone hw307
      refine wpG_nil ?_
      refine anyH_one (i := 7) (by kernel_rfl) (hOp_fresh (R := BuiltS3 22 (.slice A at' c) (.slice A3 i c3) (.slice (cutX 35 A at' c) (n - at') (c - at'))) (M0 := (N ++ ((w.heap.size, Obj.cells (arrB 32 id) 40 (0, 0)) :: []))) rfl rfl (fun _ h => h) (fun u hu => FAt_buildS3 elSls rfl rfl rfl rfl rfl rfl u) ?_)
      rintro _ _ ⟨g3, rfl, rfl⟩ hf he308; intro K' hK'; go_big_quiet_op; go_big_quiet_on
      clear hf
      change anyH _ _ _ _ _ _ _ _ ((g3, Obj.cells #[.slice A at' c, .slice A3 i c3, .slice (cutX 35 A at' c) (n - at') (c - at')] 22 (0, 0)) :: (N ++ ((w.heap.size, Obj.cells (arrB 32 id) 40 (0, 0)) :: [])))
      refine anyH_one (i := 8) (by kernel_rfl) (hOp_fresh (R := FreshR 50 35 (madeP p (newC id 0 os)).length ((madeP p (newC id 0 os)).map coC).flatten) (M0 := ((g3, Obj.cells #[.slice A at' c, .slice A3 i c3, .slice (cutX 35 A at' c) (n - at') (c - at')] 22 (0, 0)) :: (N ++ ((w.heap.size, Obj.cells (arrB 32 id) 40 (0, 0)) :: [])))) rfl rfl (fun _ h => h) (fun u hu => FAt_call (fid := 72) (xs := #[.tmp 41]) (args := #[.slice (some ⟨g3, 0, none⟩) 3 3]) rfl Tryd.func72 rfl rfl u (callsR_fresh (HCC.out u g3 (EnvX.sub hu (fun y hy => List.mem_cons_of_mem _ (List.mem_append_left _ (by rwa [List.append_nil] at hy)))) (hu.box _ _ (List.Mem.head _))))) ?_)
      rintro x9 N9 hF hf he309; intro K' hK'; go_big_quiet_op; go_big_quiet_on
      have HF9 := Lib.hid (And.intro hF hf)
      clear hF
      clear hf
      change anyH _ _ _ _ _ _ _ _ (N9 ++ ((g3, Obj.cells #[.slice A at' c, .slice A3 i c3, .slice (cutX 35 A at' c) (n - at') (c - at')] 22 (0, 0)) :: (N ++ ((w.heap.size, Obj.cells (arrB 32 id) 40 (0, 0)) :: []))))
      refine anyH_phase [9] 0 rfl ⟨_, he309.choose_spec⟩ (by kernel_rfl) ?_
      have hw310 : EnvX w _ (N9 ++ ((g3, Obj.cells #[.slice A at' c, .slice A3 i c3, .slice (cutX 35 A at' c) (n - at') (c - at')] 22 (0, 0)) :: (N ++ ((w.heap.size, Obj.cells (arrB 32 id) 40 (0, 0)) :: [])))) := he309.choose_spec
      have hone := @EnvC.one _ _ _ hw310
      (refine wpG_op rfl rfl rfl ?_; intro K hK; go_big_quiet_op; go_big_quiet_on)
      clear hone hw310
      refine wpG_nil ?_
      refine anyH_done (by kernel_rfl) ?_
      intro u312 E2'
      have EX311 := Lib.hid E2'
      clear E2'
      have HBE := Lib.hid (EnvX.bel EX311.out)
      have HMO : Hid (okP (madeP p (newC id 0 os))) := madeP_ok HPP.out HNK.out
      have HOW := Lib.hid (HF9.out.1.own (w := u312) (B := w.heap.size) (flat35 HMO.out.lens) (fun y hy => ⟨(HF9.out.2 y hy).1, EnvX.box EX311.out _ _ (List.mem_append_left _ hy)⟩))
      go_wp2
      go_returns
      exact ⟨⟨_, rfl, HOW.out⟩, HBE.out⟩
/-- where an id stands first; -1, if nowhere -/
def idxIn : List InR → InR → Int
  | [], _ => -1
  | x :: r, id => if x = id then 0 else if 0 ≤ idxIn r id then idxIn r id + 1 else -1
theorem idxIn_hit : ∀ (l : List InR) (id : InR) (k : Nat), k < l.length → (∀ j, j < k → l.getD j noIn ≠ id) → l.getD k noIn = id → idxIn l id = (k : Int)
  | [], id, k, hk, _, _ => by cases hk
  | x :: r, id, 0, _, _, h => by
    unfold idxIn
    rw [if_pos (show x = id from h)]
    rfl
  | x :: r, id, k + 1, hk, hn, h => by
    unfold idxIn
    have hr := idxIn_hit r id k (by simpa using hk) (fun j hj => hn (j + 1) (by omega)) h
    rw [if_neg (show ¬ x = id from hn 0 (by omega)), hr, if_pos (by omega)]
    rfl
theorem idxIn_none : ∀ (l : List InR) (id : InR), (∀ j, j < l.length → l.getD j noIn ≠ id) → idxIn l id = -1
  | [], id, _ => rfl
  | x :: r, id, hn => by
    unfold idxIn
    have hr := idxIn_none r id (fun j hj => hn (j + 1) (by simpa using hj))
    rw [if_neg (show ¬ x = id from hn 0 (by simp)), hr, if_neg (by decide)]
theorem idxIn_mem : ∀ (l : List InR) (id : InR), 0 ≤ idxIn l id ↔ id ∈ l
  | [], id => ⟨fun h => absurd (show (0 : Int) ≤ -1 from h) (by decide), fun h => by cases h⟩
  | x :: r, id => by
    unfold idxIn
    by_cases hx : x = id
    · rw [if_pos hx]
      exact ⟨fun _ => by rw [hx]; exact List.mem_cons_self .., fun _ => Int.le_refl _⟩
    · rw [if_neg hx]
      have hr := idxIn_mem r id
      by_cases h0 : 0 ≤ idxIn r id
      · rw [if_pos h0]
        exact ⟨fun _ => List.mem_cons_of_mem _ (hr.1 h0), fun _ => by omega⟩
      · rw [if_neg h0]
        exact ⟨fun h => absurd h (by decide), fun h => by
          rcases List.mem_cons.1 h with e | e
          · exact absurd e.symm hx
          · exact absurd (hr.2 e) h0⟩
set_option maxRecDepth 20000 in
set_option maxHeartbeats 8000000 in
theorem indexIn_any (l : List InR) (id : InR) (A : Option Addr) (n c : Nat) (w : World) (hl : l.length = n) (hn : n ≤ 1000000) (hI : okIns l) (hA : InsIn w w.heap.size A l) (hid : lenI id) :
    Calls Tryd.prog 80 #[.slice A n c, inV id] w fun e w' => e = .returned (.int .i64 (idxIn l id)) ∧ Below w.heap.size w w' := by
  have HL := Lib.hid hl
  have HIA := Lib.hid (And.intro hI hA)
  have HD := Lib.hid hid
  have E1 : Hid (EnvX w (w.alloc (.cells (inA id) 42)) [(w.heap.size, Obj.cells (inA id) 42 (0, 0))]) := (EnvX.start w).new _
  clear hl hI hA hid
  unfold inV
  go_enter Tryd.func80, Tryd.ntmps80
  go_upto_region 2 with (fail)
  generalize w.alloc (.cells (inA id) 42) = W at *
  go_loopw [8] (fun iv u => ∃ k : Nat, k ≤ n ∧ iv = .int .i64 (k : Int) ∧ Hid ((∀ j, j < k → l.getD j noIn ≠ id) ∧ EnvX w u [(w.heap.size, Obj.cells (inA id) 42 (0, 0))])) (fun iv _ => n - (intOf iv).toNat)
  case atStart => exact ⟨0, by omega, rfl, (fun j hj => by omega), E1.out⟩
  case round =>
    obtain ⟨k, hk, rfl, hinv⟩ := hrel
    have HNO := Lib.hid hinv.out.1
    have EK := Lib.hid hinv.out.2
    clear hinv E1
    by_cases hlt : k < n
    · have hlt2 : (k : Int) < (n : Int) := by omega
      have hkl : k < l.length := by rw [HL.out]; exact hlt
      obtain ⟨ad, rfl, -, hld⟩ := HIA.out.2.loads HIA.out.1 hkl
      have HLD := Lib.hid hld
      have HX : Hid (lenI (l.getD k noIn)) := (HIA.out.1.get hkl).len
      have HKN := Lib.hid hlt
      by_cases hx : l.getD k noIn = id
      · have HEQ : Hid (eqI id (l.getD k noIn) = true) := decide_eq_true hx.symm
        have HR : Hid (idxIn l id = (k : Int)) := idxIn_hit l id k hkl HNO.out hx
        clear hx hkl hlt hld
        generalize l.getD k noIn = x at *
        go_upto_region 4 with (fail)
        refine wp_region_H (w0 := w) [(w.heap.size, Obj.cells (inA id) 42 (0, 0))] (by kernel_rfl) EK.out ?_
        refine anyH_phase [0, 1, 2, 3, 4, 5] 0 rfl ⟨_, (EnvX.drew EK.out)⟩ (by kernel_rfl) ?_
        have hw51 : EnvX w _ [(w.heap.size, Obj.cells (inA id) 42 (0, 0))] := (EnvX.drew EK.out)
        have hone := @EnvC.one _ _ _ hw51
        (refine wpG_val (v := inV id) rfl rfl (fun u hu => load_any_op u (box_in hu (List.Mem.head _) HD.out) rfl) ?_ hw51; intro K hK; go_big_quiet_op; go_big_quiet_on)
        iterate 2 (refine wpG_op rfl rfl rfl ?_; intro K hK; go_big_quiet_op; go_big_quiet_on)
        (refine wpG_val (v := .pointer (some (ad.add (k * 33)))) rfl rfl (fun u hu => idxSl_op Tryd.underlying23 aggIn.size HKN.out u rfl rfl) ?_ hw51; intro K hK; go_big_quiet_op; go_big_quiet_on)
        (refine wpG_val (v := inV x) rfl rfl (fun u hu => load_any_op u (HLD.out u (EnvX.sub hu (fun _ h => by cases h))).1 rfl) ?_ hw51; intro K hK; go_big_quiet_op; go_big_quiet_on)
        (refine wpG_val (v := .bool true) rfl rfl (fun u hu => eqlIn_op HD.out HX.out HEQ.out u rfl rfl) ?_ hw51; intro K hK; go_big_quiet_op; go_big_quiet_on)
        clear hone hw51
        refine wpG_nil ?_
        refine anyH_done (by kernel_rfl) ?_
        intro u53 E2'
        have EX52 := Lib.hid E2'
        clear E2'
        go_wp2
        go_ret
        exact ⟨by rw [HR.out]; first | done | rfl, EnvX.bel EX52.out⟩
      · have HEQ : Hid (eqI id (l.getD k noIn) = false) := decide_eq_false (fun e => hx e.symm)
        have HN2 : Hid (∀ j, j < k + 1 → l.getD j noIn ≠ id) := fun j hj => by
          rcases Nat.lt_or_ge j k with h | h
          · exact HNO.out j h
          · rw [show j = k by omega]; exact hx
        clear hx hkl hlt hld
        generalize l.getD k noIn = x at *
        go_upto_region 4 with (fail)
        refine wp_region_H (w0 := w) [(w.heap.size, Obj.cells (inA id) 42 (0, 0))] (by kernel_rfl) EK.out ?_
        refine anyH_phase [0, 1, 2, 3, 4, 5] 0 rfl ⟨_, (EnvX.drew EK.out)⟩ (by kernel_rfl) ?_
        have hw51 : EnvX w _ [(w.heap.size, Obj.cells (inA id) 42 (0, 0))] := (EnvX.drew EK.out)
        have hone := @EnvC.one _ _ _ hw51
        (refine wpG_val (v := inV id) rfl rfl (fun u hu => load_any_op u (box_in hu (List.Mem.head _) HD.out) rfl) ?_ hw51; intro K hK; go_big_quiet_op; go_big_quiet_on)
        iterate 2 (refine wpG_op rfl rfl rfl ?_; intro K hK; go_big_quiet_op; go_big_quiet_on)
        (refine wpG_val (v := .pointer (some (ad.add (k * 33)))) rfl rfl (fun u hu => idxSl_op Tryd.underlying23 aggIn.size HKN.out u rfl rfl) ?_ hw51; intro K hK; go_big_quiet_op; go_big_quiet_on)
        (refine wpG_val (v := inV x) rfl rfl (fun u hu => load_any_op u (HLD.out u (EnvX.sub hu (fun _ h => by cases h))).1 rfl) ?_ hw51; intro K hK; go_big_quiet_op; go_big_quiet_on)
        (refine wpG_val (v := .bool false) rfl rfl (fun u hu => eqlIn_op HD.out HX.out HEQ.out u rfl rfl) ?_ hw51; intro K hK; go_big_quiet_op; go_big_quiet_on)
        clear hone hw51
        refine wpG_nil ?_
        refine anyH_done (by kernel_rfl) ?_
        intro u53 E2'
        have EX52 := Lib.hid E2'
        clear E2'
        go_wp2
        go_roundw
        case rel => exact ⟨k + 1, by omega, by go_num, HN2.out, EX52.out⟩
        case measure => simp [intOf]; omega
    · obtain rfl : k = n := by omega
      have hge : ¬ (k : Int) < (k : Int) := by omega
      have HR : Hid (idxIn l id = -1) := idxIn_none l id (fun j hj => HNO.out j (by rw [← HL.out]; exact hj))
      have HB := Lib.hid (EnvX.bel EK.out)
      clear EK
      go_wp2
      go_ret
      exact ⟨by rw [HR.out]; first | done | rfl, HB.out⟩
set_option maxRecDepth 20000 in
set_option maxHeartbeats 8000000 in
theorem containsIn_any (l : List InR) (id : InR) (A : Option Addr) (n c : Nat) (w : World) (hl : l.length = n) (hn : n ≤ 1000000) (hI : okIns l) (hA : InsIn w w.heap.size A l) (hid : lenI id) :
    Calls Tryd.prog 70 #[.slice A n c, inV id] w fun e w' => e = .returned (.bool (decide (id ∈ l))) ∧ Below w.heap.size w w' := by
  have HIX : Hid (∀ u, Below w.heap.size w u → Calls Tryd.prog 80 #[.slice A n c, inV id] u fun e w' => e = .returned (.int .i64 (idxIn l id)) ∧ Below u.heap.size u w') := fun u hu => indexIn_any l id A n c u hl hn hI (hA.up hu) hid
  have HD := Lib.hid hid
  have HB : Hid (decide (0 ≤ idxIn l id) = decide (id ∈ l)) := decide_eq_decide.2 (idxIn_mem l id)
  have E1 : Hid (EnvX w (w.alloc (.cells (inA id) 42)) [(w.heap.size, Obj.cells (inA id) 42 (0, 0))]) := (EnvX.start w).new _
  generalize idxIn l id = q at *
  clear hl hI hA hid
  unfold inV
  go_enter Tryd.func70, Tryd.ntmps70
  go_upto_region 1 with (fail)
  generalize w.alloc (.cells (inA id) 42) = W at *
  refine wp_region_Hx (w0 := w) [0, 1, 2, 3, 4] [(w.heap.size, Obj.cells (inA id) 42 (0, 0))] rfl E1.out ?_
  refine lexH_phase [0, 1, 2, 3, 4] [] ?_
  have hw1 : EnvX w _ [(w.heap.size, Obj.cells (inA id) 42 (0, 0))] := E1.out
  have hone := @EnvC.one _ _ _ hw1
  (refine wpG_op rfl rfl rfl ?_; intro K hK; go_big_quiet_op; go_big_quiet_on)
  (refine wpG_val (v := inV id) rfl rfl (fun u hu => load_any_op u (box_in hu (List.Mem.head _) HD.out) rfl) ?_ hw1; intro K hK; go_big_quiet_op; go_big_quiet_on)
  (refine wpG_call (f := 80) (args := #[.slice A n c, inV id]) (v := .int .i64 q) rfl rfl rfl Tryd.func80 rfl rfl (fun u hu => HIX.out u (EnvX.bel hu)) ?_ hw1; intro K hK; go_big_quiet_op; go_big_quiet_on)
  (refine wpG_val (v := .bool (decide (id ∈ l))) rfl rfl (fun u hu => geZ_op u HB.out rfl rfl) ?_ hw1; intro K hK; go_big_quiet_op; go_big_quiet_on)
  (refine wpG_op rfl rfl rfl ?_; intro K hK; go_big_quiet_op; go_big_quiet_on)
  clear hone hw1
  refine wpG_nil ?_
  intro u3 E2'
  have EX2 := Lib.hid E2'
  clear E2'
  go_wp2
  go_ret
  exact ⟨rfl, EnvX.bel EX2.out⟩
end Go.Proofs.YtabhhbdbkeeblaaDoor
