/- The walk of the words of the reference. -/
import Derived.Test.YtlccldnjgaldoaaDoorRef1
import Derived.Test.YtlccldnjgaldoaaDoorBits
import Derived.WalkKit
import Derived.ProofKit
import Derived.Handy
import Derived.Deep.RegionHeld3
import Derived.Deep.RegionLaw
import Derived.Maps.AppendAt
import Derived.Laws.BytesArg
import Derived.OpenShut
import Derived.ChangeKeysEq
import Derived.Lib.SlBytesConst
import Derived.Deep.MidRow
import Derived.Laws.CopyOwn
import Derived.Laws.MakeOwn
import Derived.Deep.WholeRow
import Derived.Deep.Cut
import Derived.Deep.QuietTactic
import Derived.BigQuiet
import Derived.StillTailTactics
import Derived.Lib.Hide
namespace Go.Proofs.YtlccldnjgaldoaaDoor
open Go.RowKit














theorem InW.getD (l : List Int) (h : ∀ x ∈ l, InW x) (i : Nat) : InW (l.getD i 0) := by
  by_cases hi : i < l.length
  · have e : l.getD i 0 = l[i] := by simp [List.getD, List.getElem?_eq_getElem hi]
    rw [e]
    exact h _ (List.getElem_mem hi)
  · have e : l.getD i 0 = 0 := by simp [List.getD, List.getElem?_eq_none (by omega : l.length ≤ i)]
    rw [e]
    exact ⟨by omega, by omega⟩
theorem firstL_in (xs : List Int) : ∀ k, ∀ x ∈ firstL xs k, InW x
  | 0, x, hx => by simp [firstL] at hx
  | k + 1, x, hx => by
    simp only [firstL, List.mem_append, List.mem_singleton] at hx
    rcases hx with hx | rfl
    · exact firstL_in xs k x hx
    · exact InW.word _ _ _ _
theorem moreL_in (xs : List Int) : ∀ k, ∀ x ∈ moreL xs k, InW x
  | 0, x, hx => firstL_in xs 16 x hx
  | k + 1, x, hx => by
    simp only [moreL, List.mem_append, List.mem_singleton] at hx
    rcases hx with hx | rfl
    · exact moreL_in xs k x hx
    · exact InW.mod _
theorem info39 : (Tryd.prog.info? 39).map (fun i => (i.zero, i.size, i.bytes)) = some (some (.int .u32 0), 1, 4) := by kernel_rfl
theorem append_words (base : Nat) (v : Value) (n : Nat) (l : List Value) (w : World) (hown : w.ownsRow base 39 1 v n l) (ad : Addr) (m c : Nat) (ys : List Int) (hl : ys.length = m)
    (hy : ∀ j u, (ys.map u32v)[j]? = some u → w.cell? (ad.add j) = some u) (hs : n + m ≤ 1000) (hbase : base ≤ w.heap.size) :
    ∃ v' w', (Builtin.append_ #[43, 43] 43 #[v, .slice (some ad) m c]).run Tryd.prog w = .ok v' w' ∧ w'.ownsRow base 39 1 v' (n + m) (l ++ ys.map u32v) ∧ w.grownBy w' v.ownBlock := by
  cases hq : Tryd.prog.info? 39 with
  | none => have := info39; rw [hq] at this; cases this
  | some i =>
    have h := info39
    rw [hq] at h
    simp only [Option.map_some, Option.some.injEq, Prod.mk.injEq] at h
    obtain ⟨h1, h2, h3⟩ := h
    obtain ⟨v', w', hrun, hown', hg, _⟩ := run_append_own_at (P := Tryd.prog) w base 43 43 39 i _ 1 4 Tryd.underlying43 hq h1 h2 h3 rfl (by omega) v n l hown ad m c (ys.map u32v) (by simp [hl]) hy (by intro u hu; obtain ⟨z, _, rfl⟩ := List.mem_map.1 hu; rfl) (by unfold maxLen; omega) (by omega) hbase
    exact ⟨v', w', hrun, hown', hg⟩
theorem append_word (base : Nat) (v : Value) (n : Nat) (l : List Value) (w : World) (x : Int) (hown : w.ownsRow base 39 1 v n l) (hs : n ≤ 900) (hbase : base ≤ w.heap.size) :
    ∃ v' w', (Builtin.append_ #[43, 43] 43 #[v, .slice (some ⟨w.heap.size, 0, none⟩) 1 1]).run Tryd.prog (w.alloc (.cells #[.int .u32 x] 39)) = .ok v' w' ∧ w'.ownsRow base 39 1 v' (n + 1) (l ++ [u32v x]) ∧ Below base w w' := by
  have ho := hown.alloc (.cells #[.int .u32 x] 39)
  obtain ⟨v', w', hrun, hown', hg⟩ := append_words base v n l (w.alloc (.cells #[.int .u32 x] 39)) ho ⟨w.heap.size, 0, none⟩ 1 1 [x] rfl (fun j u hu => by
    rcases j with _ | j
    · have hu' : u32v x = u := by simpa using hu
      subst hu'
      exact (Row.new w 39 #[.int .u32 x]).cell 0
    · simp at hu) (by omega) (by simp; omega)
  refine ⟨v', w', hrun, hown', ?_⟩
  have hb : Below base w (w.alloc (.cells #[.int .u32 x] 39)) := (Below.refl _ _).alloc hbase _
  exact hb.trans (below_of_grown hg (fun g hg => (ho.lt g hg).1) (by simp; omega))
theorem step_append_run {P : Program} {ops : Array Oper} {o : Oper} {a : Act} {w w' : World} {K : Act → World → Prop} {Q : Exit → Act → World → Prop} {v y v' : Value} {t : TypeId} (hgd : o.guard = none) (s x : Operand)
    (ho : o.op = .call { callee := .builtin .append, args := #[s, x], argTypes := #[t, t] }) (hty : o.type = t) (hs : a.eval s = v) (hx : a.eval x = y)
    (hrun : (Builtin.append_ #[t, t] t #[v, y]).run P w = .ok v' w') (h : K (a.put o.dst v') w') : if Region.wanted o (yielded ops a.tmps) = true then Oper.wp P o a w K Q else K (a.put o.dst undef) w := by
  rw [if_pos (by simp only [Region.wanted, hgd])]
  unfold Oper.wp execOp
  simp only [ho, hty, resolve, invoke, builtin, Sem.run_bind, Sem.run_pure, Result.andThen_ok, List.map_toArray, List.map_cons, List.map_nil, hs, hx, hrun]
  exact h
theorem step_append_word {ops : Array Oper} {o : Oper} {a : Act} {w0 : World} {x : Int} {K : Act → World → Prop} {Q : Exit → Act → World → Prop} {v : Value} {base n : Nat} {l : List Value} (hgd : o.guard = none) (s y : Operand)
    (ho : o.op = .call { callee := .builtin .append, args := #[s, y], argTypes := #[43, 43] }) (hty : o.type = 43) (hs : a.eval s = v) (hy : a.eval y = .slice (some ⟨w0.heap.size, 0, none⟩) 1 1)
    (hown : w0.ownsRow base 39 1 v n l) (hn : n ≤ 900) (hbase : base ≤ w0.heap.size)
    (h : ∀ v' w', w'.ownsRow base 39 1 v' (n + 1) (l ++ [u32v x]) → Below base w0 w' → K (a.put o.dst v') w') :
    if Region.wanted o (yielded ops a.tmps) = true then Oper.wp Tryd.prog o a (w0.alloc (.cells #[.int .u32 x] 39)).drew K Q else K (a.put o.dst undef) (w0.alloc (.cells #[.int .u32 x] 39)).drew := by
  obtain ⟨v', w', hrun, hown', hb2⟩ := append_word base v n l w0.drew x hown hn hbase
  have hrun' : (Builtin.append_ #[43, 43] 43 #[v, .slice (some ⟨w0.heap.size, 0, none⟩) 1 1]).run Tryd.prog (w0.alloc (.cells #[.int .u32 x] 39)).drew = .ok v' w' := hrun
  exact step_append_run hgd s y ho hty hs hy hrun' (h v' w' hown' ((Below.refl _ _).drew.trans hb2))
theorem turn_at (x : Int) (hx : InW x) (n : Nat) (h1 : 1 ≤ n) (h2 : n ≤ 31) (m : Int) (hm : m = (n : Int)) (u : World) (q : Nat) :
    Calls Tryd.prog 26 #[.int .u32 x, .int .i64 m] (u.drewN q) fun e w' => e = .returned (.int .u32 (rotI x m)) ∧ ∃ r, w' = u.drewN r := by
  subst hm
  exact Calls.quiet_of (rturn_any x n _ h1 h2 hx)
theorem own_cell {base n g cap : Nat} {l : List Int} {w : World} (h : w.ownsRow base 39 1 (.slice (some ⟨g, 0, none⟩) n cap) n (l.map u32v)) (i : Nat) (hi : i < n) : w.cell? ⟨g, i, none⟩ = some (.int .u32 (l.getD i 0)) := by
  have hl : l.length = n := by have := h.1; simpa using this
  have := h.cells (g := g) rfl i (u32v (l.getD i 0)) (by simp [List.getD, List.getElem?_eq_getElem (by omega : i < l.length)])
  rw [Addr.add_mid, Nat.zero_add] at this
  exact this
set_option maxHeartbeats 4000000 in
set_option maxRecDepth 100000 in
theorem rwords_any (b o n c : Nat) (xs : List Int) (w : World) (hn : 64 ≤ n) (hb : b < w.heap.size)
    (hx : ∀ i, i < 64 → w.cell? ⟨b, o + i, none⟩ = some (.int .u8 (xs.getD i 0))) (hr : ∀ i, 0 ≤ xs.getD i 0 ∧ xs.getD i 0 ≤ 255) :
    Calls Tryd.prog 22 #[.slice (some ⟨b, o, none⟩) n c] w fun e w' => ∃ v, e = .returned v ∧ w'.ownsRow w.heap.size 39 1 v 64 ((moreL xs 48).map u32v) ∧ Below w.heap.size w w' := by
  have HX := Lib.hid hx
  have HR := Lib.hid hr
  clear hx hr
  go_enter Tryd.func22, Tryd.ntmps22
  go_wp2
  go_loopw [3, 4] (fun v i u => ∃ k : Nat, k ≤ 16 ∧ i = .int .i64 k ∧ Below w.heap.size w u ∧ Hid (u.ownsRow w.heap.size 39 1 v k ((firstL xs k).map u32v))) (fun _ i _ => 16 - (intOf i).toNat)
  case atStart => exact ⟨0, by omega, rfl, Below.refl _ _, World.ownsRow_nil _ _ _ _⟩
  case round =>
    obtain ⟨k, hk, rfl, hbl, hown⟩ := hrel
    by_cases hlt : k < 16
    · have g0 := (hbl.cell (p := ⟨b, o + 4 * k, none⟩) hb).trans (HX.out (4 * k) (by omega))
      have g1 := (hbl.cell (p := ⟨b, o + (4 * k + 1), none⟩) hb).trans (HX.out (4 * k + 1) (by omega))
      have g2 := (hbl.cell (p := ⟨b, o + (4 * k + 2), none⟩) hb).trans (HX.out (4 * k + 2) (by omega))
      have g3 := (hbl.cell (p := ⟨b, o + (4 * k + 3), none⟩) hb).trans (HX.out (4 * k + 3) (by omega))
      have r0 := HR.out (4 * k)
      have r1 := HR.out (4 * k + 1)
      have r2 := HR.out (4 * k + 2)
      have r3 := HR.out (4 * k + 3)
      have hw : Hid (wordAt xs k = 16777216 * xs.getD (4 * k) 0 + 65536 * xs.getD (4 * k + 1) 0 + 256 * xs.getD (4 * k + 2) 0 + xs.getD (4 * k + 3) 0) := (word_eq _ _ _ _ r0 r1 r2 r3).symm
      generalize xs.getD (4 * k) 0 = x0 at *
      generalize xs.getD (4 * k + 1) 0 = x1 at *
      generalize xs.getD (4 * k + 2) 0 = x2 at *
      generalize xs.getD (4 * k + 3) 0 = x3 at *
      obtain ⟨r00, r01⟩ := r0
      obtain ⟨r10, r11⟩ := r1
      obtain ⟨r20, r21⟩ := r2
      obtain ⟨r30, r31⟩ := r3
      obtain ⟨v', w', hrun, hown', hb2⟩ := append_word w.heap.size _ k _ wr.drew (16777216 * x0 + 65536 * x1 + 256 * x2 + x3) hown.out (by omega) hbl.size
      have hst : Hid (firstL xs (k + 1) = firstL xs k ++ [wordAt xs k]) := rfl
      have HRUN : Hid ((Builtin.append_ #[43, 43] 43 #[_, .slice (some ⟨wr.heap.size, 0, none⟩) 1 1]).run Tryd.prog (wr.alloc (.cells #[.int .u32 (16777216 * x0 + 65536 * x1 + 256 * x2 + x3)] 39)).drew = .ok v' w') := hrun
      have OO := Lib.hid hown'
      have B2 := hbl.drew.trans hb2
      have BB := Lib.hid B2
      have k0 := (B2.cell (p := ⟨b, o + 4 * k, none⟩) hb).trans ((hbl.cell (p := ⟨b, o + 4 * k, none⟩) hb).symm.trans g0)
      have k1 := (B2.cell (p := ⟨b, o + (4 * k + 1), none⟩) hb).trans ((hbl.cell (p := ⟨b, o + (4 * k + 1), none⟩) hb).symm.trans g1)
      have k2 := (B2.cell (p := ⟨b, o + (4 * k + 2), none⟩) hb).trans ((hbl.cell (p := ⟨b, o + (4 * k + 2), none⟩) hb).symm.trans g2)
      have k3 := (B2.cell (p := ⟨b, o + (4 * k + 3), none⟩) hb).trans ((hbl.cell (p := ⟨b, o + (4 * k + 3), none⟩) hb).symm.trans g3)
      have hbz : b < wr.heap.size := Nat.lt_of_lt_of_le hb hbl.size
      have hbe : ¬ b = wr.heap.size := by omega
      clear hrun hown' hb2 hown B2
      have i0 : IntKind.i64.wrap (4 * (k : Int)) = 4 * (k : Int) := IntWalk.i64_in _ (by omega)
      have i1 : IntKind.i64.wrap (4 * (k : Int) + 1) = 4 * (k : Int) + 1 := IntWalk.i64_in _ (by omega)
      have i2 : IntKind.i64.wrap (4 * (k : Int) + 2) = 4 * (k : Int) + 2 := IntWalk.i64_in _ (by omega)
      have i3 : IntKind.i64.wrap (4 * (k : Int) + 3) = 4 * (k : Int) + 3 := IntWalk.i64_in _ (by omega)
      have n0 : (4 * (k : Int)).toNat = 4 * k := by omega
      have n1 : (4 * (k : Int) + 1).toNat = 4 * k + 1 := by omega
      have n2 : (4 * (k : Int) + 2).toNat = 4 * k + 2 := by omega
      have n3 : (4 * (k : Int) + 3).toNat = 4 * k + 3 := by omega
      have z0 : 0 ≤ 4 * (k : Int) := by omega
      have z1 : 0 ≤ 4 * (k : Int) + 1 := by omega
      have z2 : 0 ≤ 4 * (k : Int) + 2 := by omega
      have z3 : 0 ≤ 4 * (k : Int) + 3 := by omega
      have y0 : 4 * (k : Int) < (n : Int) := by omega
      have y1 : 4 * (k : Int) + 1 < (n : Int) := by omega
      have y2 : 4 * (k : Int) + 2 < (n : Int) := by omega
      have y3 : 4 * (k : Int) + 3 < (n : Int) := by omega
      have u0 : IntKind.u32.wrap x0 = x0 := by rw [IntKind.wrap_u32]; omega
      have u1 : IntKind.u32.wrap x1 = x1 := by rw [IntKind.wrap_u32]; omega
      have u2 : IntKind.u32.wrap x2 = x2 := by rw [IntKind.wrap_u32]; omega
      have u3 : IntKind.u32.wrap x3 = x3 := by rw [IntKind.wrap_u32]; omega
      have u4 : IntKind.u32.wrap (16777216 * x0) = 16777216 * x0 := by rw [IntKind.wrap_u32]; omega
      have u5 : IntKind.u32.wrap (65536 * x1) = 65536 * x1 := by rw [IntKind.wrap_u32]; omega
      have u6 : IntKind.u32.wrap (256 * x2) = 256 * x2 := by rw [IntKind.wrap_u32]; omega
      have u7 : IntKind.u32.wrap (16777216 * x0 + 65536 * x1) = 16777216 * x0 + 65536 * x1 := by rw [IntKind.wrap_u32]; omega
      have u8 : IntKind.u32.wrap (16777216 * x0 + 65536 * x1 + 256 * x2) = 16777216 * x0 + 65536 * x1 + 256 * x2 := by rw [IntKind.wrap_u32]; omega
      have u9 : IntKind.u32.wrap (16777216 * x0 + 65536 * x1 + 256 * x2 + x3) = 16777216 * x0 + 65536 * x1 + 256 * x2 + x3 := by rw [IntKind.wrap_u32]; omega
      go_wp2_with fail
      go_region_held3 (fun u => u.cell? ⟨b, o + 4 * k, none⟩ = some (.int .u8 x0) ∧ u.cell? ⟨b, o + (4 * k + 1), none⟩ = some (.int .u8 x1) ∧ u.cell? ⟨b, o + (4 * k + 2), none⟩ = some (.int .u8 x2) ∧ u.cell? ⟨b, o + (4 * k + 3), none⟩ = some (.int .u8 x3))
        (first
          | exact ⟨k0, k1, k2, k3⟩
          | exact ⟨g0, g1, g2, g3⟩
          | exact ⟨(World.cell?_alloc_lt _ _ _ hbz).trans g0, (World.cell?_alloc_lt _ _ _ hbz).trans g1, (World.cell?_alloc_lt _ _ _ hbz).trans g2, (World.cell?_alloc_lt _ _ _ hbz).trans g3⟩)
        (first
          | ((refine step_append_run (by rfl) (.tmp 12) (.tmp 46) (by rfl) (by rfl) (by rfl) (by rfl) HRUN.out ?_)))
      clear i0 i1 i2 i3 n0 n1 n2 n3 z0 z1 z2 z3 y0 y1 y2 y3 u0 u1 u2 u3 u4 u5 u6 u7 u8 u9 g0 g1 g2 g3 k0 k1 k2 k3
      go_wp2
      go_roundw
      case rel =>
        refine ⟨k + 1, by omega, by go_num, BB.out, ?_⟩
        show World.ownsRow _ _ _ _ _ _ _
        rw [hst.out, List.map_append, hw.out]
        exact OO.out
      case measure => simp [intOf]; omega
    · obtain rfl : k = 16 := by omega
      go_wp2
      go_loopw [3, 5] (fun v i u => ∃ j : Nat, j ≤ 48 ∧ i = .int .i64 (j + 16) ∧ Below w.heap.size w u ∧ Hid (u.ownsRow w.heap.size 39 1 v (j + 16) ((moreL xs j).map u32v))) (fun _ i _ => 64 - (intOf i).toNat)
      case atStart => exact ⟨0, by omega, rfl, hbl, hown.out⟩
      case round =>
        clear hbl hown
        obtain ⟨j, hj, rfl, hbl, hown⟩ := hrel
        by_cases hlt : j < 48
        · rcases hown.out.2 with ⟨_, h0⟩ | ⟨g, cap, cur, rfl, hgb, hgr, hcap, hcm, _⟩
          · omega
          unfold maxLen at hcm
          have c0 := own_cell hown.out j (by omega)
          have c1 := own_cell hown.out (j + 1) (by omega)
          have c9 := own_cell hown.out (j + 9) (by omega)
          have c14 := own_cell hown.out (j + 14) (by omega)
          have w1 := InW.getD _ (moreL_in xs j) (j + 1)
          have w14 := InW.getD _ (moreL_in xs j) (j + 14)
          have hst : Hid (moreL xs (j + 1) = moreL xs j ++ [((moreL xs j).getD j 0 + (moreL xs j).getD (j + 9) 0 + smallS ((moreL xs j).getD (j + 1) 0) + smallT ((moreL xs j).getD (j + 14) 0)) % 4294967296]) := rfl
          generalize (moreL xs j).getD j 0 = y0 at *
          generalize (moreL xs j).getD (j + 1) 0 = y1 at *
          generalize (moreL xs j).getD (j + 9) 0 = y9 at *
          generalize (moreL xs j).getD (j + 14) 0 = y14 at *
          have T7 : Hid (∀ (u : World) (q : Nat), Calls Tryd.prog 26 #[.int .u32 y1, .int .i64 7] (u.drewN q) fun e w' => e = .returned (.int .u32 (rotI y1 7)) ∧ ∃ r, w' = u.drewN r) := fun u q => turn_at y1 w1 7 (by omega) (by omega) 7 rfl u q
          have T18 : Hid (∀ (u : World) (q : Nat), Calls Tryd.prog 26 #[.int .u32 y1, .int .i64 18] (u.drewN q) fun e w' => e = .returned (.int .u32 (rotI y1 18)) ∧ ∃ r, w' = u.drewN r) := fun u q => turn_at y1 w1 18 (by omega) (by omega) 18 rfl u q
          have T17 : Hid (∀ (u : World) (q : Nat), Calls Tryd.prog 26 #[.int .u32 y14, .int .i64 17] (u.drewN q) fun e w' => e = .returned (.int .u32 (rotI y14 17)) ∧ ∃ r, w' = u.drewN r) := fun u q => turn_at y14 w14 17 (by omega) (by omega) 17 rfl u q
          have T19 : Hid (∀ (u : World) (q : Nat), Calls Tryd.prog 26 #[.int .u32 y14, .int .i64 19] (u.drewN q) fun e w' => e = .returned (.int .u32 (rotI y14 19)) ∧ ∃ r, w' = u.drewN r) := fun u q => turn_at y14 w14 19 (by omega) (by omega) 19 rfl u q
          obtain ⟨w10, w11⟩ := w1
          obtain ⟨w140, w141⟩ := w14
          have s1 : IntKind.i64.wrap ((j : Int) + 16 - 15) = (j : Int) + 1 := by rw [IntWalk.i64_in _ (by omega)]; omega
          have s2 : IntKind.i64.wrap ((j : Int) + 16 - 2) = (j : Int) + 14 := by rw [IntWalk.i64_in _ (by omega)]; omega
          have s3 : IntKind.i64.wrap ((j : Int) + 16 - 16) = (j : Int) := by rw [IntWalk.i64_in _ (by omega)]; omega
          have s4 : IntKind.i64.wrap ((j : Int) + 16 - 7) = (j : Int) + 9 := by rw [IntWalk.i64_in _ (by omega)]; omega
          have s5 : IntKind.i64.wrap (j : Int) = (j : Int) := by rw [IntWalk.i64_in _ (by omega)]
          have t1 : ((j : Int) + 1).toNat = j + 1 := by omega
          have t2 : ((j : Int) + 14).toNat = j + 14 := by omega
          have t4 : ((j : Int) + 9).toNat = j + 9 := by omega
          have z1 : 0 ≤ (j : Int) + 1 := by omega
          have z2 : 0 ≤ (j : Int) + 14 := by omega
          have z4 : 0 ≤ (j : Int) + 9 := by omega
          have b1 : (j : Int) + 1 < (j : Int) + 16 := by omega
          have b2 : (j : Int) + 14 < (j : Int) + 16 := by omega
          have b3 : (j : Int) < (j : Int) + 16 := by omega
          have b4 : (j : Int) + 9 < (j : Int) + 16 := by omega
          have d1 : y1.tdiv 8 = y1 / 8 := Int.tdiv_eq_ediv_of_nonneg w10
          have d2 : y14.tdiv 1024 = y14 / 1024 := Int.tdiv_eq_ediv_of_nonneg w140
          have e1 : IntKind.u32.wrap (y1 / 8) = y1 / 8 := by rw [IntKind.wrap_u32]; omega
          have e2 : IntKind.u32.wrap (y14 / 1024) = y14 / 1024 := by rw [IntKind.wrap_u32]; omega
          go_wp2_with fail
          go_quiet ((go_at_call 26; first | (with_reducible exact T7.out _ _) | (with_reducible exact T18.out _ _)))
          have O1 : Hid ((wr.drewN nq).ownsRow w.heap.size 39 1 (.slice (some ⟨g, 0, none⟩) (j + 16) cap) (j + 16) ((moreL xs j).map u32v)) := hown
          have B1 := below_drewN hbl nq
          have c0' : (wr.drewN nq).cell? ⟨g, j, none⟩ = some (.int .u32 y0) := c0
          have c9' : (wr.drewN nq).cell? ⟨g, j + 9, none⟩ = some (.int .u32 y9) := c9
          have c14' : (wr.drewN nq).cell? ⟨g, j + 14, none⟩ = some (.int .u32 y14) := c14
          clear c0 c1 c9 c14 hown hbl hgr
          generalize wr.drewN nq = w2 at *
          go_wp2_with fail
          go_quiet ((go_at_call 26; first | (with_reducible exact T17.out _ _) | (with_reducible exact T19.out _ _)))
          have O2 : Hid ((w2.drewN nq).ownsRow w.heap.size 39 1 (.slice (some ⟨g, 0, none⟩) (j + 16) cap) (j + 16) ((moreL xs j).map u32v)) := O1
          have B2 := below_drewN B1 nq
          have c0 : (w2.drewN nq).cell? ⟨g, j, none⟩ = some (.int .u32 y0) := c0'
          have c9 : (w2.drewN nq).cell? ⟨g, j + 9, none⟩ = some (.int .u32 y9) := c9'
          clear c0' c9' c14' O1 B1
          generalize w2.drewN nq = w3 at *
          have hv : Hid ((y0 + smallS y1 + y9 + smallT y14) % 4294967296 = (y0 + y9 + smallS y1 + smallT y14) % 4294967296) := by show _ = _; congr 1; omega
          have hsS : Hid (bits BinOp.xor IntKind.u32 (bits BinOp.xor IntKind.u32 (rotI y1 7) (rotI y1 18)) (y1 / 8) = smallS y1) := rfl
          have hsT : Hid (bits BinOp.xor IntKind.u32 (bits BinOp.xor IntKind.u32 (rotI y14 17) (rotI y14 19)) (y14 / 1024) = smallT y14) := rfl
          have hu32 : ∀ z, IntKind.u32.wrap z = z % 4294967296 := IntKind.wrap_u32
          go_wp2_with fail
          rw [hsS.out, hsT.out]
          generalize smallS y1 = sS at *
          generalize smallT y14 = sT at *
          have hw3 := B2.size
          go_region_law (first
            | ((refine step_append_word (by rfl) (.tmp 92) (.tmp 108) (by rfl) (by rfl) (by rfl) (by rfl) O2.out (by omega) hw3 ?_); intro v' w' OO BB))
          all_goals
            have OH := Lib.hid OO
            have BH := Lib.hid (B2.trans BB)
            clear OO BB c0 c9 O2 B2 s1 s2 s3 s4 s5 t1 t2 t4 z1 z2 z4 b1 b2 b3 b4 d1 d2 e1 e2 hu32
            go_wp2
            go_roundw
            case rel =>
              repeat apply Exists.intro
              refine ⟨⟨j + 1, by omega, by go_num, BH.out, ?_⟩, rfl⟩
              show World.ownsRow _ _ _ _ _ _ _
              rw [show j + 1 + 16 = j + 16 + 1 by omega, hst.out, List.map_append, ← hv.out]
              exact OH.out
            case measure => simp [intOf]; omega
        · obtain rfl : j = 48 := by omega
          go_wp2
          go_ret
          exact ⟨_, rfl, hown.out, hbl⟩
end Go.Proofs.YtlccldnjgaldoaaDoor
