/- The walk of Of, and bytes that are put one behind the other. -/
import Derived.Test.YtlccldnjgaldoaaDoorBytesIn
import Derived.WalkKit
import Derived.ProofKit
import Derived.Handy
import Derived.Maps.AppendAt
import Derived.Laws.BytesArg
import Derived.OpenShut
import Derived.ChangeKeysEq
import Derived.Lib.SlBytesConst
import Derived.Deep.MidRow
import Derived.Laws.CopyOwn
import Derived.Laws.MakeOwn
import Derived.Deep.WholeRow
import Derived.Deep.Cut
import Derived.Deep.QuietTactic
import Derived.BigQuiet
import Derived.StillTailTactics
import Derived.Lib.Hide
namespace Go.Proofs.YtlccldnjgaldoaaDoor
open Go.RowKit












/-- A slice of slices of bytes, part by part. -/
def Parts (w : World) (B : Nat) (A : Option Addr) (xss : List (List Int)) : Prop :=
  ∀ (k : Nat) (xs : List Int), xss[k]? = some xs → ∃ (b o : Nat) (a : Option Addr) (c : Nat), A = some ⟨b, o, none⟩ ∧ b < B ∧ w.cell? ⟨b, o + k, none⟩ = some (.slice a xs.length c) ∧ Bytes w B a xs ∧ ∀ x ∈ xs, 0 ≤ x ∧ x ≤ 255
theorem Parts.below {w w' : World} {B : Nat} {A : Option Addr} {xss : List (List Int)} (h : Parts w B A xss) (hb : Below B w w') : Parts w' B A xss := by
  intro k xs hk
  obtain ⟨b, o, a, c, e, hlt, hc, hx, hr⟩ := h k xs hk
  exact ⟨b, o, a, c, e, hlt, (hb.cell (p := ⟨b, o + k, none⟩) hlt).trans hc, hx.below hb, hr⟩
theorem Bytes.more {w : World} {B B' : Nat} {A : Option Addr} {xs : List Int} (h : Bytes w B A xs) (hB : B ≤ B') : Bytes w B' A xs := fun hp => by
  obtain ⟨ad, e, hlt, hc⟩ := h hp
  exact ⟨ad, e, Nat.lt_of_lt_of_le hlt hB, hc⟩
theorem Parts.more {w : World} {B B' : Nat} {A : Option Addr} {xss : List (List Int)} (h : Parts w B A xss) (hB : B ≤ B') : Parts w B' A xss := by
  intro k xs hk
  obtain ⟨b, o, a, c, e, hlt, hc, hx, hr⟩ := h k xs hk
  exact ⟨b, o, a, c, e, Nat.lt_of_lt_of_le hlt hB, hc, hx.more hB, hr⟩
theorem append_bytes (base : Nat) (v : Value) (n : Nat) (l : List Value) (w : World) (hown : w.ownsRow base 5 1 v n l) (A : Option Addr) (m c B : Nat) (ys : List Int) (hl : ys.length = m) (hy : Bytes w B A ys)
    (hs : n + m ≤ 70368744177664) (hbase : base ≤ w.heap.size) :
    ∃ v' w', (Builtin.append_ #[22, 22] 22 #[v, .slice A m c]).run Tryd.prog w = .ok v' w' ∧ w'.ownsRow base 5 1 v' (n + m) (l ++ ys.map u8v) ∧ w.grownBy w' v.ownBlock := by
  cases hq : Tryd.prog.info? 5 with
  | none => have := info5; rw [hq] at this; cases this
  | some i =>
    have h := info5
    rw [hq] at h
    simp only [Option.map_some, Option.some.injEq, Prod.mk.injEq] at h
    obtain ⟨h1, h2, h3⟩ := h
    cases A with
    | none =>
      have hm : m = 0 := by
        rcases Nat.eq_zero_or_pos m with h0 | h0
        · exact h0
        · obtain ⟨ad, e, _⟩ := hy (by omega)
          cases e
      subst hm
      obtain rfl : ys = [] := List.eq_nil_of_length_eq_zero hl
      refine ⟨v, w, ?_, by simpa using hown, World.grownBy.refl w _⟩
      rcases hown.2 with ⟨rfl, rfl⟩ | ⟨g, cap, cur, rfl, _, _, hnc, _⟩
      · simp [Builtin.append_, run_underlying Tryd.underlying22, sizeOf, typeInfo, hq, Builtin.lenOf, Builtin.firstCells]
      · simp [Builtin.append_, run_underlying Tryd.underlying22, sizeOf, typeInfo, hq, Builtin.lenOf, Builtin.firstCells, hnc, storeCells]
    | some ad =>
      obtain ⟨v', w', hrun, hown', hg, _⟩ := run_append_own_at (P := Tryd.prog) w base 22 22 5 i _ 1 1 Tryd.underlying22 hq h1 h2 h3 rfl (by omega) v n l hown ad m c (ys.map u8v) (by simp [hl]) (fun j u hu => by
          have hp : 0 < ys.length := by
            rcases Nat.eq_zero_or_pos ys.length with h0 | h0
            · obtain rfl := List.eq_nil_of_length_eq_zero h0
              simp at hu
            · exact h0
          obtain ⟨ad', e, _, hc⟩ := hy hp
          obtain rfl := Option.some.inj e
          exact hc j u hu) (by intro u hu; obtain ⟨z, _, rfl⟩ := List.mem_map.1 hu; rfl) (by unfold maxLen; omega) (by omega) hbase
      exact ⟨v', w', hrun, hown', hg⟩
theorem wpList_append_run {P : Program} {ops : Array Oper} {rest : List Oper} {o : Oper} {a : Act} {w w' : World} {Q : Exit → Act → World → Prop} {v y v' : Value} {t : TypeId} (hgd : o.guard = none) (s x : Operand)
    (ho : o.op = .call { callee := .builtin .append, args := #[s, x], argTypes := #[t, t] }) (hty : o.type = t) (hs : a.eval s = v) (hx : a.eval x = y)
    (hrun : (Builtin.append_ #[t, t] t #[v, y]).run P w = .ok v' w') (h : wpList P ops Q rest (a.put o.dst v') w') : wpList P ops Q (o :: rest) a w :=
  wpList_plain hgd fun _ hK => by
    unfold Oper.wp execOp
    simp only [ho, hty, resolve, invoke, builtin, Sem.run_bind, Sem.run_pure, Result.andThen_ok, List.map_toArray, List.map_cons, List.map_nil, hs, hx, hrun]
    exact hK _ _ h
/-- What only grew above a mark is below it as it was. -/
theorem below_of_grown {B : Nat} {a b : World} {row : Option Nat} (h : a.grownBy b row) (hr : ∀ g, row = some g → B ≤ g) (hB : B ≤ a.heap.size) : Below B a b :=
  ⟨h.os, h.tape, h.output, h.size, fun i hi => h.block i (by omega) (fun e => by have := hr i e.symm; omega)⟩
theorem own_form {base n : Nat} {v : Value} {l : List Value} {w : World} (h : w.ownsRow base 5 1 v n l) : ∃ A c, v = .slice A n c := by
  rcases h.2 with ⟨rfl, rfl⟩ | ⟨g, cap, cur, rfl, _⟩
  · exact ⟨none, 0, rfl⟩
  · exact ⟨_, cap, rfl⟩
theorem own_bytes {base n c : Nat} {A : Option Addr} {xs : List Int} {w : World} (h : w.ownsRow base 5 1 (.slice A n c) n (xs.map u8v)) : Bytes w w.heap.size A xs := by
  intro hp
  have hl := h.1
  rcases h.2 with ⟨e, rfl⟩ | ⟨g, cap, cur, e, _, hg, _⟩
  · simp at hl
    rw [hl] at hp
    simp at hp
  · injection e with e1 e2 e3
    subst e1
    refine ⟨_, rfl, ?_, fun j v hv => h.cells (g := g) rfl j v hv⟩
    exact Row.lt (t := 5) hg
theorem flat_step (xss : List (List Int)) (k : Nat) (xs : List Int) (h : xss[k]? = some xs) : (xss.take (k + 1)).flatten = (xss.take k).flatten ++ xs := by
  rw [List.take_add_one, h]
  simp
set_option maxHeartbeats 1000000 in
theorem of_any (A : Option Addr) (n c : Nat) (xss : List (List Int)) (w : World) (hl : xss.length = n) (hx : Parts w w.heap.size A xss) (hn : n ≤ 9223372036854775807) (hs : xss.flatten.length ≤ 70368744177664) (ht : Tables w) :
    Calls Tryd.prog 14 #[.slice A n c] w fun e w' => e = .returned (.agg (arrB 32 (sumL xss.flatten))) ∧ Below w.heap.size w w' := by
  have HL := Lib.hid hl
  have HX := Lib.hid hx
  clear hl hx
  go_enter Tryd.func14, Tryd.ntmps14
  go_wp2_with fail
  go_loopw [3, 8] (fun v i u => ∃ k : Nat, k ≤ n ∧ i = .int .i64 k ∧ Below w.heap.size w u ∧ Hid (Row u w.heap.size 26 (arrB 32 []) ∧ u.ownsRow (w.heap.size + 1) 5 1 v (xss.take k).flatten.length ((xss.take k).flatten.map u8v))) (fun _ i _ => n - (intOf i).toNat)
  case atStart => exact ⟨0, by omega, rfl, by go_grown, Row.new w 26 _, World.ownsRow_nil _ _ _ _⟩
  case round =>
    obtain ⟨k, hk, rfl, hbl, hrows⟩ := hrel
    obtain ⟨r0, hown⟩ := hrows.out
    have s0 := r0.lt
    by_cases hlt : k < n
    · have hg := List.getElem?_eq_getElem (by rw [HL.out]; exact hlt : k < xss.length)
      have hst := Lib.hid (flat_step xss k _ hg)
      obtain ⟨b, o, a, c1, rfl, hb, hc, hy, hr⟩ := HX.out k _ hg
      have hle : (xss.take k).flatten.length + (xss[k]'(by rw [HL.out]; exact hlt)).length ≤ xss.flatten.length := by
        have e := congrArg List.length hst.out
        rw [List.length_append] at e
        have h2 : (xss.take (k + 1)).flatten.length ≤ xss.flatten.length := by
          conv => rhs; rw [← List.take_append_drop (k + 1) xss, List.flatten_append, List.length_append]
          omega
        omega
      generalize xss[k]'(by rw [HL.out]; exact hlt) = ys at *
      obtain ⟨v', w', hrun, hown', hgr⟩ := append_bytes _ _ _ _ wr hown a ys.length c1 w.heap.size ys rfl (hy.below hbl) (by omega) (by omega)
      have hcell := (hbl.cell (p := ⟨b, o + k, none⟩) hb).trans hc
      have hb2 := below_of_grown (B := w.heap.size + 1) hgr (fun g hg => (hown.lt g hg).1) (by omega)
      have R0 := Lib.hid (r0.below hb2 (by omega))
      have BB := Lib.hid (hbl.trans (hb2.mono (by omega)))
      have OO := Lib.hid hown'
      clear r0 hown hrows hg hc hy hr hgr hb2 hown' hle
      have hk2 : (k : Int) < (n : Int) := by omega
      have HRUN := Lib.hid hrun
      clear hrun
      go_wp2_with (at_builtin; (with_reducible refine wpList_append_run (o := ⟨some 14, _, _, _, _, _⟩) ?_ (.tmp 12) (.tmp 13) ?_ ?_ ?_ ?_ HRUN.out ?_); (rfl); (rfl); (rfl); (rfl); (rfl))
      go_roundw
      case rel =>
        refine ⟨k + 1, by omega, by go_num, BB.out, R0.out, ?_⟩
        rw [hst.out, List.length_append, List.map_append]
        exact OO.out
      case measure => simp [intOf]; omega
    · obtain rfl : k = n := by omega
      have hT : xss.take k = xss := List.take_of_length_le (by rw [HL.out]; exact Nat.le_refl _)
      rw [hT] at hown
      obtain ⟨A1, c1, rfl⟩ := own_form hown
      have hr : ∀ x ∈ xss.flatten, 0 ≤ x ∧ x ≤ 255 := by
        intro x hx
        obtain ⟨l, hl, hxl⟩ := List.mem_flatten.1 hx
        obtain ⟨j, hj, rfl⟩ := List.getElem_of_mem hl
        obtain ⟨_, _, _, _, _, _, _, _, hr⟩ := HX.out j _ (List.getElem?_eq_getElem hj)
        exact hr x hxl
      have hby := own_bytes hown
      have R0 := Lib.hid r0
      clear hown r0 hrows hT
      have HRR := Lib.hid hr
      have HBY := Lib.hid hby
      clear hr hby
      generalize hFL : xss.flatten = fl at *
      have HFL := Lib.hid hFL
      clear hFL
      obtain ⟨q, hq⟩ : ∃ q, fl.length = q := ⟨_, rfl⟩
      rw [hq]
      have HQ := Lib.hid hq
      have hs2 : q ≤ 70368744177664 := by omega
      clear hq
      go_wp2_with fail
      refine (sum_any A1 q c1 fl wr HQ.out hs2 HBY.out HRR.out (ht.below hbl)).mono ?_
      rintro e w3 ⟨rfl, hb3⟩
      have hsz : Hid ((arrB 32 (sumL fl)).size = 32 ∧ (arrB 32 []).size = (arrB 32 (sumL fl)).size ∧ (arrB 32 (sumL fl)).all (·.oneCell') = true) :=
        Lib.hid ⟨arrB_size _ _ (by rw [sumL_len]; omega), by rw [arrB_size 32 (sumL fl) (by rw [sumL_len]; omega), arrB_size 32 [] (by simp)], arrB_one _ _⟩
      have Q0 : Hid (w3.heap[w.heap.size]? = some (.cells (arrB 32 []) 26 (0, 0))) := R0.out.below hb3 R0.out.lt
      have bl3 : Below w.heap.size w w3 := hbl.trans (hb3.mono hbl.size)
      clear hb3 R0
      generalize hE : arrB 32 (sumL fl) = cs at *
      have HE := Lib.hid hE
      clear hE
      generalize arrB 32 [] = zs at *
      go_wp2_with (first
        | ((with_reducible refine wpList_store_row (o := ⟨none, .store 26 _ _, _, _, _, _⟩) ?_ 26 (.tmp 2) (.tmp 17) ?_ w.heap.size cs ?_ ?_ 26 zs Q0.out (info26 cs hsz.out.1) hsz.out.2.1 hsz.out.2.2 ?_); (rfl); (rfl); (rfl); (rfl))
        | ((with_reducible refine bodyPost_ret (v := .agg cs) ?_ ?_ ?_); (exact results_cell_row (p := 2) (ty := 26) Tryd.results14 _ _ w.heap.size 26 cs (0, 0) _ rfl (setRow_heap _ _ zs cs 26 (0, 0) Q0.out) Tryd.underlying26 rfl (info26 cs hsz.out.1)); (rfl)))
      exact ⟨by rw [HFL.out, HE.out], below_setRow bl3 (Nat.le_refl _) _⟩
end Go.Proofs.YtlccldnjgaldoaaDoor
