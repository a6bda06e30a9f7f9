/- The walk of the rounds of the reference. -/
import Derived.Test.YtgiacilkecoenaaDoorCf
import Derived.WalkKit
import Derived.ProofKit
import Derived.Handy
import Derived.Deep.RegionHeld3
import Derived.Deep.RegionLaw
import Derived.Maps.AppendAt
import Derived.Laws.BytesArg
import Derived.OpenShut
import Derived.ChangeKeysEq
import Derived.Lib.SlBytesConst
import Derived.Deep.MidRow
import Derived.Laws.CopyOwn
import Derived.Laws.MakeOwn
import Derived.Deep.WholeRow
import Derived.Deep.Cut
import Derived.Deep.QuietTactic
import Derived.BigQuiet
import Derived.StillTailTactics
import Derived.Lib.Hide
import Derived.Deep.RegionHeld
namespace Go.Proofs.YtgiacilkecoenaaDoor
open Go.RowKit














structure S8.In (s : S8) : Prop where
  a : InW s.a
  b : InW s.b
  c : InW s.c
  d : InW s.d
  e : InW s.e
  f : InW s.f
  g : InW s.g
  h : InW s.h
theorem S8.In.step {s : S8} (h : s.In) (k x : Int) : (s.step k x).In := ⟨InW.mod _, h.a, h.b, h.c, InW.mod _, h.e, h.f, h.g⟩
theorem S8.In.add (s t : S8) : (s.add t).In := ⟨InW.mod _, InW.mod _, InW.mod _, InW.mod _, InW.mod _, InW.mod _, InW.mod _, InW.mod _⟩
theorem runL_in {s : S8} (h : s.In) (ws : List Int) : ∀ k, (runL s ws k).In
  | 0 => h
  | k + 1 => (runL_in h ws k).step _ _
set_option maxRecDepth 100000 in
theorem numbers_any (w : World) : Calls Tryd.prog 55 #[] w fun e w' => e = .returned (.slice (some ⟨w.heap.size, 0, none⟩) 64 64) ∧ Row w' w.heap.size 59 (roundNs.map u32v).toArray ∧ Below w.heap.size w w' := by
  go_enter Tryd.func55, Tryd.ntmps55
  go_wp2
  go_ret
  exact ⟨rfl, Row.new w 59 _, (Below.refl _ _).alloc (Nat.le_refl _) _⟩
theorem first_any (w : World) : Calls Tryd.prog 46 #[] w fun e w' => e = .returned (.slice (some ⟨w.heap.size, 0, none⟩) 8 8) ∧ Row w' w.heap.size 59 firstW.cells ∧ Below w.heap.size w w' := by
  go_enter Tryd.func46, Tryd.ntmps46
  go_wp2
  go_ret
  exact ⟨rfl, Row.new w 59 _, (Below.refl _ _).alloc (Nat.le_refl _) _⟩
theorem roundNs_get (i : Nat) (h : i < 64) : (roundNs.map u32v).toArray[i]? = some (.int .u32 (roundNs.getD i 0)) := by
  have hl : roundNs.length = 64 := rfl
  simp [u32v, List.getD, List.getElem?_eq_getElem (by omega : i < roundNs.length)]
/-- What stays in the rounds: the words at first, the numbers, the words of the bytes. -/
structure Keep (w : World) (hcs : Array Value) (gh gk : Nat) (ws : List Int) (gw : Nat) (u : World) : Prop where
  b : Below w.heap.size w u
  h : Row u gh 59 hcs
  k : Row u gk 59 (roundNs.map u32v).toArray
  w : ∀ i, i < 64 → u.cell? ⟨gw, i, none⟩ = some (.int .u32 (ws.getD i 0))
  lw : gw < u.heap.size
theorem Keep.drewN {w : World} {s : Array Value} {gh gk : Nat} {ws : List Int} {gw : Nat} {u : World} (h : Keep w s gh gk ws gw u) (n : Nat) : Keep w s gh gk ws gw (u.drewN n) := ⟨below_drewN h.b n, h.h, h.k, h.w, h.lw⟩
theorem Keep.below {w : World} {s : Array Value} {gh gk : Nat} {ws : List Int} {gw : Nat} {u x : World} (h : Keep w s gh gk ws gw u) (hb : Below u.heap.size u x) : Keep w s gh gk ws gw x :=
  ⟨h.b.trans (hb.mono h.b.size), h.h.below hb h.h.lt, h.k.below hb h.k.lt, fun i hi => (hb.cell (p := ⟨gw, i, none⟩) h.lw).trans (h.w i hi), Nat.lt_of_lt_of_le h.lw hb.size⟩
theorem Keep.set {w : World} {s : Array Value} {gh : Nat} {ws : List Int} {gw g k : Nat} {u : World} {v : Value} (h : Keep w s gh w.heap.size ws gw u) (hg : w.heap.size + 1 ≤ g) (h1 : gh < w.heap.size) (h2 : gw < w.heap.size) : Keep w s gh w.heap.size ws gw (u.drew.setCell ⟨g, k, none⟩ v) :=
  ⟨h.b.drew.setCell (by simp; omega) _, h.h.drew.far (by simp; omega) _, h.k.drew.far (by simp; omega) _, fun i hi => (World.cell?_setCell_other u.drew ⟨g, k, none⟩ ⟨gw, i, none⟩ v (fun e => by injection e; omega)).trans (h.w i hi), by have := h.lw; simpa [World.setCell] using this⟩
/-- A slice of eight words that lies above a mark, in a block of its own. -/
def V8 (B : Nat) (v : Value) (st : S8) (u : World) : Prop := ∃ g cap cur, v = .slice (some ⟨g, 0, none⟩) 8 cap ∧ B ≤ g ∧ Row u g 59 cur ∧ ∀ i, i < 8 → cur[i]? = some (.int .u32 (st.get i))
set_option maxHeartbeats 8000000 in
set_option maxRecDepth 100000 in
theorem rrounds_any (s : S8) (hcs : Array Value) (gh ch gw cw : Nat) (ws : List Int) (w : World) (hs : s.In) (hh : Row w gh 59 hcs) (hhc : ∀ i, i < 8 → hcs[i]? = some (.int .u32 (s.get i))) (hw : ∀ i, i < 64 → w.cell? ⟨gw, i, none⟩ = some (.int .u32 (ws.getD i 0))) (hwl : gw < w.heap.size) :
    Calls Tryd.prog 47 #[.slice (some ⟨gh, 0, none⟩) 8 ch, .slice (some ⟨gw, 0, none⟩) 64 cw] w fun e w' => ∃ v, e = .returned v ∧ V8 w.heap.size v (s.add (runL s ws 64)) w' ∧ Below w.heap.size w w' := by
  have HW := Lib.hid hw
  have HHC := Lib.hid hhc
  have hgh0 := hh.lt
  clear hw hhc
  go_enter Tryd.func47, Tryd.ntmps47
  go_wp2_with fail
  refine (numbers_any w).mono ?_
  rintro e w1 ⟨rfl, rk, hb1⟩
  have K1 : Keep w hcs gh w.heap.size ws gw w1 := ⟨hb1, hh.below hb1 hh.lt, rk, fun i hi => (hb1.cell (p := ⟨gw, i, none⟩) hwl).trans (HW.out i hi), Nat.lt_of_lt_of_le hwl hb1.size⟩
  have sk := rk.lt
  obtain ⟨v', w', hrun, hown, hgr⟩ := append_words (w.heap.size + 1) (.slice none 0 0) 0 [] w1 (World.ownsRow_nil _ _ _ _) ⟨gh, 0, none⟩ 8 ch [s.a, s.b, s.c, s.d, s.e, s.f, s.g, s.h] rfl (fun j u hu => by
    have hj : j < 8 := by
      rcases Nat.lt_or_ge j 8 with h' | h'
      · exact h'
      · rw [List.getElem?_eq_none (by simpa using h')] at hu
        cases hu
    rw [Addr.add_mid, Nat.zero_add, K1.h.cell j, HHC.out j hj, ← hu]
    rcases j with _ | _ | _ | _ | _ | _ | _ | _ | j <;> first | omega | rfl) (by omega) (by omega)
  have hb2 : Below w1.heap.size w1 w' := below_of_grown hgr (fun g hg => by simp [Value.ownBlock] at hg) (Nat.le_refl _)
  have K2 := Lib.hid (K1.below hb2)
  have V2 : Hid (V8 (w.heap.size + 1) v' s w') := by
    rcases hown.2 with ⟨_, h0⟩ | ⟨g, cap, cur, e, hg, hh, _, _, _, ht⟩
    · omega
    · refine ⟨g, cap, cur, e, hg, hh, fun i hi => ?_⟩
      have h1 : cur.toList[i]? = (cur.toList.take (8 * 1))[i]? := by rw [List.getElem?_take_of_lt (by omega)]
      rw [← Array.getElem?_toList, h1, show (8 * 1) = (0 + 8) * 1 by omega, ht]
      rcases i with _ | _ | _ | _ | _ | _ | _ | _ | i <;> first | omega | rfl
  have HRUN := Lib.hid hrun
  clear hrun hown hgr hb2 K1 rk hb1 hh
  go_wp2_with (at_builtin; (with_reducible refine wpList_append_run (o := ⟨some 16, _, _, _, _, _⟩) ?_ (.const (.slice none 0 0)) (.tmp 15) ?_ ?_ ?_ ?_ HRUN.out ?_); (rfl); (rfl); (rfl); (rfl); (rfl))
  go_loopw [6, 7] (fun v i u => ∃ j : Nat, j ≤ 64 ∧ i = .int .i64 j ∧ Hid (Keep w hcs gh w.heap.size ws gw u ∧ V8 (w.heap.size + 1) v (runL s ws j) u)) (fun _ i _ => 64 - (intOf i).toNat)
  case atStart => exact ⟨0, by omega, rfl, K2.out, V2.out⟩
  case round =>
    clear K2 V2 HRUN
    obtain ⟨j, hj, rfl, hrel2⟩ := hrel
    obtain ⟨hk, hv⟩ := hrel2.out
    by_cases hlt : j < 64
    · obtain ⟨g, cap, cur, rfl, hg, hr, hc⟩ := hv
      have hst : Hid (runL s ws (j + 1) = (runL s ws j).step (roundNs.getD j 0) (ws.getD j 0)) := rfl
      have hin := runL_in hs ws j
      have ek := (hk.k.cell j).trans (roundNs_get j hlt)
      have ew := hk.w j hlt
      have E := Lib.hid hk
      generalize roundNs.getD j 0 = kv at *
      generalize ws.getD j 0 = wv at *
      generalize runL s ws j = st at *
      have e0 : wr.cell? ⟨g, 0, none⟩ = some (.int .u32 st.a) := (hr.cell 0).trans (hc 0 (by omega))
      have e1 : wr.cell? ⟨g, 1, none⟩ = some (.int .u32 st.b) := (hr.cell 1).trans (hc 1 (by omega))
      have e2 : wr.cell? ⟨g, 2, none⟩ = some (.int .u32 st.c) := (hr.cell 2).trans (hc 2 (by omega))
      have e3 : wr.cell? ⟨g, 3, none⟩ = some (.int .u32 st.d) := (hr.cell 3).trans (hc 3 (by omega))
      have e4 : wr.cell? ⟨g, 4, none⟩ = some (.int .u32 st.e) := (hr.cell 4).trans (hc 4 (by omega))
      have e5 : wr.cell? ⟨g, 5, none⟩ = some (.int .u32 st.f) := (hr.cell 5).trans (hc 5 (by omega))
      have e6 : wr.cell? ⟨g, 6, none⟩ = some (.int .u32 st.g) := (hr.cell 6).trans (hc 6 (by omega))
      have e7 : wr.cell? ⟨g, 7, none⟩ = some (.int .u32 st.h) := (hr.cell 7).trans (hc 7 (by omega))
      have T6 : Hid (∀ (u : World) (q : Nat), Calls Tryd.prog 56 #[.int .u32 st.e, .int .i64 6] (u.drewN q) fun e w' => e = .returned (.int .u32 (rotI st.e 6)) ∧ ∃ r, w' = u.drewN r) := fun u q => turn_at st.e hin.e 6 (by omega) (by omega) 6 rfl u q
      have T11 : Hid (∀ (u : World) (q : Nat), Calls Tryd.prog 56 #[.int .u32 st.e, .int .i64 11] (u.drewN q) fun e w' => e = .returned (.int .u32 (rotI st.e 11)) ∧ ∃ r, w' = u.drewN r) := fun u q => turn_at st.e hin.e 11 (by omega) (by omega) 11 rfl u q
      have T25 : Hid (∀ (u : World) (q : Nat), Calls Tryd.prog 56 #[.int .u32 st.e, .int .i64 25] (u.drewN q) fun e w' => e = .returned (.int .u32 (rotI st.e 25)) ∧ ∃ r, w' = u.drewN r) := fun u q => turn_at st.e hin.e 25 (by omega) (by omega) 25 rfl u q
      have T2 : Hid (∀ (u : World) (q : Nat), Calls Tryd.prog 56 #[.int .u32 st.a, .int .i64 2] (u.drewN q) fun e w' => e = .returned (.int .u32 (rotI st.a 2)) ∧ ∃ r, w' = u.drewN r) := fun u q => turn_at st.a hin.a 2 (by omega) (by omega) 2 rfl u q
      have T13 : Hid (∀ (u : World) (q : Nat), Calls Tryd.prog 56 #[.int .u32 st.a, .int .i64 13] (u.drewN q) fun e w' => e = .returned (.int .u32 (rotI st.a 13)) ∧ ∃ r, w' = u.drewN r) := fun u q => turn_at st.a hin.a 13 (by omega) (by omega) 13 rfl u q
      have T22 : Hid (∀ (u : World) (q : Nat), Calls Tryd.prog 56 #[.int .u32 st.a, .int .i64 22] (u.drewN q) fun e w' => e = .returned (.int .u32 (rotI st.a 22)) ∧ ∃ r, w' = u.drewN r) := fun u q => turn_at st.a hin.a 22 (by omega) (by omega) 22 rfl u q
      have hmaj := Lib.hid (maj_eq st.a st.b st.c hin.a hin.b hin.c)
      have hch := Lib.hid (ch_eq st.e st.f st.g hin.e)
      have ie := hin.e
      obtain ⟨ie0, ie1⟩ := ie
      have us : IntKind.u32.wrap (4294967295 - st.e) = 4294967295 - st.e := by rw [IntKind.wrap_u32]; omega
      have hj2 : (j : Int) < 64 := by omega
      clear hr hc hk hrel2 hin
      go_wp2_with fail
      go_quiet ((go_at_call 56; first | (with_reducible exact T6.out _ _) | (with_reducible exact T11.out _ _) | (with_reducible exact T25.out _ _)))
      have f0 : (wr.drewN nq).cell? ⟨g, 0, none⟩ = some (.int .u32 st.a) := e0
      have f1 : (wr.drewN nq).cell? ⟨g, 1, none⟩ = some (.int .u32 st.b) := e1
      have f2 : (wr.drewN nq).cell? ⟨g, 2, none⟩ = some (.int .u32 st.c) := e2
      have f3 : (wr.drewN nq).cell? ⟨g, 3, none⟩ = some (.int .u32 st.d) := e3
      have f4 : (wr.drewN nq).cell? ⟨g, 4, none⟩ = some (.int .u32 st.e) := e4
      have f5 : (wr.drewN nq).cell? ⟨g, 5, none⟩ = some (.int .u32 st.f) := e5
      have f6 : (wr.drewN nq).cell? ⟨g, 6, none⟩ = some (.int .u32 st.g) := e6
      have f7 : (wr.drewN nq).cell? ⟨g, 7, none⟩ = some (.int .u32 st.h) := e7
      have fk : (wr.drewN nq).cell? ⟨w.heap.size, j, none⟩ = some (.int .u32 kv) := ek
      have fw : (wr.drewN nq).cell? ⟨gw, j, none⟩ = some (.int .u32 wv) := ew
      have F : Hid (Keep w hcs gh w.heap.size ws gw (wr.drewN nq)) := E.out.drewN nq
      clear e0 e1 e2 e3 e4 e5 e6 e7 ek ew E
      generalize wr.drewN nq = w2 at *
      clear nq
      have e0 := f0
      have e1 := f1
      have e2 := f2
      have e3 := f3
      have e4 := f4
      have e5 := f5
      have e6 := f6
      have e7 := f7
      have ek := fk
      have ew := fw
      have E := F
      clear f0 f1 f2 f3 f4 f5 f6 f7 fk fw F
      have hs1 : Hid (bits BinOp.xor IntKind.u32 (bits BinOp.xor IntKind.u32 (rotI st.e 6) (rotI st.e 11)) (rotI st.e 25) = sig1 st.e) := rfl
      rw [hs1.out]
      go_wp2_with fail
      go_quiet (fail)
      have f0 : (w2.drewN nq).cell? ⟨g, 0, none⟩ = some (.int .u32 st.a) := e0
      have f1 : (w2.drewN nq).cell? ⟨g, 1, none⟩ = some (.int .u32 st.b) := e1
      have f2 : (w2.drewN nq).cell? ⟨g, 2, none⟩ = some (.int .u32 st.c) := e2
      have f3 : (w2.drewN nq).cell? ⟨g, 3, none⟩ = some (.int .u32 st.d) := e3
      have f4 : (w2.drewN nq).cell? ⟨g, 4, none⟩ = some (.int .u32 st.e) := e4
      have f5 : (w2.drewN nq).cell? ⟨g, 5, none⟩ = some (.int .u32 st.f) := e5
      have f6 : (w2.drewN nq).cell? ⟨g, 6, none⟩ = some (.int .u32 st.g) := e6
      have f7 : (w2.drewN nq).cell? ⟨g, 7, none⟩ = some (.int .u32 st.h) := e7
      have fk : (w2.drewN nq).cell? ⟨w.heap.size, j, none⟩ = some (.int .u32 kv) := ek
      have fw : (w2.drewN nq).cell? ⟨gw, j, none⟩ = some (.int .u32 wv) := ew
      have F : Hid (Keep w hcs gh w.heap.size ws gw (w2.drewN nq)) := E.out.drewN nq
      clear e0 e1 e2 e3 e4 e5 e6 e7 ek ew E
      generalize w2.drewN nq = w3 at *
      clear nq
      have e0 := f0
      have e1 := f1
      have e2 := f2
      have e3 := f3
      have e4 := f4
      have e5 := f5
      have e6 := f6
      have e7 := f7
      have ek := fk
      have ew := fw
      have E := F
      clear f0 f1 f2 f3 f4 f5 f6 f7 fk fw F
      rw [hch.out]
      go_wp2_with fail
      go_quiet (fail)
      have f0 : (w3.drewN nq).cell? ⟨g, 0, none⟩ = some (.int .u32 st.a) := e0
      have f1 : (w3.drewN nq).cell? ⟨g, 1, none⟩ = some (.int .u32 st.b) := e1
      have f2 : (w3.drewN nq).cell? ⟨g, 2, none⟩ = some (.int .u32 st.c) := e2
      have f3 : (w3.drewN nq).cell? ⟨g, 3, none⟩ = some (.int .u32 st.d) := e3
      have f4 : (w3.drewN nq).cell? ⟨g, 4, none⟩ = some (.int .u32 st.e) := e4
      have f5 : (w3.drewN nq).cell? ⟨g, 5, none⟩ = some (.int .u32 st.f) := e5
      have f6 : (w3.drewN nq).cell? ⟨g, 6, none⟩ = some (.int .u32 st.g) := e6
      have f7 : (w3.drewN nq).cell? ⟨g, 7, none⟩ = some (.int .u32 st.h) := e7
      have fk : (w3.drewN nq).cell? ⟨w.heap.size, j, none⟩ = some (.int .u32 kv) := ek
      have fw : (w3.drewN nq).cell? ⟨gw, j, none⟩ = some (.int .u32 wv) := ew
      have F : Hid (Keep w hcs gh w.heap.size ws gw (w3.drewN nq)) := E.out.drewN nq
      clear e0 e1 e2 e3 e4 e5 e6 e7 ek ew E
      generalize w3.drewN nq = w4 at *
      clear nq
      have e0 := f0
      have e1 := f1
      have e2 := f2
      have e3 := f3
      have e4 := f4
      have e5 := f5
      have e6 := f6
      have e7 := f7
      have ek := fk
      have ew := fw
      have E := F
      clear f0 f1 f2 f3 f4 f5 f6 f7 fk fw F
      go_wp2_with fail
      go_quiet ((go_at_call 56; first | (with_reducible exact T2.out _ _) | (with_reducible exact T13.out _ _) | (with_reducible exact T22.out _ _)))
      have f0 : (w4.drewN nq).cell? ⟨g, 0, none⟩ = some (.int .u32 st.a) := e0
      have f1 : (w4.drewN nq).cell? ⟨g, 1, none⟩ = some (.int .u32 st.b) := e1
      have f2 : (w4.drewN nq).cell? ⟨g, 2, none⟩ = some (.int .u32 st.c) := e2
      have f3 : (w4.drewN nq).cell? ⟨g, 3, none⟩ = some (.int .u32 st.d) := e3
      have f4 : (w4.drewN nq).cell? ⟨g, 4, none⟩ = some (.int .u32 st.e) := e4
      have f5 : (w4.drewN nq).cell? ⟨g, 5, none⟩ = some (.int .u32 st.f) := e5
      have f6 : (w4.drewN nq).cell? ⟨g, 6, none⟩ = some (.int .u32 st.g) := e6
      have f7 : (w4.drewN nq).cell? ⟨g, 7, none⟩ = some (.int .u32 st.h) := e7
      have fk : (w4.drewN nq).cell? ⟨w.heap.size, j, none⟩ = some (.int .u32 kv) := ek
      have fw : (w4.drewN nq).cell? ⟨gw, j, none⟩ = some (.int .u32 wv) := ew
      have F : Hid (Keep w hcs gh w.heap.size ws gw (w4.drewN nq)) := E.out.drewN nq
      clear e0 e1 e2 e3 e4 e5 e6 e7 ek ew E
      generalize w4.drewN nq = w5 at *
      clear nq
      have e0 := f0
      have e1 := f1
      have e2 := f2
      have e3 := f3
      have e4 := f4
      have e5 := f5
      have e6 := f6
      have e7 := f7
      have ek := fk
      have ew := fw
      have E := F
      clear f0 f1 f2 f3 f4 f5 f6 f7 fk fw F
      have hs0 : Hid (bits BinOp.xor IntKind.u32 (bits BinOp.xor IntKind.u32 (rotI st.a 2) (rotI st.a 13)) (rotI st.a 22) = sig0 st.a) := rfl
      rw [hs0.out]
      go_wp2_with fail
      go_quiet (fail)
      have f0 : (w5.drewN nq).cell? ⟨g, 0, none⟩ = some (.int .u32 st.a) := e0
      have f1 : (w5.drewN nq).cell? ⟨g, 1, none⟩ = some (.int .u32 st.b) := e1
      have f2 : (w5.drewN nq).cell? ⟨g, 2, none⟩ = some (.int .u32 st.c) := e2
      have f3 : (w5.drewN nq).cell? ⟨g, 3, none⟩ = some (.int .u32 st.d) := e3
      have f4 : (w5.drewN nq).cell? ⟨g, 4, none⟩ = some (.int .u32 st.e) := e4
      have f5 : (w5.drewN nq).cell? ⟨g, 5, none⟩ = some (.int .u32 st.f) := e5
      have f6 : (w5.drewN nq).cell? ⟨g, 6, none⟩ = some (.int .u32 st.g) := e6
      have f7 : (w5.drewN nq).cell? ⟨g, 7, none⟩ = some (.int .u32 st.h) := e7
      have fk : (w5.drewN nq).cell? ⟨w.heap.size, j, none⟩ = some (.int .u32 kv) := ek
      have fw : (w5.drewN nq).cell? ⟨gw, j, none⟩ = some (.int .u32 wv) := ew
      have F : Hid (Keep w hcs gh w.heap.size ws gw (w5.drewN nq)) := E.out.drewN nq
      clear e0 e1 e2 e3 e4 e5 e6 e7 ek ew E
      generalize w5.drewN nq = w6 at *
      clear nq
      have e0 := f0
      have e1 := f1
      have e2 := f2
      have e3 := f3
      have e4 := f4
      have e5 := f5
      have e6 := f6
      have e7 := f7
      have ek := fk
      have ew := fw
      have E := F
      clear f0 f1 f2 f3 f4 f5 f6 f7 fk fw F
      rw [hmaj.out]
      go_wp2_with fail
      go_still_tail 28, (by kernel_rfl)
      change wpList _ _ _ _ _ w6.drew
      go_wp2_with fail
      have hA : Hid ((st.h + sig1 st.e + chI st.e st.f st.g + kv + wv + sig0 st.a + majI st.a st.b st.c) % 4294967296 = (st.step kv wv).a) := by
        show _ = (st.h + sig1 st.e + chI st.e st.f st.g + kv + wv + (sig0 st.a + majI st.a st.b st.c)) % 4294967296
        rw [Int.add_assoc]
      have hk6 := E.out.k.lt
      go_roundw
      case rel =>
        refine ⟨j + 1, by omega, by go_num, E.out.below (Below.drew ((Below.refl _ _).alloc (Nat.le_refl _) _)), w6.heap.size, 8, _, rfl, by omega, Row.new w6 59 _, fun i hi => ?_⟩
        rw [hst.out, hA.out]
        rcases i with _ | _ | _ | _ | _ | _ | _ | _ | i <;> first | omega | rfl
      case measure => simp [intOf]; omega
    · obtain rfl : j = 64 := by omega
      obtain ⟨g, cap, cur, rfl, hg, hr, hc⟩ := hv
      generalize hTT : runL s ws 64 = tt at *
      have HTT := Lib.hid hTT
      clear hTT hrel2
      have R0 := Lib.hid (⟨hk, cur, hr, hc⟩ : Keep w hcs gh w.heap.size ws gw wr ∧ ∃ cur, Row wr g 59 cur ∧ ∀ i, i < 8 → cur[i]? = some (.int .u32 ((tt.addTo s 0).get i)))
      clear hk hr hc
      go_wp2_with fail
      go_loopw [13] (fun i u => ∃ k : Nat, k ≤ 8 ∧ i = .int .i64 k ∧ Hid (Keep w hcs gh w.heap.size ws gw u ∧ ∃ cur, Row u g 59 cur ∧ ∀ i, i < 8 → cur[i]? = some (.int .u32 ((tt.addTo s k).get i)))) (fun i _ => 8 - (intOf i).toNat)
      case atStart => exact ⟨0, by omega, rfl, R0.out⟩
      case round =>
        clear R0
        obtain ⟨k, hk8, rfl, hrel2⟩ := hrel
        obtain ⟨hk, cur, hr, hc⟩ := hrel2.out
        by_cases hlt : k < 8
        · have e0 : wr.cell? ⟨g, k, none⟩ = some (.int .u32 (tt.get k)) := by rw [hr.cell k, hc k hlt, S8.addTo_get tt s k hlt]
          have e1 : wr.cell? ⟨gh, k, none⟩ = some (.int .u32 (s.get k)) := by rw [hk.h.cell k, HHC.out k hlt]
          have f0 := hr.frozen k
          have E := Lib.hid hk
          have R := Lib.hid hr
          have C := Lib.hid hc
          have hput : Hid (∀ i, i < 8 → (tt.addTo s (k + 1)).get i = if i = k then (tt.get k + s.get k) % 4294967296 else (tt.addTo s k).get i) := by
            intro i hi
            rcases k with _ | _ | _ | _ | _ | _ | _ | _ | k <;> first | omega | (rcases i with _ | _ | _ | _ | _ | _ | _ | _ | i <;> first | omega | rfl)
          clear hk hr hc hrel2
          have hl2 : (k : Int) < 8 := by omega
          go_wp2_with fail
          go_still_tail 11, (by kernel_rfl)
          change wpList _ _ _ _ _ wr.drew
          go_wp2
          go_roundw
          case rel =>
            repeat apply Exists.intro
            refine ⟨⟨k + 1, by omega, by go_num, E.out.set hg hgh0 hwl, _, R.out.drew.put k _, fun i hi => ?_⟩, rfl⟩
            have hkc := C.out k hlt
            have hks : k < cur.size := by
              rcases Nat.lt_or_ge k cur.size with h' | h'
              · exact h'
              · rw [Array.getElem?_eq_none h'] at hkc
                cases hkc
            rw [Array.getElem?_setIfInBounds, hput.out i hi]
            by_cases e : k = i
            · subst e
              rw [if_pos rfl, if_pos hks, if_pos rfl]
            · rw [if_neg e, if_neg (fun h => e h.symm)]
              exact C.out i hi
          case measure => simp [intOf]; omega
        · obtain rfl : k = 8 := by omega
          have E := Lib.hid hk
          have R := Lib.hid hr
          have C := Lib.hid hc
          clear hk hr hc hrel2
          go_wp2
          go_ret
          have hadd : s.add (runL s ws 64) = tt.addTo s 8 := by
            rw [HTT.out, S8.addTo_all]
            simp only [S8.add, Int.add_comm]
          exact ⟨_, rfl, ⟨g, cap, cur, rfl, by omega, R.out, by rw [hadd]; exact C.out⟩, E.out.b⟩
end Go.Proofs.YtgiacilkecoenaaDoor

/- The walk of the Pad of the reference. -/
namespace Go.Proofs.YtgiacilkecoenaaDoor
open Go.RowKit














theorem append_byte (base : Nat) (v : Value) (n : Nat) (l : List Value) (w : World) (x : Int) (hown : w.ownsRow base 5 1 v n l) (hs : n ≤ 70368744177663) (hbase : base ≤ w.heap.size) :
    ∃ v' w', (Builtin.append_ #[23, 23] 23 #[v, .slice (some ⟨w.heap.size, 0, none⟩) 1 1]).run Tryd.prog (w.alloc (.cells #[.int .u8 x] 5)) = .ok v' w' ∧ w'.ownsRow base 5 1 v' (n + 1) (l ++ [u8v x]) ∧ Below base w w' := by
  have ho := hown.alloc (.cells #[.int .u8 x] 5)
  obtain ⟨v', w', hrun, hown', hg⟩ := append_bytes base v n l (w.alloc (.cells #[.int .u8 x] 5)) ho (some ⟨w.heap.size, 0, none⟩) 1 1 (w.heap.size + 1) [x] rfl (fun _ => ⟨_, rfl, by simp, fun j u hu => by
    rcases j with _ | j
    · have hu' : u8v x = u := by simpa using hu
      subst hu'
      exact (Row.new w 5 #[.int .u8 x]).cell 0
    · simp at hu⟩) (by omega) (by simp; omega)
  refine ⟨v', w', hrun, hown', ?_⟩
  have hb : Below base w (w.alloc (.cells #[.int .u8 x] 5)) := (Below.refl _ _).alloc hbase _
  exact hb.trans (below_of_grown hg (fun g hg => (ho.lt g hg).1) (by simp; omega))
theorem own_len {base n : Nat} {v : Value} {l : List Value} {w : World} (h : w.ownsRow base 5 1 v n l) (hn : 0 < n) : ∃ g cap, v = .slice (some ⟨g, 0, none⟩) n cap := by
  rcases h.2 with ⟨_, h0⟩ | ⟨g, cap, cur, e, _⟩
  · omega
  · exact ⟨g, cap, e⟩
/-- the bytes ahead of the length -/
def headL (xs : List Int) (k : Nat) : List Int := xs ++ [128] ++ List.replicate k 0
def divs (k : Nat) : Int := 72057594037927936 / 256 ^ k
def tailL (n : Nat) : Nat → List Int
  | 0 => []
  | k + 1 => tailL n k ++ [8 * (n : Int) / divs k % 256]
theorem divs_step (k : Nat) (h : k < 8) : divs (k + 1) = divs k / 256 ∧ 0 < divs k ∧ divs k ≤ 72057594037927936 := by
  rcases k with _ | _ | _ | _ | _ | _ | _ | _ | k
  all_goals first | omega | decide
theorem tailL_all (n : Nat) (h : n ≤ 70368744177) : tailL n 8 = lenL n := by
  have d0 : divs 0 = 72057594037927936 := by decide
  have d1 : divs 1 = 281474976710656 := by decide
  have d2 : divs 2 = 1099511627776 := by decide
  have d3 : divs 3 = 4294967296 := by decide
  have d4 : divs 4 = 16777216 := by decide
  have d5 : divs 5 = 65536 := by decide
  have d6 : divs 6 = 256 := by decide
  have d7 : divs 7 = 1 := by decide
  simp only [tailL, d0, d1, d2, d3, d4, d5, d6, d7, lenL, List.nil_append, List.cons_append, List.cons.injEq, and_true]
  refine ⟨?_, ?_, ?_, ?_, ?_, ?_, ?_, ?_⟩
  all_goals first | omega | trivial
set_option maxHeartbeats 4000000 in
set_option maxRecDepth 100000 in
theorem rpad_any (A : Option Addr) (n c : Nat) (xs : List Int) (w : World) (hl : xs.length = n) (hn : n ≤ 70368744177) (hx : Bytes w w.heap.size A xs) :
    Calls Tryd.prog 45 #[.slice A n c] w fun e w' => ∃ v, e = .returned v ∧ w'.ownsRow w.heap.size 5 1 v ((n + 72) / 64 * 64) ((padL xs ((n + 72) / 64 * 64)).map u8v) ∧ Below w.heap.size w w' := by
  obtain ⟨v1, w1, hrun1, hown1, hg1⟩ := append_bytes w.heap.size (.slice none 0 0) 0 [] w (World.ownsRow_nil _ _ _ _) A n c w.heap.size xs hl hx (by omega) (Nat.le_refl _)
  have b1 : Below w.heap.size w w1 := below_of_grown hg1 (fun g hg => by simp [Value.ownBlock] at hg) (Nat.le_refl _)
  rw [Nat.zero_add, List.nil_append] at hown1
  obtain ⟨v2, w2, hrun2, hown2, b2⟩ := append_byte w.heap.size v1 n _ w1 128 hown1 (by omega) b1.size
  have HR1 := Lib.hid hrun1
  have HR2 := Lib.hid hrun2
  have O2 : Hid (w2.ownsRow w.heap.size 5 1 v2 (n + 1 + 0) ((headL xs 0).map u8v)) := by
    show World.ownsRow _ _ _ _ _ _ _
    simpa [headL, List.map_append] using hown2
  have B2 := Lib.hid (b1.trans b2)
  have HL := Lib.hid hl
  clear hrun1 hrun2 hown1 hown2 hg1 b2 hx hl
  obtain ⟨q, hq⟩ : ∃ q : Nat, n + 1 + q + 8 = (n + 72) / 64 * 64 := ⟨(n + 72) / 64 * 64 - n - 9, by omega⟩
  have hq1 : (n + 1 + q) % 64 = 56 := by omega
  have hq2 : q < 64 := by omega
  have HQ := Lib.hid hq
  clear hq
  go_enter Tryd.func45, Tryd.ntmps45
  go_wp2_with (first
    | (at_builtin; (with_reducible refine wpList_append_run (o := ⟨some 8, _, _, _, _, _⟩) ?_ (.const (.slice none 0 0)) (.tmp 7) ?_ ?_ ?_ ?_ HR1.out ?_); (rfl); (rfl); (rfl); (rfl); (rfl))
    | (at_builtin; (with_reducible refine wpList_append_run (o := ⟨some 11, _, _, _, _, _⟩) ?_ (.tmp 9) (.tmp 10) ?_ ?_ ?_ ?_ HR2.out ?_); (rfl); (rfl); (rfl); (rfl); (rfl)))
  go_loopw [3] (fun v u => ∃ k : Nat, k ≤ q ∧ Hid (u.ownsRow w.heap.size 5 1 v (n + 1 + k) ((headL xs k).map u8v) ∧ Below w.heap.size w u)) (fun v _ => n + 1 + q - (match v with | .slice _ m _ => m | _ => 0))
  case atStart => exact ⟨0, by omega, O2.out, B2.out⟩
  case round =>
    clear HR1 HR2 O2 B2
    obtain ⟨k, hk, hrows⟩ := hrel
    obtain ⟨hown, hbl⟩ := hrows.out
    obtain ⟨g, cap, rfl⟩ := own_len hown (by omega)
    by_cases hlt : k < q
    · have hne : (((n : Int) + 1 + (k : Int)) % 64 != 56) = true := by simp; omega
      obtain ⟨v', w', hrun, hown', hb2⟩ := append_byte w.heap.size _ _ _ wr 0 hown (by omega) hbl.size
      have HR := Lib.hid hrun
      have OO : Hid (w'.ownsRow w.heap.size 5 1 v' (n + 1 + (k + 1)) ((headL xs (k + 1)).map u8v)) := by
        show World.ownsRow _ _ _ _ _ _ _
        have e : headL xs (k + 1) = headL xs k ++ [0] := by simp [headL, List.replicate_succ']
        rw [e, List.map_append]
        exact hown'
      have BB := Lib.hid (hbl.trans hb2)
      obtain ⟨g', cap', rfl⟩ := own_len OO.out (by omega)
      clear hrun hown' hb2 hown hbl hrows
      go_wp2_with (at_builtin; (with_reducible refine wpList_append_run (o := ⟨some 18, _, _, _, _, _⟩) ?_ (.tmp 16) (.tmp 17) ?_ ?_ ?_ ?_ HR.out ?_); (rfl); (rfl); (rfl); (rfl); (rfl))
      go_roundw
      case rel => exact ⟨k + 1, by omega, OO.out, BB.out⟩
      case measure => show n + 1 + q - (n + 1 + (k + 1)) < n + 1 + q - (n + 1 + k); omega
    · obtain rfl : k = q := by omega
      have hne : (((n : Int) + 1 + (k : Int)) % 64 != 56) = false := by simp; omega
      have R0 := Lib.hid hrows.out
      clear hown hbl hrows
      go_wp2_with fail
      go_loopw [3, 5, 6] (fun v d i u => ∃ j : Nat, j ≤ 8 ∧ i = .int .i64 j ∧ d = .int .u64 (divs j) ∧ Hid (u.ownsRow w.heap.size 5 1 v (n + 1 + k + j) ((headL xs k ++ tailL n j).map u8v) ∧ Below w.heap.size w u)) (fun _ _ i _ => 8 - (intOf i).toNat)
      case atStart =>
        refine ⟨0, by omega, rfl, by rfl, ?_⟩
        have := R0.out
        show _ ∧ _
        simpa [tailL] using this
      case round =>
        clear R0
        obtain ⟨j, hj, rfl, rfl, hrows⟩ := hrel
        obtain ⟨hown, hbl⟩ := hrows.out
        obtain ⟨g1, cap1, rfl⟩ := own_len hown (by omega)
        by_cases hlt : j < 8
        · obtain ⟨ds, d0, d1⟩ := divs_step j hlt
          have DS := Lib.hid ds
          have hT : Hid (tailL n (j + 1) = tailL n j ++ [8 * (n : Int) / divs j % 256]) := rfl
          obtain ⟨v', w', hrun, hown', hb2⟩ := append_byte w.heap.size _ _ _ wr (8 * (n : Int) / divs j % 256) hown (by omega) hbl.size
          have HR := Lib.hid hrun
          have OO : Hid (w'.ownsRow w.heap.size 5 1 v' (n + 1 + k + (j + 1)) ((headL xs k ++ tailL n (j + 1)).map u8v)) := by
            show World.ownsRow _ _ _ _ _ _ _
            rw [hT.out, ← List.append_assoc, List.map_append]
            exact hown'
          have BB := Lib.hid (hbl.trans hb2)
          clear hrun hown' hb2 hown hbl hrows ds
          generalize divs j = d at *
          have p0 : 0 ≤ 8 * (n : Int) / d := Int.ediv_nonneg (by omega) (by omega)
          have p1 : 8 * (n : Int) / d ≤ 8 * (n : Int) := Int.ediv_le_self _ (by omega)
          have p2 : (d == 0) = false := by simp; omega
          go_wp2_with (at_builtin; (with_reducible refine wpList_append_run (o := ⟨some 34, _, _, _, _, _⟩) ?_ (.tmp 27) (.tmp 33) ?_ ?_ ?_ ?_ HR.out ?_); (rfl); (rfl); (rfl); (rfl); (rfl))
          go_roundw
          case rel => exact ⟨j + 1, by omega, by go_num, by rw [DS.out], OO.out, BB.out⟩
          case measure => simp [intOf]; omega
        · obtain rfl : j = 8 := by omega
          have hfin : headL xs k ++ tailL n 8 = padL xs ((n + 72) / 64 * 64) := by
            rw [tailL_all n (by omega)]
            unfold padL headL
            have hq := HQ.out
            rw [HL.out, show (n + 72) / 64 * 64 - 9 - n = k by omega]
          have OF : Hid (wr.ownsRow w.heap.size 5 1 (.slice (some ⟨g1, 0, none⟩) (n + 1 + k + 8) cap1) ((n + 72) / 64 * 64) ((padL xs ((n + 72) / 64 * 64)).map u8v)) := by
            show World.ownsRow _ _ _ _ _ _ _
            rw [← hfin, ← HQ.out]
            exact hown
          have BF := Lib.hid hbl
          clear hown hbl hrows hfin
          go_wp2
          go_ret
          exact ⟨_, rfl, OF.out, BF.out⟩
end Go.Proofs.YtgiacilkecoenaaDoor

/- The walk of the Sum of the reference. -/
namespace Go.Proofs.YtgiacilkecoenaaDoor
open Go.RowKit














theorem firstW_in : firstW.In := ⟨by unfold InW; decide, by unfold InW; decide, by unfold InW; decide, by unfold InW; decide, by unfold InW; decide, by unfold InW; decide, by unfold InW; decide, by unfold InW; decide⟩
theorem sumK_in (p : List Int) : ∀ k, (sumK p k).In
  | 0 => firstW_in
  | _ + 1 => S8.In.add _ _
theorem S8.In.get {s : S8} (h : s.In) (k : Nat) (hk : k < 8) : InW (s.get k) := by
  rcases k with _ | _ | _ | _ | _ | _ | _ | _ | k
  · exact h.a
  · exact h.b
  · exact h.c
  · exact h.d
  · exact h.e
  · exact h.f
  · exact h.g
  · exact h.h
  · omega
theorem V8.below {B : Nat} {v : Value} {st : S8} {u x : World} (h : V8 B v st u) (hb : Below u.heap.size u x) : V8 B v st x := by
  obtain ⟨g, cap, cur, e, hg, hr, hc⟩ := h
  exact ⟨g, cap, cur, e, hg, hr.below hb hr.lt, hc⟩
theorem V8.mono {B B' : Nat} {v : Value} {st : S8} {u : World} (h : V8 B v st u) (hB : B' ≤ B) : V8 B' v st u := by
  obtain ⟨g, cap, cur, e, hg, hr, hc⟩ := h
  exact ⟨g, cap, cur, e, by omega, hr, hc⟩
theorem own_byte {base n g cap : Nat} {l : List Int} {w : World} (h : w.ownsRow base 5 1 (.slice (some ⟨g, 0, none⟩) n cap) n (l.map u8v)) (i : Nat) (hi : i < n) : w.cell? ⟨g, i, none⟩ = some (.int .u8 (l.getD i 0)) := by
  have hl : l.length = n := by have := h.1; simpa using this
  have := h.cells (g := g) rfl i (u8v (l.getD i 0)) (by simp [List.getD, List.getElem?_eq_getElem (by omega : i < l.length)])
  rw [Addr.add_mid, Nat.zero_add] at this
  exact this
/-- What stays while the reference sums: what bytes became, the place of the answer. -/
structure Sums (w : World) (v : Value) (m : Nat) (pp : List Int) (u : World) : Prop where
  b : Below w.heap.size w u
  z : Row u w.heap.size 29 (arrB 32 [])
  p : u.ownsRow (w.heap.size + 1) 5 1 v m (pp.map u8v)
theorem Sums.below {w : World} {v : Value} {m : Nat} {pp : List Int} {u x : World} (h : Sums w v m pp u) (hb : Below u.heap.size u x) : Sums w v m pp x :=
  ⟨h.b.trans (hb.mono h.b.size), h.z.below hb h.z.lt, own_below h.p hb⟩
set_option maxHeartbeats 4000000 in
set_option maxRecDepth 100000 in
theorem rsum_any (A : Option Addr) (n c : Nat) (xs : List Int) (w : World) (hl : xs.length = n) (hn : n ≤ 70368744177) (hx : Bytes w w.heap.size A xs) (hr : ∀ x ∈ xs, 0 ≤ x ∧ x ≤ 255) :
    Calls Tryd.prog 27 #[.slice A n c] w fun e w' => e = .returned (.agg (arrB 32 (sumL xs))) ∧ Below w.heap.size w w' := by
  have HL := Lib.hid hl
  have hsum : Hid (sumL xs = idPre (sumK (padL xs ((n + 72) / 64 * 64)) ((n + 72) / 64)) 8) := by show _ = _; rw [← hl]; rfl
  have HP := Lib.hid (padL_range xs ((n + 72) / 64 * 64) (by omega) hr)
  have hb0 : Below w.heap.size w (w.alloc (.cells (arrB 32 []) 29)) := (Below.refl _ _).alloc (Nat.le_refl _) _
  have HX := Lib.hid (hx.below hb0)
  clear hx hr hl
  go_enter Tryd.func27, Tryd.ntmps27
  go_wp2_with fail
  refine (rpad_any A n c xs _ HL.out hn (fun h => ?_)).mono ?_
  · obtain ⟨ad, e, hlt, hc⟩ := HX.out h
    exact ⟨ad, e, by simp; omega, hc⟩
  rintro e w1 ⟨vp, rfl, hown, b1⟩
  rw [World.size_alloc] at hown b1
  have q1 : (n + 72) / 64 ≤ 1099511629 := by omega
  have q0 : 0 < (n + 72) / 64 := by omega
  generalize padL xs ((n + 72) / 64 * 64) = pp at *
  generalize (n + 72) / 64 = q at *
  obtain ⟨gp, cp, rfl⟩ := own_len hown (by omega)
  have S1 : Sums w (.slice (some ⟨gp, 0, none⟩) (q * 64) cp) (q * 64) pp w1 := ⟨hb0.trans (b1.mono (by omega)), (Row.new w 29 _).below b1 (by omega), hown⟩
  clear hown b1 hb0 HX
  go_wp2_with fail
  refine (first_any w1).mono ?_
  rintro e w2 ⟨rfl, rf, b2⟩
  have S2 := Lib.hid (S1.below b2)
  have z1 := S1.z.lt
  have V2 : Hid (V8 (w.heap.size + 1) (.slice (some ⟨w1.heap.size, 0, none⟩) 8 8) (sumK pp 0) w2) := ⟨w1.heap.size, 8, firstW.cells, rfl, by omega, rf, fun i hi => S8.cells_get firstW i hi⟩
  clear S1 rf b2
  go_wp2_with fail
  go_loopw [4, 5] (fun v i u => ∃ k : Nat, k ≤ q ∧ i = .int .i64 (64 * (k : Int)) ∧ Hid (Sums w (.slice (some ⟨gp, 0, none⟩) (q * 64) cp) (q * 64) pp u ∧ V8 (w.heap.size + 1) v (sumK pp k) u)) (fun _ i _ => q * 64 - (intOf i).toNat)
  case atStart => exact ⟨0, by omega, rfl, S2.out, V2.out⟩
  case round =>
    clear S2 V2
    obtain ⟨k, hk, rfl, hrows⟩ := hrel
    obtain ⟨hS, hV⟩ := hrows.out
    by_cases hlt : k < q
    · obtain ⟨g, cap, cur, rfl, hg, hr, hc⟩ := hV
      have hcp : q * 64 ≤ cp := by
        rcases hS.p.2 with ⟨e, _⟩ | ⟨_, _, _, e, _, _, h1, _⟩
        · cases e
        · injection e with _ _ e3
          omega
      have hcm : cp ≤ maxLen := by
        rcases hS.p.2 with ⟨e, _⟩ | ⟨_, _, _, e, _, _, _, h1, _⟩
        · cases e
        · injection e with _ _ e3
          omega
      unfold maxLen at hcm
      have hgp : gp < wr.heap.size := by
        rcases hS.p.2 with ⟨e, _⟩ | ⟨_, _, _, e, _, h1, _⟩
        · cases e
        · injection e with e1 _ _
          have := Row.lt (t := 5) h1
          injection e1 with e1
          injection e1 with e1 _ _
          omega
      have SH := Lib.hid hS
      have RH := Lib.hid hr
      have CH := Lib.hid hc
      clear hS hr hc hrows
      have a1 : 64 * (k : Int) < (q : Int) * 64 := by omega
      have a2 : 64 * (k : Int) + 64 ≤ (q : Int) * 64 := by omega
      have a3 : ¬ cp = 64 * k := by omega
      go_wp2_with fail
      refine (rwords_any gp (64 * k) 64 (cp - 64 * k) (pp.drop (64 * k)) wr (Nat.le_refl _) hgp (fun i hi => ?_) (getD_range _ (fun x hx => HP.out x (List.mem_of_mem_drop hx)))).mono ?_
      · rw [own_byte SH.out.p (64 * k + i) (by omega)]
        simp [List.getD, List.getElem?_drop]
      rintro e w3 ⟨vw, rfl, how, b3⟩
      have S3 := Lib.hid (SH.out.below b3)
      have R3 := Lib.hid (RH.out.below b3 RH.out.lt)
      have W3 : ∃ gw cw, vw = .slice (some ⟨gw, 0, none⟩) 64 cw ∧ gw < w3.heap.size := by
        rcases how.2 with ⟨_, h0⟩ | ⟨gw, cw, _, e, _, h1, _⟩
        · omega
        · exact ⟨gw, cw, e, Row.lt (t := 59) h1⟩
      obtain ⟨gw, cw, rfl, hgw⟩ := W3
      have OW := Lib.hid how
      clear how b3 SH RH
      go_wp2_with fail
      refine (rrounds_any (sumK pp k) cur g cap gw cw (moreL (pp.drop (64 * k)) 48) w3 (sumK_in pp k) R3.out CH.out (fun i hi => own_cell OW.out i hi) hgw).mono ?_
      rintro e w4 ⟨v4, rfl, hV4, b4⟩
      have S4 := Lib.hid (S3.out.below b4)
      have z3 := S3.out.z.lt
      have V4 : Hid (V8 (w.heap.size + 1) v4 (sumK pp (k + 1)) w4) := hV4.mono (by omega)
      clear hV4 b4 S3 R3 OW CH
      go_wp2
      go_roundw
      case rel => exact ⟨k + 1, by omega, by go_num, S4.out, V4.out⟩
      case measure => simp [intOf]; omega
    · obtain rfl : k = q := by omega
      obtain ⟨g, cap, cur, rfl, hg, hr, hc⟩ := hV
      have hfin : Hid (sumL xs = idPre (sumK pp k) 8) := hsum
      have hin := Lib.hid (sumK_in pp k)
      generalize sumK pp k = st at *
      have hSz := hS.z
      have hSb := hS.b
      have zlt := hSz.lt
      have glt := hr.lt
      have e0 : Row (wr.alloc (.cells (arrB 32 []) 29)) w.heap.size 29 (arrB 32 []) := hSz.alloc _
      have e1 : Row (wr.alloc (.cells (arrB 32 []) 29)) g 59 cur := hr.alloc _
      have e2 : Row (wr.alloc (.cells (arrB 32 []) 29)) wr.heap.size 29 (arrB 32 []) := Row.new wr 29 _
      have e3 : Below w.heap.size w (wr.alloc (.cells (arrB 32 []) 29)) := hSb.alloc hSb.size _
      have E0 := Lib.hid e0
      have E1 := Lib.hid e1
      have E2 := Lib.hid e2
      have E3 := Lib.hid e3
      have CH := Lib.hid hc
      clear hSz hSb hr hS hrows hc e0 e1 e2 e3
      go_wp2_with fail
      generalize wr.heap.size = go at *
      go_loopw [7] (fun i u => ∃ j : Nat, j ≤ 8 ∧ i = .int .i64 j ∧ Hid (Row u w.heap.size 29 (arrB 32 []) ∧ Row u g 59 cur ∧ Row u go 29 (arrB 32 (idPre st j)) ∧ Below w.heap.size w u)) (fun i _ => 8 - (intOf i).toNat)
      case atStart => exact ⟨0, by omega, rfl, E0.out, E1.out, E2.out, E3.out⟩
      case round =>
        clear E0 E1 E2 E3
        obtain ⟨j, hj, rfl, hrows⟩ := hrel
        obtain ⟨r0, r1, r2, hbl⟩ := hrows.out
        by_cases hlt : j < 8
        · have ch : wr.cell? ⟨g, j, none⟩ = some (.int .u32 (st.get j)) := (r1.cell j).trans (CH.out j hlt)
          have e0 := (r2.cell (4 * j)).trans (arrB_get 32 _ (4 * j) (by rw [idPre_len]; omega) (by omega))
          have e1 := (r2.cell (4 * j + 1)).trans (arrB_get 32 _ (4 * j + 1) (by rw [idPre_len]; omega) (by omega))
          have e2 := (r2.cell (4 * j + 2)).trans (arrB_get 32 _ (4 * j + 2) (by rw [idPre_len]; omega) (by omega))
          have e3 := (r2.cell (4 * j + 3)).trans (arrB_get 32 _ (4 * j + 3) (by rw [idPre_len]; omega) (by omega))
          have f0 := r2.frozen (4 * j)
          have f1 := r2.frozen (4 * j + 1)
          have f2 := r2.frozen (4 * j + 2)
          have f3 := r2.frozen (4 * j + 3)
          have HPU := Lib.hid (idPre_put st j hlt)
          obtain ⟨i0, i1⟩ := hin.out.get j hlt
          have R0 := Lib.hid r0
          have R1 := Lib.hid r1
          have R2 := Lib.hid r2
          have BL := Lib.hid hbl
          have hne : ¬ g = go := by omega
          have hne2 : ¬ go = g := by omega
          clear r0 r1 r2 hbl hrows
          generalize st.get j = y at *
          have hyd : Hid (y / 16777216 % 256 = y / 16777216) := by show _ = _; omega
          go_wp2
          go_roundw
          case rel =>
            refine ⟨j + 1, by omega, by go_num, (((R0.out.far (by simp; omega) _).far (by simp; omega) _).far (by simp; omega) _).far (by simp; omega) _, (((R1.out.far (by simp; omega) _).far (by simp; omega) _).far (by simp; omega) _).far (by simp; omega) _, ?_, (((BL.out.setCell (by simp; omega) _).setCell (by simp; omega) _).setCell (by simp; omega) _).setCell (by simp; omega) _⟩
            rw [← HPU.out, hyd.out]
            exact (((R2.out.put _ _).put _ _).put _ _).put _ _
          case measure => simp [intOf]; omega
        · obtain rfl : j = 8 := by omega
          have hsz : Hid ((arrB 32 (idPre st 8)).size = 32 ∧ (arrB 32 []).size = (arrB 32 (idPre st 8)).size ∧ (arrB 32 (idPre st 8)).all (·.oneCell') = true) :=
            Lib.hid ⟨arrB_size _ _ (by rw [idPre_len]; omega), by rw [arrB_size 32 (idPre st 8) (by rw [idPre_len]; omega), arrB_size 32 [] (by simp)], arrB_one _ _⟩
          have HF : Hid (arrB 32 (sumL xs) = arrB 32 (idPre st 8)) := by show _ = _; rw [hfin.out]
          generalize arrB 32 (idPre st 8) = cs at *
          generalize arrB 32 [] = zs at *
          have R0 : Hid (wr.heap[w.heap.size]? = some (.cells zs 29 (0, 0))) := r0
          have R2 : Hid (wr.heap[go]? = some (.cells cs 29 (0, 0))) := r2
          have BL := Lib.hid hbl
          clear r0 r1 r2 hrows hbl
          go_wp2_with (first
            | ((with_reducible refine wpList_load_row (o := ⟨some 70, _, _, _, _, _⟩) ?_ 29 (.tmp 6) ?_ go ?_ 29 cs (0, 0) _ R2.out Tryd.underlying29 ?_ (info26 cs hsz.out.1) ?_); (rfl); (rfl); (rfl); (rfl))
            | ((with_reducible refine wpList_store_row (o := ⟨none, .store 29 _ _, _, _, _, _⟩) ?_ 29 (.tmp 2) (.tmp 70) ?_ w.heap.size cs ?_ ?_ 29 zs R0.out (info26 cs hsz.out.1) hsz.out.2.1 hsz.out.2.2 ?_); (rfl); (rfl); (rfl); (rfl))
            | ((with_reducible refine bodyPost_ret (v := .agg cs) ?_ ?_ ?_); (exact results_cell_row (p := 2) (ty := 29) Tryd.results27 _ _ w.heap.size 29 cs (0, 0) _ rfl (setRow_heap _ _ zs cs 29 (0, 0) R0.out) Tryd.underlying29 rfl (info26 cs hsz.out.1)); (rfl)))
          exact ⟨by rw [HF.out], below_setRow BL.out (Nat.le_refl _) _⟩
end Go.Proofs.YtgiacilkecoenaaDoor

/- Bytes of one's own: made of a row, their cells, their room; appends. -/
namespace Go.Proofs.YtgiacilkecoenaaDoor
open Go.RowKit

theorem own_of_row {w : World} {g B n : Nat} {xs : List Int} (h : Row w g 5 (arrB n xs)) (hl : xs.length = n) (hB : B ≤ g) (hn : n ≤ maxLen) : OwnB w B (.slice (some ⟨g, 0, none⟩) n n) xs := by
  subst hl
  refine ⟨by simp, .inr ⟨g, xs.length, arrB xs.length xs, rfl, hB, h, Nat.le_refl _, hn, by rw [arrB_size _ _ (Nat.le_refl _)]; omega, ?_⟩⟩
  rw [List.take_of_length_le (by rw [Array.length_toList, arrB_size _ _ (Nat.le_refl _)]; omega)]
  simp [arrB]
theorem OwnB.cap {w : World} {B n c : Nat} {A : Option Addr} {xs : List Int} (h : OwnB w B (.slice A n c) xs) : n ≤ c ∧ c ≤ maxLen := by
  rcases h.2 with ⟨e, e2⟩ | ⟨g, cap, cur, e, _, _, h1, h2, _⟩
  · injection e with e1 e3 e4
    subst e3 e4
    exact ⟨Nat.le_refl _, Nat.zero_le _⟩
  · injection e with e1 e3 e4
    subst e3 e4
    exact ⟨h1, h2⟩
theorem OwnB.row {w : World} {B : Nat} {v : Value} {xs : List Int} (h : OwnB w B v xs) (hp : 0 < xs.length) : ∃ g cap, v = .slice (some ⟨g, 0, none⟩) xs.length cap ∧ xs.length ≤ cap ∧ cap ≤ maxLen ∧ B ≤ g ∧ g < w.heap.size ∧ ∀ j, j < xs.length → w.cell? ⟨g, j, none⟩ = some (.int .u8 (xs.getD j 0)) := by
  rcases h.2 with ⟨_, e2⟩ | ⟨g, cap, cur, rfl, h1, hg, h2, h3, _⟩
  · omega
  · refine ⟨g, cap, rfl, h2, h3, h1, Row.lt (t := 5) hg, fun j hj => ?_⟩
    have := h.cells (g := g) rfl j (.int .u8 (xs.getD j 0)) (by simp [List.getD, List.getElem?_eq_getElem hj, u8v])
    rwa [Addr.add_mid, Nat.zero_add] at this
theorem OwnB.up {w : World} {B n c : Nat} {A : Option Addr} {xs : List Int} (h : OwnB w B (.slice A n c) xs) : Bytes w w.heap.size A xs := h.bytes.2
/-- an append to one's own, and what it leaves as it was -/
theorem OwnB.appendG {w : World} {B : Nat} {v : Value} {xs : List Int} (h : OwnB w B v xs) {A : Option Addr} {m c B' : Nat} {ys : List Int} (hl : ys.length = m) (hy : Bytes w B' A ys) (hs : xs.length + m ≤ 70368744177664) (hB : B ≤ w.heap.size) :
    ∃ v' w', (Builtin.append_ #[23, 23] 23 #[v, .slice A m c]).run Tryd.prog w = .ok v' w' ∧ OwnB w' B v' (xs ++ ys) ∧ Below B w w' ∧ w.grownBy w' v.ownBlock := by
  obtain ⟨v', w', h1, h2, h3⟩ := append_bytes B v xs.length (xs.map u8v) w h A m c B' ys hl hy hs hB
  refine ⟨v', w', h1, ?_, below_of_grown h3 (fun g hg => (h.lt g hg).1) hB, h3⟩
  unfold OwnB
  rw [List.length_append, hl, List.map_append]
  exact h2
/-- the zero id's cells, as the model writes them -/
theorem zero_cells : (#[Value.int .u8 0, Value.int .u8 0, Value.int .u8 0, Value.int .u8 0, Value.int .u8 0, Value.int .u8 0, Value.int .u8 0, Value.int .u8 0, Value.int .u8 0, Value.int .u8 0, Value.int .u8 0, Value.int .u8 0, Value.int .u8 0, Value.int .u8 0, Value.int .u8 0, Value.int .u8 0, Value.int .u8 0, Value.int .u8 0, Value.int .u8 0, Value.int .u8 0, Value.int .u8 0, Value.int .u8 0, Value.int .u8 0, Value.int .u8 0, Value.int .u8 0, Value.int .u8 0, Value.int .u8 0, Value.int .u8 0, Value.int .u8 0, Value.int .u8 0, Value.int .u8 0, Value.int .u8 0] : Array Value) = arrB 32 [] := rfl
end Go.Proofs.YtgiacilkecoenaaDoor

/- The reference's Text, Node, Half, Sides. -/
namespace Go.Proofs.YtgiacilkecoenaaDoor
open Go.RowKit

theorem arr_id {x : List Int} (h : x.length = 32) : arrB 32 x = (x.map u8v).toArray := by unfold arrB; rw [h]; simp
theorem row_id {w : World} {g : Nat} {t : TypeId} {x : List Int} (hx : x.length = 32) (h : Row w g t (arrB 32 x)) : Bytes w w.heap.size (some ⟨g, 0, none⟩) x := Bytes.of_row (t := t) (fr := (0, 0)) (by rw [← arr_id hx]; exact h)
set_option maxRecDepth 20000 in
set_option maxHeartbeats 1000000 in
theorem rtext_any (a b : List Int) (w : World) (ha : a.length = 32) (hb : b.length = 32) :
    Calls Tryd.prog 35 #[idv a, idv b] w fun e w' => (∃ v, e = .returned v ∧ OwnB w' w.heap.size v (textT a b)) ∧ Below w.heap.size w w' := by
  obtain ⟨W, hW⟩ : ∃ W, ((w.alloc (.cells (arrB 32 a) 29)).alloc (.cells (arrB 32 b) 29)).alloc (.cells #[.int .u8 1] 5) = W := ⟨_, rfl⟩
  have r0 : Row W w.heap.size 29 (arrB 32 a) := by rw [← hW]; exact ((Row.new w 29 _).alloc _).alloc _
  have r1 : Row W (w.heap.size + 1) 29 (arrB 32 b) := by rw [← hW]; exact (Row.newAt (by simp) 29 _).alloc _
  have r2 : Row W (w.heap.size + 1 + 1) 5 #[.int .u8 1] := by rw [← hW]; exact Row.newAt (by simp) 5 _
  have hbW : Below w.heap.size w W := by rw [← hW]; exact (((Below.refl _ _).alloc (Nat.le_refl _) _).alloc (by simp) _).alloc (by simp; omega) _
  have hs : W.heap.size = w.heap.size + 3 := by rw [← hW]; simp
  have o0 : OwnB W w.heap.size (.slice (some ⟨w.heap.size + 1 + 1, 0, none⟩) 1 1) [1] := own_of_row (n := 1) r2 rfl (by omega) (by decide)
  obtain ⟨v1, w1, hrun1, own1, b1, g1⟩ := o0.appendG (m := 32) (c := 32) ha (row_id ha r0) (by simp) hbW.size
  have hb1 : Bytes w1 w1.heap.size (some ⟨w.heap.size + 1, 0, none⟩) b := by
    have h := g1.block (w.heap.size + 1) (by omega) (by simp [Value.ownBlock])
    exact row_id hb (h.trans r1)
  obtain ⟨v2, w2, hrun2, own2, b2⟩ := own1.append (m := 32) (c := 32) hb hb1 (by simp [ha]) (Nat.le_trans hbW.size b1.size)
  have HR1 := Lib.hid hrun1
  have HR2 := Lib.hid hrun2
  have HO := Lib.hid own2
  have HB := Lib.hid ((hbW.trans b1).trans b2)
  clear hrun1 hrun2 own1 own2 hb1 b1 b2 o0 r0 r1 r2 hbW hs g1
  unfold idv
  generalize arrB 32 a = ca at *
  generalize arrB 32 b = cb at *
  go_enter Tryd.func35, Tryd.ntmps35
  go_wp2_with (first
    | (at_builtin; (with_reducible refine wpList_append_run (o := ⟨some 8, _, _, _, _, _⟩) ?_ (.tmp 6) (.tmp 7) ?_ ?_ ?_ ?_ HR1.out ?_); (rfl); (rfl); (rfl); (rfl); (rfl))
    | (at_builtin; (with_reducible refine wpList_append_run (o := ⟨some 11, _, _, _, _, _⟩) ?_ (.tmp 9) (.tmp 10) ?_ ?_ ?_ ?_ HR2.out ?_); (rfl); (rfl); (rfl); (rfl); (rfl)))
  go_ret
  exact ⟨⟨_, rfl, by simpa [textT] using HO.out⟩, HB.out⟩
/-- a byte's bounds -/
theorem textT_byte {a b : List Int} (ha : ∀ x ∈ a, 0 ≤ x ∧ x ≤ 255) (hb : ∀ x ∈ b, 0 ≤ x ∧ x ≤ 255) : ∀ x ∈ textT a b, 0 ≤ x ∧ x ≤ 255 := by
  intro x hx
  unfold textT at hx
  rcases List.mem_cons.1 hx with h | h
  · omega
  · rcases List.mem_append.1 h with h | h
    · exact ha x h
    · exact hb x h
set_option maxRecDepth 20000 in
set_option maxHeartbeats 1000000 in
theorem rnode_any (a b : List Int) (w : World) (ha : a.length = 32) (hb : b.length = 32) (hA : ∀ x ∈ a, 0 ≤ x ∧ x ≤ 255) (hB : ∀ x ∈ b, 0 ≤ x ∧ x ≤ 255) :
    Calls Tryd.prog 20 #[idv a, idv b] w fun e w' => e = .returned (idv (nodeT a b)) ∧ Below w.heap.size w w' := by
  obtain ⟨W, hW⟩ : ∃ W, ((w.alloc (.cells (arrB 32 a) 29)).alloc (.cells (arrB 32 b) 29)).alloc (.cells (arrB 32 []) 29) = W := ⟨_, rfl⟩
  have r0 : Row W w.heap.size 29 (arrB 32 a) := by rw [← hW]; exact ((Row.new w 29 _).alloc _).alloc _
  have r1 : Row W (w.heap.size + 1) 29 (arrB 32 b) := by rw [← hW]; exact (Row.newAt (by simp) 29 _).alloc _
  have r2 : Row W (w.heap.size + 1 + 1) 29 (arrB 32 []) := by rw [← hW]; exact Row.newAt (by simp) 29 _
  have hbW : Below w.heap.size w W := by rw [← hW]; exact (((Below.refl _ _).alloc (Nat.le_refl _) _).alloc (by simp) _).alloc (by simp; omega) _
  have HT := Lib.hid (rtext_any a b W ha hb)
  have hlen : (textT a b).length = 65 := by unfold textT; simp [ha, hb]
  have HLEN := Lib.hid hlen
  have HBY := Lib.hid (textT_byte hA hB)
  have hsA : Hid ((arrB 32 a).size = 32 ∧ (arrB 32 b).size = 32 ∧ (arrB 32 []).size = 32) := ⟨arrB_size _ _ (by omega), arrB_size _ _ (by omega), arrB_size _ _ (by simp)⟩
  have HS : Hid (sumL (textT a b) = nodeT a b) := rfl
  have hz : Hid ((arrB 32 (nodeT a b)).size = 32 ∧ (arrB 32 (nodeT a b)).all (·.oneCell') = true) := ⟨arrB_size _ _ (by unfold nodeT; rw [sumL_len]; omega), arrB_one _ _⟩
  have R0 : Hid (W.heap[w.heap.size]? = some (.cells (arrB 32 a) 29 (0, 0))) := r0
  have R1 : Hid (W.heap[w.heap.size + 1]? = some (.cells (arrB 32 b) 29 (0, 0))) := r1
  have R2 := Lib.hid r2
  have HB := Lib.hid hbW
  have HW := Lib.hid hW
  clear r0 r1 r2 hbW hW hlen
  unfold idv at *
  generalize arrB 32 a = ca at *
  generalize arrB 32 b = cb at *
  go_enter Tryd.func20, Tryd.ntmps20
  go_upto_region 1 with (fail)
  rw [zero_cells, HW.out]
  go_wp2_with (first
    | ((with_reducible refine wpList_load_row (o := ⟨some 5, _, _, _, _, _⟩) ?_ 29 (.tmp 2) ?_ w.heap.size ?_ 29 ca (0, 0) _ R0.out Tryd.underlying29 ?_ (info26 ca hsA.out.1) ?_); (rfl); (rfl); (rfl); (rfl))
    | ((with_reducible refine wpList_load_row (o := ⟨some 6, _, _, _, _, _⟩) ?_ 29 (.tmp 3) ?_ (w.heap.size + 1) ?_ 29 cb (0, 0) _ R1.out Tryd.underlying29 ?_ (info26 cb hsA.out.2.1) ?_); (rfl); (rfl); (rfl); (rfl)))
  refine HT.out.mono ?_
  rintro e w1 ⟨⟨v, rfl, hv⟩, hb1⟩
  obtain ⟨A1, c1, rfl⟩ := hv.form
  rw [HLEN.out]
  rw [HLEN.out] at hv
  have HSUM := Lib.hid (rsum_any A1 65 c1 (textT a b) w1 HLEN.out (by omega) hv.up HBY.out)
  have R2' := Lib.hid (R2.out.below hb1 R2.out.lt)
  have HB1 := Lib.hid (HB.out.trans (hb1.mono HB.out.size))
  clear hv hb1 HT R0 R1 R2 HB
  go_wp2_with fail
  refine HSUM.out.mono ?_
  rintro e w2 ⟨rfl, hb2⟩
  rw [HS.out]
  have Q0 : Hid (w2.heap[w.heap.size + 1 + 1]? = some (.cells (arrB 32 []) 29 (0, 0))) := R2'.out.below hb2 R2'.out.lt
  have HB2 := Lib.hid (HB1.out.trans (hb2.mono HB1.out.size))
  clear hb2 HSUM R2' HB1
  generalize hcn : arrB 32 (nodeT a b) = cn at *
  have HCN := Lib.hid hcn
  clear hcn
  generalize arrB 32 [] = zs at *
  go_wp2_with (first
    | ((with_reducible refine wpList_store_row (o := ⟨none, .store 29 _ _, _, _, _, _⟩) ?_ 29 (.tmp 4) (.tmp 8) ?_ (w.heap.size + 1 + 1) cn ?_ ?_ 29 zs Q0.out (info26 cn hz.out.1) (by rw [hz.out.1, hsA.out.2.2]) hz.out.2 ?_); (rfl); (rfl); (rfl); (rfl))
    | ((with_reducible refine bodyPost_ret (v := .agg cn) ?_ ?_ ?_); (exact results_cell_row (p := 4) (ty := 29) Tryd.results20 _ _ (w.heap.size + 1 + 1) 29 cn (0, 0) _ rfl (setRow_heap _ _ zs cn 29 (0, 0) Q0.out) Tryd.underlying29 rfl (info26 cn hz.out.1)); (rfl)))
  exact ⟨by rw [HCN.out], below_setRow HB2.out (by omega) _⟩
end Go.Proofs.YtgiacilkecoenaaDoor

/- Slices of ids that are cut; as operations of a region over boxes. -/
namespace Go.Proofs.YtgiacilkecoenaaDoor
open Go.RowKit

theorem isIds.flat_take {l : List (List Int)} (h : isIds l) (k : Nat) : (l.take k).flatten = l.flatten.take (k * 32) := by
  induction l generalizing k with
  | nil => simp
  | cons x l ih =>
    have hx := (h x (List.mem_cons_self ..)).1
    cases k with
    | zero => simp
    | succ k =>
      rw [List.take_succ_cons, List.flatten_cons, List.flatten_cons, ih (fun y hy => h y (List.mem_cons_of_mem _ hy)), List.take_append, List.take_of_length_le (by omega : x.length ≤ (k + 1) * 32), hx, show (k + 1) * 32 - 32 = k * 32 by omega]
theorem isIds.flat_drop {l : List (List Int)} (h : isIds l) (k : Nat) : (l.drop k).flatten = l.flatten.drop (k * 32) := by
  induction l generalizing k with
  | nil => simp
  | cons x l ih =>
    have hx := (h x (List.mem_cons_self ..)).1
    cases k with
    | zero => simp
    | succ k =>
      rw [List.drop_succ_cons, List.flatten_cons, ih (fun y hy => h y (List.mem_cons_of_mem _ hy)), List.drop_append, List.drop_of_length_le (by omega : x.length ≤ (k + 1) * 32), hx, show (k + 1) * 32 - 32 = k * 32 by omega, List.nil_append]
theorem IdsIn.take {w : World} {B : Nat} {A : Option Addr} {l : List (List Int)} (h : IdsIn w B A l) (hl : isIds l) (k : Nat) : IdsIn w B A (l.take k) := by
  unfold IdsIn
  rw [hl.flat_take k]
  exact Bytes.take h _
/-- where a cut slice of ids begins -/
def cutI' (A : Option Addr) (l c : Nat) : Option Addr := if c = l then A else A.map (·.add (l * 32))
theorem add_add32 (a : Addr) (l j : Nat) : (a.add l).add j = a.add (l + j) := by
  unfold Addr.add
  by_cases h : l = 0
  · simp [h]
  · by_cases h2 : j = 0
    · simp [h, h2]
    · simp [h, h2, Nat.add_assoc]
theorem IdsIn.drop {w : World} {B : Nat} {A : Option Addr} {l : List (List Int)} (h : IdsIn w B A l) (hl : isIds l) (k c : Nat) (hc : l.length ≤ c) : IdsIn w B (cutI' A k c) (l.drop k) := by
  intro hp
  have e := hl.flat_drop k
  have hfl := hl.flat_len
  rw [e, List.length_drop] at hp
  obtain ⟨ad, rfl, hlt, hcell⟩ := h (by omega)
  have hne : ¬ c = k := by omega
  refine ⟨ad.add (k * 32), by simp [cutI', hne], by rw [block_of_add]; exact hlt, fun j v hv => ?_⟩
  rw [add_add32]
  refine hcell (k * 32 + j) v ?_
  rw [e, List.map_drop, List.getElem?_drop] at hv
  exact hv
theorem elemI : Tryd.prog.elem 22 = 29 := by simp [Program.elem, Tryd.underlying22]
theorem sizeI (w : World) : (Go.sizeOf 29).run Tryd.prog w = .ok 32 w := by
  have h := infoI
  cases hq : Tryd.prog.info? 29 with
  | none => rw [hq] at h; cases h
  | some i =>
    rw [hq] at h
    simp only [Option.map_some, Option.some.injEq, Prod.mk.injEq] at h
    simp [Go.sizeOf, typeInfo, hq, h.1]
theorem run_cutI_h (A : Option Addr) (n c h : Nat) (w : World) (h2 : h ≤ c) :
    (Instr.sliceAt 22 (.slice A n c) none (some (.int .i64 (h : Int))) none).run Tryd.prog w = .ok (.slice A h c) w := by
  have ht' : Tryd.prog.underlying 22 = some (.slice (Tryd.prog.elem 22)) := by rw [elemI]; exact Tryd.underlying22
  rw [run_sliceAt_slice w _ _ _ _ _ ht', run_slice_h w 22 _ _ _ ht' .i64 _ (by omega) (by omega), elemI, sizeI]
  have e : (fun a : Addr => a.add (0 * 32)) = id := by
    funext a
    simp [Addr.add]
  simp only [Result.andThen, sliced, e, Option.map_id, Int.toNat_natCast, Nat.sub_zero, ite_self, id]
theorem run_cutI_l (A : Option Addr) (n c l : Nat) (w : World) (h1 : l ≤ n) :
    (Instr.sliceAt 22 (.slice A n c) (some (.int .i64 (l : Int))) none none).run Tryd.prog w = .ok (.slice (cutI' A l c) (n - l) (c - l)) w := by
  have ht' : Tryd.prog.underlying 22 = some (.slice (Tryd.prog.elem 22)) := by rw [elemI]; exact Tryd.underlying22
  rw [run_sliceAt_slice w _ _ _ _ _ ht', run_slice_l w 22 _ _ _ ht' .i64 _ (by omega) (by omega), elemI, sizeI]
  simp [Result.andThen, sliced, cutI']
section
variable {a : Act} {dst : Option Tmp} {x l h : Operand} {ty : TypeId} {pos : String} {after : Array Edge} {gd : Option (Nat × Bool)}
theorem cutIh_op {A : Option Addr} {n c j : Nat} (u : World) (h2 : j ≤ c) (hx : a.eval x = .slice A n c) (hh : a.eval h = .int .i64 (j : Int)) :
    (execOp a.eval ⟨dst, .slice 22 x none (some h) none, ty, pos, after, gd⟩).run Tryd.prog u = .ok (.value (.slice A j c)) u := by
  unfold execOp
  simp only [hx, hh, Option.map_some, Option.map_none, Sem.run_bind, Sem.run_pure, Result.andThen_ok, run_cutI_h A n c j u h2]
theorem cutIl_op {A : Option Addr} {n c j : Nat} (u : World) (h2 : j ≤ n) (hx : a.eval x = .slice A n c) (hh : a.eval l = .int .i64 (j : Int)) :
    (execOp a.eval ⟨dst, .slice 22 x (some l) none none, ty, pos, after, gd⟩).run Tryd.prog u = .ok (.value (.slice (cutI' A j c) (n - j) (c - j))) u := by
  unfold execOp
  simp only [hx, hh, Option.map_some, Option.map_none, Sem.run_bind, Sem.run_pure, Result.andThen_ok, run_cutI_l A n c j u h2]
end
end Go.Proofs.YtgiacilkecoenaaDoor
