/- The walk of the rounds of the reference. -/
import Derived.Test.YtlccldnjgaldoaaDoorRef2
import Derived.Test.YtlccldnjgaldoaaDoorBits
import Derived.WalkKit
import Derived.ProofKit
import Derived.Handy
import Derived.Deep.RegionHeld3
import Derived.Deep.RegionLaw
import Derived.Maps.AppendAt
import Derived.Laws.BytesArg
import Derived.OpenShut
import Derived.ChangeKeysEq
import Derived.Lib.SlBytesConst
import Derived.Deep.MidRow
import Derived.Laws.CopyOwn
import Derived.Laws.MakeOwn
import Derived.Deep.WholeRow
import Derived.Deep.Cut
import Derived.Deep.QuietTactic
import Derived.BigQuiet
import Derived.StillTailTactics
import Derived.Lib.Hide
namespace Go.Proofs.YtlccldnjgaldoaaDoor
open Go.RowKit














structure S8.In (s : S8) : Prop where
  a : InW s.a
  b : InW s.b
  c : InW s.c
  d : InW s.d
  e : InW s.e
  f : InW s.f
  g : InW s.g
  h : InW s.h
theorem S8.In.step {s : S8} (h : s.In) (k x : Int) : (s.step k x).In := ⟨InW.mod _, h.a, h.b, h.c, InW.mod _, h.e, h.f, h.g⟩
theorem S8.In.add (s t : S8) : (s.add t).In := ⟨InW.mod _, InW.mod _, InW.mod _, InW.mod _, InW.mod _, InW.mod _, InW.mod _, InW.mod _⟩
theorem runL_in {s : S8} (h : s.In) (ws : List Int) : ∀ k, (runL s ws k).In
  | 0 => h
  | k + 1 => (runL_in h ws k).step _ _
set_option maxRecDepth 100000 in
theorem numbers_any (w : World) : Calls Tryd.prog 25 #[] w fun e w' => e = .returned (.slice (some ⟨w.heap.size, 0, none⟩) 64 64) ∧ Row w' w.heap.size 39 (roundNs.map u32v).toArray ∧ Below w.heap.size w w' := by
  go_enter Tryd.func25, Tryd.ntmps25
  go_wp2
  go_ret
  exact ⟨rfl, Row.new w 39 _, (Below.refl _ _).alloc (Nat.le_refl _) _⟩
theorem first_any (w : World) : Calls Tryd.prog 20 #[] w fun e w' => e = .returned (.slice (some ⟨w.heap.size, 0, none⟩) 8 8) ∧ Row w' w.heap.size 39 firstW.cells ∧ Below w.heap.size w w' := by
  go_enter Tryd.func20, Tryd.ntmps20
  go_wp2
  go_ret
  exact ⟨rfl, Row.new w 39 _, (Below.refl _ _).alloc (Nat.le_refl _) _⟩
theorem roundNs_get (i : Nat) (h : i < 64) : (roundNs.map u32v).toArray[i]? = some (.int .u32 (roundNs.getD i 0)) := by
  have hl : roundNs.length = 64 := rfl
  simp [u32v, List.getD, List.getElem?_eq_getElem (by omega : i < roundNs.length)]
/-- What stays in the rounds: the words at first, the numbers, the words of the bytes. -/
structure Keep (w : World) (hcs : Array Value) (gh gk : Nat) (ws : List Int) (gw : Nat) (u : World) : Prop where
  b : Below w.heap.size w u
  h : Row u gh 39 hcs
  k : Row u gk 39 (roundNs.map u32v).toArray
  w : ∀ i, i < 64 → u.cell? ⟨gw, i, none⟩ = some (.int .u32 (ws.getD i 0))
  lw : gw < u.heap.size
theorem Keep.drewN {w : World} {s : Array Value} {gh gk : Nat} {ws : List Int} {gw : Nat} {u : World} (h : Keep w s gh gk ws gw u) (n : Nat) : Keep w s gh gk ws gw (u.drewN n) := ⟨below_drewN h.b n, h.h, h.k, h.w, h.lw⟩
theorem Keep.below {w : World} {s : Array Value} {gh gk : Nat} {ws : List Int} {gw : Nat} {u x : World} (h : Keep w s gh gk ws gw u) (hb : Below u.heap.size u x) : Keep w s gh gk ws gw x :=
  ⟨h.b.trans (hb.mono h.b.size), h.h.below hb h.h.lt, h.k.below hb h.k.lt, fun i hi => (hb.cell (p := ⟨gw, i, none⟩) h.lw).trans (h.w i hi), Nat.lt_of_lt_of_le h.lw hb.size⟩
theorem Keep.set {w : World} {s : Array Value} {gh : Nat} {ws : List Int} {gw g k : Nat} {u : World} {v : Value} (h : Keep w s gh w.heap.size ws gw u) (hg : w.heap.size + 1 ≤ g) (h1 : gh < w.heap.size) (h2 : gw < w.heap.size) : Keep w s gh w.heap.size ws gw (u.drew.setCell ⟨g, k, none⟩ v) :=
  ⟨h.b.drew.setCell (by simp; omega) _, h.h.drew.far (by simp; omega) _, h.k.drew.far (by simp; omega) _, fun i hi => (World.cell?_setCell_other u.drew ⟨g, k, none⟩ ⟨gw, i, none⟩ v (fun e => by injection e; omega)).trans (h.w i hi), by have := h.lw; simpa [World.setCell] using this⟩
/-- A slice of eight words that lies above a mark, in a block of its own. -/
def V8 (B : Nat) (v : Value) (st : S8) (u : World) : Prop := ∃ g cap cur, v = .slice (some ⟨g, 0, none⟩) 8 cap ∧ B ≤ g ∧ Row u g 39 cur ∧ ∀ i, i < 8 → cur[i]? = some (.int .u32 (st.get i))
set_option maxHeartbeats 8000000 in
set_option maxRecDepth 100000 in
theorem rrounds_any (s : S8) (hcs : Array Value) (gh ch gw cw : Nat) (ws : List Int) (w : World) (hs : s.In) (hh : Row w gh 39 hcs) (hhc : ∀ i, i < 8 → hcs[i]? = some (.int .u32 (s.get i))) (hw : ∀ i, i < 64 → w.cell? ⟨gw, i, none⟩ = some (.int .u32 (ws.getD i 0))) (hwl : gw < w.heap.size) :
    Calls Tryd.prog 21 #[.slice (some ⟨gh, 0, none⟩) 8 ch, .slice (some ⟨gw, 0, none⟩) 64 cw] w fun e w' => ∃ v, e = .returned v ∧ V8 w.heap.size v (s.add (runL s ws 64)) w' ∧ Below w.heap.size w w' := by
  have HW := Lib.hid hw
  have HHC := Lib.hid hhc
  have hgh0 := hh.lt
  clear hw hhc
  go_enter Tryd.func21, Tryd.ntmps21
  go_wp2_with fail
  refine (numbers_any w).mono ?_
  rintro e w1 ⟨rfl, rk, hb1⟩
  have K1 : Keep w hcs gh w.heap.size ws gw w1 := ⟨hb1, hh.below hb1 hh.lt, rk, fun i hi => (hb1.cell (p := ⟨gw, i, none⟩) hwl).trans (HW.out i hi), Nat.lt_of_lt_of_le hwl hb1.size⟩
  have sk := rk.lt
  obtain ⟨v', w', hrun, hown, hgr⟩ := append_words (w.heap.size + 1) (.slice none 0 0) 0 [] w1 (World.ownsRow_nil _ _ _ _) ⟨gh, 0, none⟩ 8 ch [s.a, s.b, s.c, s.d, s.e, s.f, s.g, s.h] rfl (fun j u hu => by
    have hj : j < 8 := by
      rcases Nat.lt_or_ge j 8 with h' | h'
      · exact h'
      · rw [List.getElem?_eq_none (by simpa using h')] at hu
        cases hu
    rw [Addr.add_mid, Nat.zero_add, K1.h.cell j, HHC.out j hj, ← hu]
    rcases j with _ | _ | _ | _ | _ | _ | _ | _ | j <;> first | omega | rfl) (by omega) (by omega)
  have hb2 : Below w1.heap.size w1 w' := below_of_grown hgr (fun g hg => by simp [Value.ownBlock] at hg) (Nat.le_refl _)
  have K2 := Lib.hid (K1.below hb2)
  have V2 : Hid (V8 (w.heap.size + 1) v' s w') := by
    rcases hown.2 with ⟨_, h0⟩ | ⟨g, cap, cur, e, hg, hh, _, _, _, ht⟩
    · omega
    · refine ⟨g, cap, cur, e, hg, hh, fun i hi => ?_⟩
      have h1 : cur.toList[i]? = (cur.toList.take (8 * 1))[i]? := by rw [List.getElem?_take_of_lt (by omega)]
      rw [← Array.getElem?_toList, h1, show (8 * 1) = (0 + 8) * 1 by omega, ht]
      rcases i with _ | _ | _ | _ | _ | _ | _ | _ | i <;> first | omega | rfl
  have HRUN := Lib.hid hrun
  clear hrun hown hgr hb2 K1 rk hb1 hh
  go_wp2_with (at_builtin; (with_reducible refine wpList_append_run (o := ⟨some 16, _, _, _, _, _⟩) ?_ (.const (.slice none 0 0)) (.tmp 15) ?_ ?_ ?_ ?_ HRUN.out ?_); (rfl); (rfl); (rfl); (rfl); (rfl))
  go_loopw [6, 7] (fun v i u => ∃ j : Nat, j ≤ 64 ∧ i = .int .i64 j ∧ Hid (Keep w hcs gh w.heap.size ws gw u ∧ V8 (w.heap.size + 1) v (runL s ws j) u)) (fun _ i _ => 64 - (intOf i).toNat)
  case atStart => exact ⟨0, by omega, rfl, K2.out, V2.out⟩
  case round =>
    clear K2 V2 HRUN
    obtain ⟨j, hj, rfl, hrel2⟩ := hrel
    obtain ⟨hk, hv⟩ := hrel2.out
    by_cases hlt : j < 64
    · obtain ⟨g, cap, cur, rfl, hg, hr, hc⟩ := hv
      have hst : Hid (runL s ws (j + 1) = (runL s ws j).step (roundNs.getD j 0) (ws.getD j 0)) := rfl
      have hin := runL_in hs ws j
      have ek := (hk.k.cell j).trans (roundNs_get j hlt)
      have ew := hk.w j hlt
      have E := Lib.hid hk
      generalize roundNs.getD j 0 = kv at *
      generalize ws.getD j 0 = wv at *
      generalize runL s ws j = st at *
      have e0 : wr.cell? ⟨g, 0, none⟩ = some (.int .u32 st.a) := (hr.cell 0).trans (hc 0 (by omega))
      have e1 : wr.cell? ⟨g, 1, none⟩ = some (.int .u32 st.b) := (hr.cell 1).trans (hc 1 (by omega))
      have e2 : wr.cell? ⟨g, 2, none⟩ = some (.int .u32 st.c) := (hr.cell 2).trans (hc 2 (by omega))
      have e3 : wr.cell? ⟨g, 3, none⟩ = some (.int .u32 st.d) := (hr.cell 3).trans (hc 3 (by omega))
      have e4 : wr.cell? ⟨g, 4, none⟩ = some (.int .u32 st.e) := (hr.cell 4).trans (hc 4 (by omega))
      have e5 : wr.cell? ⟨g, 5, none⟩ = some (.int .u32 st.f) := (hr.cell 5).trans (hc 5 (by omega))
      have e6 : wr.cell? ⟨g, 6, none⟩ = some (.int .u32 st.g) := (hr.cell 6).trans (hc 6 (by omega))
      have e7 : wr.cell? ⟨g, 7, none⟩ = some (.int .u32 st.h) := (hr.cell 7).trans (hc 7 (by omega))
      have T6 : Hid (∀ (u : World) (q : Nat), Calls Tryd.prog 26 #[.int .u32 st.e, .int .i64 6] (u.drewN q) fun e w' => e = .returned (.int .u32 (rotI st.e 6)) ∧ ∃ r, w' = u.drewN r) := fun u q => turn_at st.e hin.e 6 (by omega) (by omega) 6 rfl u q
      have T11 : Hid (∀ (u : World) (q : Nat), Calls Tryd.prog 26 #[.int .u32 st.e, .int .i64 11] (u.drewN q) fun e w' => e = .returned (.int .u32 (rotI st.e 11)) ∧ ∃ r, w' = u.drewN r) := fun u q => turn_at st.e hin.e 11 (by omega) (by omega) 11 rfl u q
      have T25 : Hid (∀ (u : World) (q : Nat), Calls Tryd.prog 26 #[.int .u32 st.e, .int .i64 25] (u.drewN q) fun e w' => e = .returned (.int .u32 (rotI st.e 25)) ∧ ∃ r, w' = u.drewN r) := fun u q => turn_at st.e hin.e 25 (by omega) (by omega) 25 rfl u q
      have T2 : Hid (∀ (u : World) (q : Nat), Calls Tryd.prog 26 #[.int .u32 st.a, .int .i64 2] (u.drewN q) fun e w' => e = .returned (.int .u32 (rotI st.a 2)) ∧ ∃ r, w' = u.drewN r) := fun u q => turn_at st.a hin.a 2 (by omega) (by omega) 2 rfl u q
      have T13 : Hid (∀ (u : World) (q : Nat), Calls Tryd.prog 26 #[.int .u32 st.a, .int .i64 13] (u.drewN q) fun e w' => e = .returned (.int .u32 (rotI st.a 13)) ∧ ∃ r, w' = u.drewN r) := fun u q => turn_at st.a hin.a 13 (by omega) (by omega) 13 rfl u q
      have T22 : Hid (∀ (u : World) (q : Nat), Calls Tryd.prog 26 #[.int .u32 st.a, .int .i64 22] (u.drewN q) fun e w' => e = .returned (.int .u32 (rotI st.a 22)) ∧ ∃ r, w' = u.drewN r) := fun u q => turn_at st.a hin.a 22 (by omega) (by omega) 22 rfl u q
      have hmaj := Lib.hid (maj_eq st.a st.b st.c hin.a hin.b hin.c)
      have hch := Lib.hid (ch_eq st.e st.f st.g hin.e)
      have ie := hin.e
      obtain ⟨ie0, ie1⟩ := ie
      have us : IntKind.u32.wrap (4294967295 - st.e) = 4294967295 - st.e := by rw [IntKind.wrap_u32]; omega
      have hj2 : (j : Int) < 64 := by omega
      clear hr hc hk hrel2 hin
      go_wp2_with fail
      go_quiet ((go_at_call 26; first | (with_reducible exact T6.out _ _) | (with_reducible exact T11.out _ _) | (with_reducible exact T25.out _ _)))
      have f0 : (wr.drewN nq).cell? ⟨g, 0, none⟩ = some (.int .u32 st.a) := e0
      have f1 : (wr.drewN nq).cell? ⟨g, 1, none⟩ = some (.int .u32 st.b) := e1
      have f2 : (wr.drewN nq).cell? ⟨g, 2, none⟩ = some (.int .u32 st.c) := e2
      have f3 : (wr.drewN nq).cell? ⟨g, 3, none⟩ = some (.int .u32 st.d) := e3
      have f4 : (wr.drewN nq).cell? ⟨g, 4, none⟩ = some (.int .u32 st.e) := e4
      have f5 : (wr.drewN nq).cell? ⟨g, 5, none⟩ = some (.int .u32 st.f) := e5
      have f6 : (wr.drewN nq).cell? ⟨g, 6, none⟩ = some (.int .u32 st.g) := e6
      have f7 : (wr.drewN nq).cell? ⟨g, 7, none⟩ = some (.int .u32 st.h) := e7
      have fk : (wr.drewN nq).cell? ⟨w.heap.size, j, none⟩ = some (.int .u32 kv) := ek
      have fw : (wr.drewN nq).cell? ⟨gw, j, none⟩ = some (.int .u32 wv) := ew
      have F : Hid (Keep w hcs gh w.heap.size ws gw (wr.drewN nq)) := E.out.drewN nq
      clear e0 e1 e2 e3 e4 e5 e6 e7 ek ew E
      generalize wr.drewN nq = w2 at *
      clear nq
      have e0 := f0
      have e1 := f1
      have e2 := f2
      have e3 := f3
      have e4 := f4
      have e5 := f5
      have e6 := f6
      have e7 := f7
      have ek := fk
      have ew := fw
      have E := F
      clear f0 f1 f2 f3 f4 f5 f6 f7 fk fw F
      have hs1 : Hid (bits BinOp.xor IntKind.u32 (bits BinOp.xor IntKind.u32 (rotI st.e 6) (rotI st.e 11)) (rotI st.e 25) = sig1 st.e) := rfl
      rw [hs1.out]
      go_wp2_with fail
      go_quiet (fail)
      have f0 : (w2.drewN nq).cell? ⟨g, 0, none⟩ = some (.int .u32 st.a) := e0
      have f1 : (w2.drewN nq).cell? ⟨g, 1, none⟩ = some (.int .u32 st.b) := e1
      have f2 : (w2.drewN nq).cell? ⟨g, 2, none⟩ = some (.int .u32 st.c) := e2
      have f3 : (w2.drewN nq).cell? ⟨g, 3, none⟩ = some (.int .u32 st.d) := e3
      have f4 : (w2.drewN nq).cell? ⟨g, 4, none⟩ = some (.int .u32 st.e) := e4
      have f5 : (w2.drewN nq).cell? ⟨g, 5, none⟩ = some (.int .u32 st.f) := e5
      have f6 : (w2.drewN nq).cell? ⟨g, 6, none⟩ = some (.int .u32 st.g) := e6
      have f7 : (w2.drewN nq).cell? ⟨g, 7, none⟩ = some (.int .u32 st.h) := e7
      have fk : (w2.drewN nq).cell? ⟨w.heap.size, j, none⟩ = some (.int .u32 kv) := ek
      have fw : (w2.drewN nq).cell? ⟨gw, j, none⟩ = some (.int .u32 wv) := ew
      have F : Hid (Keep w hcs gh w.heap.size ws gw (w2.drewN nq)) := E.out.drewN nq
      clear e0 e1 e2 e3 e4 e5 e6 e7 ek ew E
      generalize w2.drewN nq = w3 at *
      clear nq
      have e0 := f0
      have e1 := f1
      have e2 := f2
      have e3 := f3
      have e4 := f4
      have e5 := f5
      have e6 := f6
      have e7 := f7
      have ek := fk
      have ew := fw
      have E := F
      clear f0 f1 f2 f3 f4 f5 f6 f7 fk fw F
      rw [hch.out]
      go_wp2_with fail
      go_quiet (fail)
      have f0 : (w3.drewN nq).cell? ⟨g, 0, none⟩ = some (.int .u32 st.a) := e0
      have f1 : (w3.drewN nq).cell? ⟨g, 1, none⟩ = some (.int .u32 st.b) := e1
      have f2 : (w3.drewN nq).cell? ⟨g, 2, none⟩ = some (.int .u32 st.c) := e2
      have f3 : (w3.drewN nq).cell? ⟨g, 3, none⟩ = some (.int .u32 st.d) := e3
      have f4 : (w3.drewN nq).cell? ⟨g, 4, none⟩ = some (.int .u32 st.e) := e4
      have f5 : (w3.drewN nq).cell? ⟨g, 5, none⟩ = some (.int .u32 st.f) := e5
      have f6 : (w3.drewN nq).cell? ⟨g, 6, none⟩ = some (.int .u32 st.g) := e6
      have f7 : (w3.drewN nq).cell? ⟨g, 7, none⟩ = some (.int .u32 st.h) := e7
      have fk : (w3.drewN nq).cell? ⟨w.heap.size, j, none⟩ = some (.int .u32 kv) := ek
      have fw : (w3.drewN nq).cell? ⟨gw, j, none⟩ = some (.int .u32 wv) := ew
      have F : Hid (Keep w hcs gh w.heap.size ws gw (w3.drewN nq)) := E.out.drewN nq
      clear e0 e1 e2 e3 e4 e5 e6 e7 ek ew E
      generalize w3.drewN nq = w4 at *
      clear nq
      have e0 := f0
      have e1 := f1
      have e2 := f2
      have e3 := f3
      have e4 := f4
      have e5 := f5
      have e6 := f6
      have e7 := f7
      have ek := fk
      have ew := fw
      have E := F
      clear f0 f1 f2 f3 f4 f5 f6 f7 fk fw F
      go_wp2_with fail
      go_quiet ((go_at_call 26; first | (with_reducible exact T2.out _ _) | (with_reducible exact T13.out _ _) | (with_reducible exact T22.out _ _)))
      have f0 : (w4.drewN nq).cell? ⟨g, 0, none⟩ = some (.int .u32 st.a) := e0
      have f1 : (w4.drewN nq).cell? ⟨g, 1, none⟩ = some (.int .u32 st.b) := e1
      have f2 : (w4.drewN nq).cell? ⟨g, 2, none⟩ = some (.int .u32 st.c) := e2
      have f3 : (w4.drewN nq).cell? ⟨g, 3, none⟩ = some (.int .u32 st.d) := e3
      have f4 : (w4.drewN nq).cell? ⟨g, 4, none⟩ = some (.int .u32 st.e) := e4
      have f5 : (w4.drewN nq).cell? ⟨g, 5, none⟩ = some (.int .u32 st.f) := e5
      have f6 : (w4.drewN nq).cell? ⟨g, 6, none⟩ = some (.int .u32 st.g) := e6
      have f7 : (w4.drewN nq).cell? ⟨g, 7, none⟩ = some (.int .u32 st.h) := e7
      have fk : (w4.drewN nq).cell? ⟨w.heap.size, j, none⟩ = some (.int .u32 kv) := ek
      have fw : (w4.drewN nq).cell? ⟨gw, j, none⟩ = some (.int .u32 wv) := ew
      have F : Hid (Keep w hcs gh w.heap.size ws gw (w4.drewN nq)) := E.out.drewN nq
      clear e0 e1 e2 e3 e4 e5 e6 e7 ek ew E
      generalize w4.drewN nq = w5 at *
      clear nq
      have e0 := f0
      have e1 := f1
      have e2 := f2
      have e3 := f3
      have e4 := f4
      have e5 := f5
      have e6 := f6
      have e7 := f7
      have ek := fk
      have ew := fw
      have E := F
      clear f0 f1 f2 f3 f4 f5 f6 f7 fk fw F
      have hs0 : Hid (bits BinOp.xor IntKind.u32 (bits BinOp.xor IntKind.u32 (rotI st.a 2) (rotI st.a 13)) (rotI st.a 22) = sig0 st.a) := rfl
      rw [hs0.out]
      go_wp2_with fail
      go_quiet (fail)
      have f0 : (w5.drewN nq).cell? ⟨g, 0, none⟩ = some (.int .u32 st.a) := e0
      have f1 : (w5.drewN nq).cell? ⟨g, 1, none⟩ = some (.int .u32 st.b) := e1
      have f2 : (w5.drewN nq).cell? ⟨g, 2, none⟩ = some (.int .u32 st.c) := e2
      have f3 : (w5.drewN nq).cell? ⟨g, 3, none⟩ = some (.int .u32 st.d) := e3
      have f4 : (w5.drewN nq).cell? ⟨g, 4, none⟩ = some (.int .u32 st.e) := e4
      have f5 : (w5.drewN nq).cell? ⟨g, 5, none⟩ = some (.int .u32 st.f) := e5
      have f6 : (w5.drewN nq).cell? ⟨g, 6, none⟩ = some (.int .u32 st.g) := e6
      have f7 : (w5.drewN nq).cell? ⟨g, 7, none⟩ = some (.int .u32 st.h) := e7
      have fk : (w5.drewN nq).cell? ⟨w.heap.size, j, none⟩ = some (.int .u32 kv) := ek
      have fw : (w5.drewN nq).cell? ⟨gw, j, none⟩ = some (.int .u32 wv) := ew
      have F : Hid (Keep w hcs gh w.heap.size ws gw (w5.drewN nq)) := E.out.drewN nq
      clear e0 e1 e2 e3 e4 e5 e6 e7 ek ew E
      generalize w5.drewN nq = w6 at *
      clear nq
      have e0 := f0
      have e1 := f1
      have e2 := f2
      have e3 := f3
      have e4 := f4
      have e5 := f5
      have e6 := f6
      have e7 := f7
      have ek := fk
      have ew := fw
      have E := F
      clear f0 f1 f2 f3 f4 f5 f6 f7 fk fw F
      rw [hmaj.out]
      go_wp2_with fail
      go_still_tail 28, (by kernel_rfl)
      change wpList _ _ _ _ _ w6.drew
      go_wp2_with fail
      have hA : Hid ((st.h + sig1 st.e + chI st.e st.f st.g + kv + wv + sig0 st.a + majI st.a st.b st.c) % 4294967296 = (st.step kv wv).a) := by
        show _ = (st.h + sig1 st.e + chI st.e st.f st.g + kv + wv + (sig0 st.a + majI st.a st.b st.c)) % 4294967296
        rw [Int.add_assoc]
      have hk6 := E.out.k.lt
      go_roundw
      case rel =>
        refine ⟨j + 1, by omega, by go_num, E.out.below (Below.drew ((Below.refl _ _).alloc (Nat.le_refl _) _)), w6.heap.size, 8, _, rfl, by omega, Row.new w6 39 _, fun i hi => ?_⟩
        rw [hst.out, hA.out]
        rcases i with _ | _ | _ | _ | _ | _ | _ | _ | i <;> first | omega | rfl
      case measure => simp [intOf]; omega
    · obtain rfl : j = 64 := by omega
      obtain ⟨g, cap, cur, rfl, hg, hr, hc⟩ := hv
      generalize hTT : runL s ws 64 = tt at *
      have HTT := Lib.hid hTT
      clear hTT hrel2
      have R0 := Lib.hid (⟨hk, cur, hr, hc⟩ : Keep w hcs gh w.heap.size ws gw wr ∧ ∃ cur, Row wr g 39 cur ∧ ∀ i, i < 8 → cur[i]? = some (.int .u32 ((tt.addTo s 0).get i)))
      clear hk hr hc
      go_wp2_with fail
      go_loopw [13] (fun i u => ∃ k : Nat, k ≤ 8 ∧ i = .int .i64 k ∧ Hid (Keep w hcs gh w.heap.size ws gw u ∧ ∃ cur, Row u g 39 cur ∧ ∀ i, i < 8 → cur[i]? = some (.int .u32 ((tt.addTo s k).get i)))) (fun i _ => 8 - (intOf i).toNat)
      case atStart => exact ⟨0, by omega, rfl, R0.out⟩
      case round =>
        clear R0
        obtain ⟨k, hk8, rfl, hrel2⟩ := hrel
        obtain ⟨hk, cur, hr, hc⟩ := hrel2.out
        by_cases hlt : k < 8
        · have e0 : wr.cell? ⟨g, k, none⟩ = some (.int .u32 (tt.get k)) := by rw [hr.cell k, hc k hlt, S8.addTo_get tt s k hlt]
          have e1 : wr.cell? ⟨gh, k, none⟩ = some (.int .u32 (s.get k)) := by rw [hk.h.cell k, HHC.out k hlt]
          have f0 := hr.frozen k
          have E := Lib.hid hk
          have R := Lib.hid hr
          have C := Lib.hid hc
          have hput : Hid (∀ i, i < 8 → (tt.addTo s (k + 1)).get i = if i = k then (tt.get k + s.get k) % 4294967296 else (tt.addTo s k).get i) := by
            intro i hi
            rcases k with _ | _ | _ | _ | _ | _ | _ | _ | k <;> first | omega | (rcases i with _ | _ | _ | _ | _ | _ | _ | _ | i <;> first | omega | rfl)
          clear hk hr hc hrel2
          have hl2 : (k : Int) < 8 := by omega
          go_wp2_with fail
          go_still_tail 11, (by kernel_rfl)
          change wpList _ _ _ _ _ wr.drew
          go_wp2
          go_roundw
          case rel =>
            repeat apply Exists.intro
            refine ⟨⟨k + 1, by omega, by go_num, E.out.set hg hgh0 hwl, _, R.out.drew.put k _, fun i hi => ?_⟩, rfl⟩
            have hkc := C.out k hlt
            have hks : k < cur.size := by
              rcases Nat.lt_or_ge k cur.size with h' | h'
              · exact h'
              · rw [Array.getElem?_eq_none h'] at hkc
                cases hkc
            rw [Array.getElem?_setIfInBounds, hput.out i hi]
            by_cases e : k = i
            · subst e
              rw [if_pos rfl, if_pos hks, if_pos rfl]
            · rw [if_neg e, if_neg (fun h => e h.symm)]
              exact C.out i hi
          case measure => simp [intOf]; omega
        · obtain rfl : k = 8 := by omega
          have E := Lib.hid hk
          have R := Lib.hid hr
          have C := Lib.hid hc
          clear hk hr hc hrel2
          go_wp2
          go_ret
          have hadd : s.add (runL s ws 64) = tt.addTo s 8 := by
            rw [HTT.out, S8.addTo_all]
            simp only [S8.add, Int.add_comm]
          exact ⟨_, rfl, ⟨g, cap, cur, rfl, by omega, R.out, by rw [hadd]; exact C.out⟩, E.out.b⟩
end Go.Proofs.YtlccldnjgaldoaaDoor
