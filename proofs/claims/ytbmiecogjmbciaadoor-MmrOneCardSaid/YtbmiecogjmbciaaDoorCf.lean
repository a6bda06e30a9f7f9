/- Part of a proof. -/
import Derived.Test.YtbmiecogjmbciaaDoorCe
import Derived.WalkKit
import Derived.ProofKit
import Derived.Handy
import Derived.Deep.RegionHeld
import Derived.Maps.AppendAt
import Derived.Laws.BytesArg
import Derived.OpenShut
import Derived.ChangeKeysEq
import Derived.Lib.SlBytesConst
import Derived.Deep.MidRow
import Derived.Laws.CopyOwn
import Derived.Laws.MakeOwn
import Derived.Deep.WholeRow
import Derived.Deep.Cut
import Derived.Deep.QuietTactic
import Derived.BigQuiet
import Derived.StillTailTactics
import Derived.Lib.Hide
import Derived.Laws.Bits64b
namespace Go.Proofs.YtbmiecogjmbciaaDoor
set_option maxRecDepth 8000
open Go.RowKit














theorem firstW_in : firstW.In := ⟨by unfold InW; decide, by unfold InW; decide, by unfold InW; decide, by unfold InW; decide, by unfold InW; decide, by unfold InW; decide, by unfold InW; decide, by unfold InW; decide⟩
theorem sumK_in (p : List Int) : ∀ k, (sumK p k).In
  | 0 => firstW_in
  | _ + 1 => S8.In.add _ _
theorem S8.In.get {s : S8} (h : s.In) (k : Nat) (hk : k < 8) : InW (s.get k) := by
  rcases k with _ | _ | _ | _ | _ | _ | _ | _ | k
  · exact h.a
  · exact h.b
  · exact h.c
  · exact h.d
  · exact h.e
  · exact h.f
  · exact h.g
  · exact h.h
  · omega
theorem V8.below {B : Nat} {v : Value} {st : S8} {u x : World} (h : V8 B v st u) (hb : Below u.heap.size u x) : V8 B v st x := by
  obtain ⟨g, cap, cur, e, hg, hr, hc⟩ := h
  exact ⟨g, cap, cur, e, hg, hr.below hb hr.lt, hc⟩
theorem V8.mono {B B' : Nat} {v : Value} {st : S8} {u : World} (h : V8 B v st u) (hB : B' ≤ B) : V8 B' v st u := by
  obtain ⟨g, cap, cur, e, hg, hr, hc⟩ := h
  exact ⟨g, cap, cur, e, by omega, hr, hc⟩
theorem own_byte {base n g cap : Nat} {l : List Int} {w : World} (h : w.ownsRow base 5 1 (.slice (some ⟨g, 0, none⟩) n cap) n (l.map u8v)) (i : Nat) (hi : i < n) : w.cell? ⟨g, i, none⟩ = some (.int .u8 (l.getD i 0)) := by
  have hl : l.length = n := by have := h.1; simpa using this
  have := h.cells (g := g) rfl i (u8v (l.getD i 0)) (by simp [List.getD, List.getElem?_eq_getElem (by omega : i < l.length)])
  rw [Addr.add_mid, Nat.zero_add] at this
  exact this
/-- What stays while the reference sums: what bytes became, the place of the answer. -/
structure Sums (w : World) (v : Value) (m : Nat) (pp : List Int) (u : World) : Prop where
  b : Below w.heap.size w u
  z : Row u w.heap.size 24 (arrB 32 [])
  p : u.ownsRow (w.heap.size + 1) 5 1 v m (pp.map u8v)
theorem Sums.below {w : World} {v : Value} {m : Nat} {pp : List Int} {u x : World} (h : Sums w v m pp u) (hb : Below u.heap.size u x) : Sums w v m pp x :=
  ⟨h.b.trans (hb.mono h.b.size), h.z.below hb h.z.lt, own_below h.p hb⟩
set_option maxHeartbeats 4000000 in
set_option maxRecDepth 100000 in
theorem rsum_any (A : Option Addr) (n c : Nat) (xs : List Int) (w : World) (hl : xs.length = n) (hn : n ≤ 70368744177) (hx : Bytes w w.heap.size A xs) (hr : ∀ x ∈ xs, 0 ≤ x ∧ x ≤ 255) :
    Calls Tryd.prog 50 #[.slice A n c] w fun e w' => e = .returned (.agg (arrB 32 (sumL xs))) ∧ Below w.heap.size w w' := by
  have HL := Lib.hid hl
  have hsum : Hid (sumL xs = idPre (sumK (padL xs ((n + 72) / 64 * 64)) ((n + 72) / 64)) 8) := by show _ = _; rw [← hl]; rfl
  have HP := Lib.hid (padL_range xs ((n + 72) / 64 * 64) (by omega) hr)
  have hb0 : Below w.heap.size w (w.alloc (.cells (arrB 32 []) 24)) := (Below.refl _ _).alloc (Nat.le_refl _) _
  have HX := Lib.hid (hx.below hb0)
  clear hx hr hl
  go_enter Tryd.func50, Tryd.ntmps50
  go_wp2_with fail
  refine (rpad_any A n c xs _ HL.out hn (fun h => ?_)).mono ?_
  · obtain ⟨ad, e, hlt, hc⟩ := HX.out h
    exact ⟨ad, e, by simp; omega, hc⟩
  rintro e w1 ⟨vp, rfl, hown, b1⟩
  rw [World.size_alloc] at hown b1
  have q1 : (n + 72) / 64 ≤ 1099511629 := by omega
  have q0 : 0 < (n + 72) / 64 := by omega
  generalize padL xs ((n + 72) / 64 * 64) = pp at *
  generalize (n + 72) / 64 = q at *
  obtain ⟨gp, cp, rfl⟩ := own_len hown (by omega)
  have S1 : Sums w (.slice (some ⟨gp, 0, none⟩) (q * 64) cp) (q * 64) pp w1 := ⟨hb0.trans (b1.mono (by omega)), (Row.new w 24 _).below b1 (by omega), hown⟩
  clear hown b1 hb0 HX
  go_wp2_with fail
  refine (first_any w1).mono ?_
  rintro e w2 ⟨rfl, rf, b2⟩
  have S2 := Lib.hid (S1.below b2)
  have z1 := S1.z.lt
  have V2 : Hid (V8 (w.heap.size + 1) (.slice (some ⟨w1.heap.size, 0, none⟩) 8 8) (sumK pp 0) w2) := ⟨w1.heap.size, 8, firstW.cells, rfl, by omega, rf, fun i hi => S8.cells_get firstW i hi⟩
  clear S1 rf b2
  go_wp2_with fail
  go_loopw [4, 5] (fun v i u => ∃ k : Nat, k ≤ q ∧ i = .int .i64 (64 * (k : Int)) ∧ Hid (Sums w (.slice (some ⟨gp, 0, none⟩) (q * 64) cp) (q * 64) pp u ∧ V8 (w.heap.size + 1) v (sumK pp k) u)) (fun _ i _ => q * 64 - (intOf i).toNat)
  case atStart => exact ⟨0, by omega, rfl, S2.out, V2.out⟩
  case round =>
    clear S2 V2
    obtain ⟨k, hk, rfl, hrows⟩ := hrel
    obtain ⟨hS, hV⟩ := hrows.out
    by_cases hlt : k < q
    · obtain ⟨g, cap, cur, rfl, hg, hr, hc⟩ := hV
      have hcp : q * 64 ≤ cp := by
        rcases hS.p.2 with ⟨e, _⟩ | ⟨_, _, _, e, _, _, h1, _⟩
        · cases e
        · injection e with _ _ e3
          omega
      have hcm : cp ≤ maxLen := by
        rcases hS.p.2 with ⟨e, _⟩ | ⟨_, _, _, e, _, _, _, h1, _⟩
        · cases e
        · injection e with _ _ e3
          omega
      unfold maxLen at hcm
      have hgp : gp < wr.heap.size := by
        rcases hS.p.2 with ⟨e, _⟩ | ⟨_, _, _, e, _, h1, _⟩
        · cases e
        · injection e with e1 _ _
          have := Row.lt (t := 5) h1
          injection e1 with e1
          injection e1 with e1 _ _
          omega
      have SH := Lib.hid hS
      have RH := Lib.hid hr
      have CH := Lib.hid hc
      clear hS hr hc hrows
      have a1 : 64 * (k : Int) < (q : Int) * 64 := by omega
      have a2 : 64 * (k : Int) + 64 ≤ (q : Int) * 64 := by omega
      have a3 : ¬ cp = 64 * k := by omega
      go_wp2_with fail
      refine (rwords_any gp (64 * k) 64 (cp - 64 * k) (pp.drop (64 * k)) wr (Nat.le_refl _) hgp (fun i hi => ?_) (getD_range _ (fun x hx => HP.out x (List.mem_of_mem_drop hx)))).mono ?_
      · rw [own_byte SH.out.p (64 * k + i) (by omega)]
        simp [List.getD, List.getElem?_drop]
      rintro e w3 ⟨vw, rfl, how, b3⟩
      have S3 := Lib.hid (SH.out.below b3)
      have R3 := Lib.hid (RH.out.below b3 RH.out.lt)
      have W3 : ∃ gw cw, vw = .slice (some ⟨gw, 0, none⟩) 64 cw ∧ gw < w3.heap.size := by
        rcases how.2 with ⟨_, h0⟩ | ⟨gw, cw, _, e, _, h1, _⟩
        · omega
        · exact ⟨gw, cw, e, Row.lt (t := 76) h1⟩
      obtain ⟨gw, cw, rfl, hgw⟩ := W3
      have OW := Lib.hid how
      clear how b3 SH RH
      go_wp2_with fail
      refine (rrounds_any (sumK pp k) cur g cap gw cw (moreL (pp.drop (64 * k)) 48) w3 (sumK_in pp k) R3.out CH.out (fun i hi => own_cell OW.out i hi) hgw).mono ?_
      rintro e w4 ⟨v4, rfl, hV4, b4⟩
      have S4 := Lib.hid (S3.out.below b4)
      have z3 := S3.out.z.lt
      have V4 : Hid (V8 (w.heap.size + 1) v4 (sumK pp (k + 1)) w4) := hV4.mono (by omega)
      clear hV4 b4 S3 R3 OW CH
      go_wp2
      go_roundw
      case rel => exact ⟨k + 1, by omega, by go_num, S4.out, V4.out⟩
      case measure => simp [intOf]; omega
    · obtain rfl : k = q := by omega
      obtain ⟨g, cap, cur, rfl, hg, hr, hc⟩ := hV
      have hfin : Hid (sumL xs = idPre (sumK pp k) 8) := hsum
      have hin := Lib.hid (sumK_in pp k)
      generalize sumK pp k = st at *
      have hSz := hS.z
      have hSb := hS.b
      have zlt := hSz.lt
      have glt := hr.lt
      have e0 : Row (wr.alloc (.cells (arrB 32 []) 24)) w.heap.size 24 (arrB 32 []) := hSz.alloc _
      have e1 : Row (wr.alloc (.cells (arrB 32 []) 24)) g 76 cur := hr.alloc _
      have e2 : Row (wr.alloc (.cells (arrB 32 []) 24)) wr.heap.size 24 (arrB 32 []) := Row.new wr 24 _
      have e3 : Below w.heap.size w (wr.alloc (.cells (arrB 32 []) 24)) := hSb.alloc hSb.size _
      have E0 := Lib.hid e0
      have E1 := Lib.hid e1
      have E2 := Lib.hid e2
      have E3 := Lib.hid e3
      have CH := Lib.hid hc
      clear hSz hSb hr hS hrows hc e0 e1 e2 e3
      go_wp2_with fail
      generalize wr.heap.size = go at *
      go_loopw [7] (fun i u => ∃ j : Nat, j ≤ 8 ∧ i = .int .i64 j ∧ Hid (Row u w.heap.size 24 (arrB 32 []) ∧ Row u g 76 cur ∧ Row u go 24 (arrB 32 (idPre st j)) ∧ Below w.heap.size w u)) (fun i _ => 8 - (intOf i).toNat)
      case atStart => exact ⟨0, by omega, rfl, E0.out, E1.out, E2.out, E3.out⟩
      case round =>
        clear E0 E1 E2 E3
        obtain ⟨j, hj, rfl, hrows⟩ := hrel
        obtain ⟨r0, r1, r2, hbl⟩ := hrows.out
        by_cases hlt : j < 8
        · have ch : wr.cell? ⟨g, j, none⟩ = some (.int .u32 (st.get j)) := (r1.cell j).trans (CH.out j hlt)
          have e0 := (r2.cell (4 * j)).trans (arrB_get 32 _ (4 * j) (by rw [idPre_len]; omega) (by omega))
          have e1 := (r2.cell (4 * j + 1)).trans (arrB_get 32 _ (4 * j + 1) (by rw [idPre_len]; omega) (by omega))
          have e2 := (r2.cell (4 * j + 2)).trans (arrB_get 32 _ (4 * j + 2) (by rw [idPre_len]; omega) (by omega))
          have e3 := (r2.cell (4 * j + 3)).trans (arrB_get 32 _ (4 * j + 3) (by rw [idPre_len]; omega) (by omega))
          have f0 := r2.frozen (4 * j)
          have f1 := r2.frozen (4 * j + 1)
          have f2 := r2.frozen (4 * j + 2)
          have f3 := r2.frozen (4 * j + 3)
          have HPU := Lib.hid (idPre_put st j hlt)
          obtain ⟨i0, i1⟩ := hin.out.get j hlt
          have R0 := Lib.hid r0
          have R1 := Lib.hid r1
          have R2 := Lib.hid r2
          have BL := Lib.hid hbl
          have hne : ¬ g = go := by omega
          have hne2 : ¬ go = g := by omega
          clear r0 r1 r2 hbl hrows
          generalize st.get j = y at *
          have hyd : Hid (y / 16777216 % 256 = y / 16777216) := by show _ = _; omega
          go_wp2
          go_roundw
          case rel =>
            refine ⟨j + 1, by omega, by go_num, (((R0.out.far (by simp; omega) _).far (by simp; omega) _).far (by simp; omega) _).far (by simp; omega) _, (((R1.out.far (by simp; omega) _).far (by simp; omega) _).far (by simp; omega) _).far (by simp; omega) _, ?_, (((BL.out.setCell (by simp; omega) _).setCell (by simp; omega) _).setCell (by simp; omega) _).setCell (by simp; omega) _⟩
            rw [← HPU.out, hyd.out]
            exact (((R2.out.put _ _).put _ _).put _ _).put _ _
          case measure => simp [intOf]; omega
        · obtain rfl : j = 8 := by omega
          have hsz : Hid ((arrB 32 (idPre st 8)).size = 32 ∧ (arrB 32 []).size = (arrB 32 (idPre st 8)).size ∧ (arrB 32 (idPre st 8)).all (·.oneCell') = true) :=
            Lib.hid ⟨arrB_size _ _ (by rw [idPre_len]; omega), by rw [arrB_size 32 (idPre st 8) (by rw [idPre_len]; omega), arrB_size 32 [] (by simp)], arrB_one _ _⟩
          have HF : Hid (arrB 32 (sumL xs) = arrB 32 (idPre st 8)) := by show _ = _; rw [hfin.out]
          generalize arrB 32 (idPre st 8) = cs at *
          generalize arrB 32 [] = zs at *
          have R0 : Hid (wr.heap[w.heap.size]? = some (.cells zs 24 (0, 0))) := r0
          have R2 : Hid (wr.heap[go]? = some (.cells cs 24 (0, 0))) := r2
          have BL := Lib.hid hbl
          clear r0 r1 r2 hrows hbl
          go_wp2_with (first
            | ((with_reducible refine wpList_load_row (o := ⟨some 70, _, _, _, _, _⟩) ?_ 24 (.tmp 6) ?_ go ?_ 24 cs (0, 0) _ R2.out Tryd.underlying24 ?_ (info26 cs hsz.out.1) ?_); (rfl); (rfl); (rfl); (rfl))
            | ((with_reducible refine wpList_store_row (o := ⟨none, .store 24 _ _, _, _, _, _⟩) ?_ 24 (.tmp 2) (.tmp 70) ?_ w.heap.size cs ?_ ?_ 24 zs R0.out (info26 cs hsz.out.1) hsz.out.2.1 hsz.out.2.2 ?_); (rfl); (rfl); (rfl); (rfl))
            | ((with_reducible refine bodyPost_ret (v := .agg cs) ?_ ?_ ?_); (exact results_cell_row (p := 2) (ty := 24) Tryd.results50 _ _ w.heap.size 24 cs (0, 0) _ rfl (setRow_heap _ _ zs cs 24 (0, 0) R0.out) Tryd.underlying24 rfl (info26 cs hsz.out.1)); (rfl)))
          exact ⟨by rw [HF.out], below_setRow BL.out (Nat.le_refl _) _⟩
end Go.Proofs.YtbmiecogjmbciaaDoor

namespace Go.Proofs.YtbmiecogjmbciaaDoor
set_option maxRecDepth 8000
open Go.RowKit

set_option maxRecDepth 20000 in
set_option maxHeartbeats 1000000 in
theorem rhalf_any (n : Nat) (w : World) (h2 : 2 ≤ n) (hn : n ≤ 1099511627776) :
    Calls Tryd.prog 51 #[.int .i64 n] w fun e w' => e = .returned (.int .i64 (halfT n : Nat)) ∧ w = w' := by
  have h2' : (2 : Int) ≤ (n : Int) := by omega
  go_enter Tryd.func51, Tryd.ntmps51
  go_wp2_with fail
  go_loopw [3] (fun v u => ∃ k f : Nat, v = .int .i64 k ∧ 1 ≤ k ∧ k < n ∧ Hid (n ≤ k * 2 ^ f ∧ halfGo n f k = halfT n) ∧ u = w) (fun v _ => n - (intOf v).toNat)
  case atStart =>
    refine ⟨1, n, rfl, Nat.le_refl _, by omega, ⟨?_, rfl⟩, rfl⟩
    rw [Nat.one_mul]
    exact Nat.le_of_lt Nat.lt_two_pow_self
  case round =>
    obtain ⟨k, f, rfl, hk1, hkn, hh, rfl⟩ := hrel
    obtain ⟨hf, hg⟩ := hh.out
    clear hh
    by_cases hlt : 2 * k < n
    · have hlt2 : 2 * (k : Int) < (n : Int) := by omega
      obtain ⟨f, rfl⟩ : ∃ f', f = f' + 1 := by
        cases f with
        | zero => rw [Nat.pow_zero, Nat.mul_one] at hf; omega
        | succ f => exact ⟨f, rfl⟩
      have HN : Hid (n ≤ (2 * k) * 2 ^ f ∧ halfGo n f (2 * k) = halfT n) := by
        refine ⟨?_, ?_⟩
        · rw [Nat.pow_succ] at hf
          rw [Nat.mul_comm 2 k, Nat.mul_assoc, Nat.mul_comm 2]
          exact hf
        · rw [halfGo, if_pos hlt] at hg
          exact hg
      clear hf hg
      go_wp2
      go_roundw
      case rel => exact ⟨2 * k, f, by go_num, by omega, by omega, HN, trivial⟩
      case measure => simp [intOf]; omega
    · have hlt2 : ¬ 2 * (k : Int) < (n : Int) := by omega
      have HK : Hid (halfT n = k) := by
        show _ = _
        rw [← hg]
        cases f with
        | zero => rfl
        | succ f => rw [halfGo, if_neg hlt]
      clear hf hg
      go_wp2
      go_ret
      exact ⟨by rw [HK.out]; rfl, rfl⟩
/-- truths of one's own -/
def OwnF (w : World) (B : Nat) (v : Value) (l : List Bool) : Prop := w.ownsRow B 4 1 v l.length (l.map Value.bool)
theorem OwnF.nil (w : World) (B : Nat) : OwnF w B (.slice none 0 0) [] := World.ownsRow_nil _ _ _ _
theorem OwnF.less {w : World} {B B' : Nat} {v : Value} {l : List Bool} (h : OwnF w B v l) (hB : B' ≤ B) : OwnF w B' v l := by
  refine ⟨h.1, ?_⟩
  rcases h.2 with h0 | ⟨g, cap, cur, e, hg, hh, h1⟩
  · exact .inl h0
  · exact .inr ⟨g, cap, cur, e, by omega, hh, h1⟩
theorem infoF : (Tryd.prog.info? 4).map (fun i => (i.zero, i.size, i.bytes)) = some (some (.bool false), 1, 1) := by kernel_rfl
theorem OwnF.append {w : World} {B : Nat} {v : Value} {l : List Bool} (h : OwnF w B v l) (b : Bool) (hs : l.length ≤ 1000000) (hB : B ≤ w.heap.size) :
    ∃ v' w', (Builtin.append_ #[67, 67] 67 #[v, .slice (some ⟨w.heap.size, 0, none⟩) 1 1]).run Tryd.prog (w.alloc (.cells #[.bool b] 4)) = .ok v' w' ∧ OwnF w' B v' (l ++ [b]) ∧ Below B w w' := by
  cases hq : Tryd.prog.info? 4 with
  | none => have := infoF; rw [hq] at this; cases this
  | some i =>
    have hi := infoF
    rw [hq] at hi
    simp only [Option.map_some, Option.some.injEq, Prod.mk.injEq] at hi
    obtain ⟨h1, h2, h3⟩ := hi
    have hown := World.ownsRow.alloc (o := .cells #[.bool b] 4) h
    obtain ⟨v', w', hrun, hown', hg, _⟩ := run_append_own_at (P := Tryd.prog) (w.alloc (.cells #[.bool b] 4)) B 67 67 4 i (.bool false) 1 1 Tryd.underlying67 hq h1 h2 h3 rfl (by decide) v l.length (l.map Value.bool) hown
      ⟨w.heap.size, 0, none⟩ 1 1 [.bool b] rfl (cell_one_new _ _ _) (by intro u hu; cases List.mem_singleton.1 hu; rfl) (by unfold maxLen; omega) (by omega) (by simp; omega)
    refine ⟨v', w', hrun, ?_, ?_⟩
    · unfold OwnF
      rw [List.length_append, List.map_append]
      exact hown'
    · exact ((Below.refl B w).alloc hB _).trans (below_of_grown hg (fun r hr => (hown.lt r hr).1) (by simp; omega))
end Go.Proofs.YtbmiecogjmbciaaDoor

namespace Go.Proofs.YtbmiecogjmbciaaDoor
set_option maxRecDepth 8000
open Go.RowKit

theorem sumL_byte (xs : List Int) : ∀ x ∈ sumL xs, 0 ≤ x ∧ x ≤ 255 := by
  have h : ∀ (s : S8) (k : Nat), ∀ x ∈ idPre s k, 0 ≤ x ∧ x ≤ 255 := by
    intro s k
    induction k with
    | zero => intro x hx; cases hx
    | succ k ih =>
      intro x hx
      unfold idPre at hx
      rcases List.mem_append.1 hx with h | h
      · exact ih x h
      · unfold bytes4 at h
        simp at h
        omega
  unfold sumL
  exact h _ _
theorem wpList_load_run {P : Program} {ops : Array Oper} {rest : List Oper} {o : Oper} {a : Act} {w : World} {Q : Exit → Act → World → Prop} {v : Value} (hgd : o.guard = none) (ty : TypeId) (x : Operand) (ho : o.op = .load ty x) (ad : Addr) (hx : a.eval x = .pointer (some ad))
    (hrun : (loadVar ty ad).run P w = .ok v w) (h : wpList P ops Q rest (a.put o.dst v) w) : wpList P ops Q (o :: rest) a w :=
  wpList_plain hgd fun _ hK => by
    unfold Oper.wp execOp
    simp only [ho, hx, Instr.loadAt, Instr.sureAddr, Sem.run_bind, Sem.run_pure, Result.andThen_ok, hrun]
    exact hK _ _ h
end Go.Proofs.YtbmiecogjmbciaaDoor

namespace Go.Proofs.YtbmiecogjmbciaaDoor
set_option maxRecDepth 8000
open Go.RowKit

theorem run_callV {P : Program} {a : Act} {x : Operand} {f : FuncId} {caps args all : Array Value} {xs : Array Operand} {ats : Array TypeId} {fn : Func} {c : Code} {dst : Option Tmp} {ty : TypeId} {pos : String} {after : Array Edge} {gd : Option (Nat × Bool)} (hx : a.eval x = .func (.func f) #[] caps) (hargs : xs.toList.map a.eval = args.toList)
    (hall : args.toList ++ caps.toList = all.toList) (hfn : P.funcs[f]? = some fn) (hname : (fn.name == "runtime.NumGoroutine") = false) (hb : fn.body = some c) (u : World) :
    (execOp a.eval ⟨dst, .call { callee := .value x, args := xs, argTypes := ats }, ty, pos, after, gd⟩).run P u = .ok (.enter f all) u := by
  have ha : xs.map a.eval = args := by
    apply Array.ext'
    rw [Array.toList_map]
    exact hargs
  have h2 : args ++ caps = all := by
    apply Array.ext'
    rw [Array.toList_append]
    exact hall
  unfold execOp
  simp only [resolve, hx, ha, Deferred.ofValue, invoke, Sem.run_bind, Sem.run_pure, Result.andThen_ok, Array.empty_append, h2]
  exact run_enter hfn hname hb _ u
section
variable {P : Program} {l : List Oper} {C : World → Prop} {Q : Act → Prop} {a : Act} {i : Nat} {rest : List Nat} {dst : Option Tmp} {ty : TypeId} {pos : String} {after : Array Edge} {gd : Option (Nat × Bool)}
theorem wpG_callV {f : FuncId} {x : Operand} {xs : Array Operand} {ats : Array TypeId} {fn : Func} {c : Code} {v : Value} {args caps all : Array Value} (ho : l[i]? = some ⟨dst, .call { callee := .value x, args := xs, argTypes := ats }, ty, pos, after, gd⟩)
    (hw : Region.wanted ⟨dst, .call { callee := .value x, args := xs, argTypes := ats }, ty, pos, after, gd⟩ (yielded l.toArray a.tmps) = true)
    (hx : a.eval x = .func (.func f) #[] caps) (hargs : xs.toList.map a.eval = args.toList) (hall : args.toList ++ caps.toList = all.toList) (hfn : P.funcs[f]? = some fn) (hname : (fn.name == "runtime.NumGoroutine") = false) (hb : fn.body = some c)
    (hcall : ∀ u, C u → Calls P f all u (fun e w'' => e = .returned v ∧ Below u.heap.size u w''))
    (h : ∀ K : Act → Prop, (∀ a, wpG P l C Q rest a → K a) → Oper.quiet P ⟨dst, .move (.const v), ty, pos, after, gd⟩ a C K) {u0 : World} (h0 : C u0) : wpG P l C Q (i :: rest) a := by
  refine ⟨?_⟩
  unfold wpG0
  simp only [ho]
  rw [if_pos hw]
  obtain ⟨v', hv, hK⟩ := h (wpG0 P l C Q rest) (fun _ h => h.out)
  have e : v' = v := by
    have h1 := hv u0 h0
    unfold Oper.quietAt execOp at h1
    exact h1.2.symm
  rw [e] at hK
  refine ⟨v, fun u hu => ?_, hK⟩
  unfold GAt
  rw [run_callV hx hargs hall hfn hname hb u]
  exact ⟨rfl, hcall u hu⟩
theorem hOp_putAt {P : Program} {ops : Array Oper} {w0 : World} {i : Nat} {K : Act → Boxes → Prop} {a : Act} {M : Boxes} {ty : TypeId} {pos : String} {after : Array Edge} {ty' : TypeId} {x y : Operand} (ho : ops[i]? = some ⟨none, .store ty' x y, ty, pos, after, none⟩)
    (g k : Nat) (v : Value) (hx : a.eval x = .pointer (some ⟨g, k, none⟩)) (hy : a.eval y = v) (hg : w0.heap.size ≤ g) (t : TypeId) (old cs : Array Value) (hm : (g, Obj.cells old t (0, 0)) ∈ M)
    (hi : (P.info? ty').map (·.size) = some v.cells.size) (hk : k + v.cells.size ≤ old.size) (h1 : v.cells.all (·.oneCell') = true) (hcs : old.toList.take k ++ v.cells.toList ++ old.toList.drop (k + v.cells.size) = cs.toList) (M' : Boxes) (hM' : ∀ x ∈ M', x = (g, Obj.cells cs t (0, 0)) ∨ (x ∈ M ∧ x.1 ≠ g))
    (h : (∃ u, EnvX w0 u M') → K a M') : hOp P ops w0 i K a M := hOp_storeAt ho g k v hx hy hg t old cs hm hi hk h1 hcs M' hM' h
end
section
variable {a : Act} {dst : Option Tmp} {x y : Operand} {ty : TypeId} {pos : String} {after : Array Edge} {gd : Option (Nat × Bool)}
theorem sizeOf_info {e : TypeId} {z : Nat} (h : (Tryd.prog.info? e).map (·.size) = some z) (u : World) : (sizeOf e).run Tryd.prog u = .ok z u := by
  cases hq : Tryd.prog.info? e with
  | none => rw [hq] at h; cases h
  | some k =>
    rw [hq] at h
    simp only [Option.map_some, Option.some.injEq] at h
    simp [sizeOf, typeInfo, hq, h]
theorem idxSl_op {t e : TypeId} {z : Nat} (hu : Tryd.prog.underlying t = some (.slice e)) (hz : (Tryd.prog.info? e).map (·.size) = some z) {ad : Addr} {n c i : Nat} (hi : i < n) (u : World)
    (hx : a.eval x = .slice (some ad) n c) (hy : a.eval y = .int .i64 (i : Int)) :
    (execOp a.eval ⟨dst, .indexAddr t x y, ty, pos, after, gd⟩).run Tryd.prog u = .ok (.value (.pointer (some (ad.add (i * z))))) u := by
  have he : Tryd.prog.elem t = e := by simp [Program.elem, hu]
  have hr := run_indexAt_slice (P := Tryd.prog) u t ad n c .i64 (i : Int) (by rw [he]; exact hu)
  rw [he, if_pos ⟨by omega, by omega⟩, sizeOf_info hz u, Result.andThen_ok, Int.toNat_natCast] at hr
  unfold execOp
  simp only [hx, hy, Sem.run_bind, Sem.run_pure, hr, Result.andThen_ok]
theorem len_op {t e : TypeId} (hu : Tryd.prog.underlying t = some (.slice e)) {A : Option Addr} {n c : Nat} (hn : n < 9223372036854775808) (u : World) (hx : a.eval x = .slice A n c) :
    (execOp a.eval ⟨dst, .call { callee := .builtin .len, args := #[x], argTypes := #[t] }, ty, pos, after, gd⟩).run Tryd.prog u = .ok (.value (.int .i64 (n : Int))) u := by
  have he : Tryd.prog.elem t = e := by simp [Program.elem, hu]
  have hr := run_len_slice (P := Tryd.prog) u t ty A n c (by rw [he]; exact hu)
  have hg : goInt n = .int .i64 (n : Int) := rfl
  unfold execOp
  simp only [resolve, invoke, builtin, Sem.run_bind, Sem.run_pure, Result.andThen_ok, List.map_toArray, List.map_cons, List.map_nil, hx, hr, hg]
end
end Go.Proofs.YtbmiecogjmbciaaDoor

namespace Go.Proofs.YtbmiecogjmbciaaDoor
set_option maxRecDepth 8000
open Go.RowKit

theorem elB : ElemT 72 5 1 1 (.int .u8 0) := ⟨Tryd.underlying72, by kernel_rfl, rfl, by decide, by decide, by decide⟩
theorem u8_one {xs : List Int} : ∀ u ∈ xs.map u8v, u.oneCell' = true := fun u hu => by
  obtain ⟨z, _, rfl⟩ := List.mem_map.1 hu
  rfl
theorem EnvX.three {w : World} (o1 o2 o3 : Obj) : EnvX w (((w.alloc o1).alloc o2).alloc o3) [(w.heap.size + 1 + 1, o3), (w.heap.size + 1, o2), (w.heap.size, o1)] := by
  have h := ((EnvX.start w).two o1 o2).new o3
  have hs : ((w.alloc o1).alloc o2).heap.size = w.heap.size + 1 + 1 := by simp
  rw [hs] at h
  exact h
/-- a new total's cells, as the model writes them -/
theorem zero_totA : (#[Value.int .u8 0, Value.int .u8 0, Value.int .u8 0, Value.int .u8 0, Value.int .u8 0, Value.int .u8 0, Value.int .u8 0, Value.int .u8 0, Value.int .u8 0, Value.int .u8 0, Value.int .u8 0, Value.int .u8 0, Value.int .u8 0, Value.int .u8 0, Value.int .u8 0, Value.int .u8 0, Value.int .u8 0, Value.int .u8 0, Value.int .u8 0, Value.int .u8 0, Value.int .u8 0, Value.int .u8 0, Value.int .u8 0, Value.int .u8 0, Value.int .u8 0, Value.int .u8 0, Value.int .u8 0, Value.int .u8 0, Value.int .u8 0, Value.int .u8 0, Value.int .u8 0, Value.int .u8 0, Value.int .u64 0, Value.int .u64 0, Value.int .u64 0, Value.int .u64 0, Value.int .i64 0] : Array Value) = totA zTot := by kernel_rfl
theorem zero_wcs : (#[Value.int .u64 0, Value.int .u64 0, Value.int .u64 0, Value.int .u64 0] : Array Value) = wcs 0 := rfl
section
variable {a : Act} {dst : Option Tmp} {x y z : Operand} {ty : TypeId} {pos : String} {after : Array Edge} {gd : Option (Nat × Bool)}
theorem sliceArr_op {ad : Addr} (u : World) (hx : a.eval x = .pointer (some ad)) :
    (execOp a.eval ⟨dst, .slice 24 x none none none, ty, pos, after, gd⟩).run Tryd.prog u = .ok (.value (.slice (some ad) 32 32)) u := by
  unfold execOp
  simp only [hx]
  go_simp
theorem conv_u64_op {n : Int} {m : Nat} (u : World) (h : IntKind.u64.wrap n = (m : Int)) (hx : a.eval x = .int .i64 n) :
    (execOp a.eval ⟨dst, .convert 3 25 x, ty, pos, after, gd⟩).run Tryd.prog u = .ok (.value (.int .u64 (m : Int))) u := by
  rw [← h]
  unfold execOp
  simp only [hx]
  go_simp
theorem new_wd (a : Act) : NewAt Tryd.prog ⟨dst, .alloc 27, ty, pos, after, gd⟩ a (.cells (wcs 0) 27 (0, 0)) := fun u => by
  rw [← zero_wcs]
  go_simp
theorem new_tot (a : Act) : NewAt Tryd.prog ⟨dst, .alloc 29, ty, pos, after, gd⟩ a (.cells (totA zTot) 29 (0, 0)) := fun u => by
  rw [← zero_totA]
  go_simp
/-- one new byte -/
theorem FAt_byte1 (k : Int) (u : World) : FAt Tryd.prog ⟨dst, .buildSlice 72 1 #[(0, .const (.int .u8 k))], ty, pos, after, gd⟩ a (fun v N => ∃ g, v = .slice (some ⟨g, 0, none⟩) 1 1 ∧ N = [(g, Obj.cells #[.int .u8 k] 5 (0, 0))]) u := by
  have h : (execOp a.eval ⟨dst, .buildSlice 72 1 #[(0, .const (.int .u8 k))], ty, pos, after, gd⟩).run Tryd.prog u = .ok (.value (.slice (some ⟨u.heap.size, 0, none⟩) 1 1)) (u.alloc (.cells #[.int .u8 k] 5)) := by
    unfold execOp
    go_simp
  unfold FAt
  rw [h]
  refine ⟨(Below.refl _ _).alloc (Nat.le_refl _) _, _, ⟨_, rfl, rfl⟩, fun y hy => ?_⟩
  cases List.mem_singleton.1 hy
  exact ⟨Nat.le_refl _, heap_alloc_new u _⟩
/-- three new parts -/
theorem FAt_rows3 {A0 A1 A2 : Option Addr} {n0 n1 n2 c0 c1 c2 : Nat} (hx : a.eval x = .slice A0 n0 c0) (hy : a.eval y = .slice A1 n1 c1) (hz : a.eval z = .slice A2 n2 c2) (u : World) :
    FAt Tryd.prog ⟨dst, .buildSlice 75 3 #[(0, x), (1, y), (2, z)], ty, pos, after, gd⟩ a (fun v N => ∃ g, v = .slice (some ⟨g, 0, none⟩) 3 3 ∧ N = [(g, Obj.cells #[.slice A0 n0 c0, .slice A1 n1 c1, .slice A2 n2 c2] 72 (0, 0))]) u := by
  have h : (execOp a.eval ⟨dst, .buildSlice 75 3 #[(0, x), (1, y), (2, z)], ty, pos, after, gd⟩).run Tryd.prog u = .ok (.value (.slice (some ⟨u.heap.size, 0, none⟩) 3 3)) (u.alloc (.cells #[.slice A0 n0 c0, .slice A1 n1 c1, .slice A2 n2 c2] 72)) := by
    unfold execOp
    simp only [List.map_toArray, List.map_cons, List.map_nil, hx, hy, hz]
    go_simp
  unfold FAt
  rw [h]
  refine ⟨(Below.refl _ _).alloc (Nat.le_refl _) _, _, ⟨_, rfl, rfl⟩, fun y hy => ?_⟩
  cases List.mem_singleton.1 hy
  exact ⟨Nat.le_refl _, heap_alloc_new u _⟩
theorem addW_op {m k : Int} (u : World) (hx : a.eval x = .int .i64 m) (hy : a.eval y = .int .i64 k) :
    (execOp a.eval ⟨dst, .binOp .add 3 x y 3, ty, pos, after, gd⟩).run Tryd.prog u = .ok (.value (.int .i64 (IntKind.i64.wrap (m + k)))) u := by
  unfold execOp
  simp only [hx, hy]
  go_simp
end
theorem arrId_map {h : List Int} (hh : h.length = 32) : (arrB 32 h).toList = h.map u8v := by
  unfold arrB
  rw [hh]
  simp
theorem t_src {t : Tot} (h : len32 t) : ((totA t).toList.drop 0).take (t.h.map u8v).length = t.h.map u8v := by
  have := totC_H h
  rw [arrId_map h] at this
  rwa [List.length_map, h]
theorem b_src (n : Nat) : ((arrB 32 (listF (bytesOf n))).toList.drop 0).take ((listF (bytesOf n)).map u8v).length = (listF (bytesOf n)).map u8v := by
  rw [arrId_map (listF_len _), List.drop_zero, List.take_length]
theorem partT_len {t : Tot} (h : len32 t) : (partT t).length = 68 := by
  unfold partT
  rw [List.length_append, List.length_append, listF_len, putL_len, h]
theorem partT_byte {t : Tot} (h : okT t) : ∀ x ∈ partT t, 0 ≤ x ∧ x ≤ 255 := fun x hx => by
  unfold partT at hx
  rcases List.mem_append.1 hx with e | e
  · exact h.1.2 x e
  · rcases List.mem_append.1 e with e | e
    · obtain ⟨i, _, rfl⟩ := List.mem_map.1 e
      have := byteAt_lt t.w i
      unfold bytesOf
      omega
    · exact putL_byte _ 4 x e
theorem box_wide {w0 u : World} {M : Boxes} {g : Nat} {ty : TypeId} {n : Nat} (hu : EnvC w0 M u) (hm : (g, Obj.cells (wcs n) ty (0, 0)) ∈ M) : (loadVar 27 ⟨g, 0, none⟩).run Tryd.prog u = .ok (.agg (wcs n)) u := by
  have := box_agg aggWd (k := 0) hu hm (wcs n).toList (wcs_list n) (by rw [List.drop_zero, List.take_of_length_le (by rw [wcs_list]; omega)])
  rwa [agg_list] at this
theorem parts_three {w : World} {B g : Nat} {a a' a'' : Option Addr} {c c' c'' : Nat} {xs ys zs : List Int} (hg : g < B) (hc : w.cell? ⟨g, 0, none⟩ = some (.slice a xs.length c)) (hx : Bytes w B a xs) (hr : ∀ x ∈ xs, 0 ≤ x ∧ x ≤ 255)
    (hc' : w.cell? ⟨g, 1, none⟩ = some (.slice a' ys.length c')) (hy : Bytes w B a' ys) (hr' : ∀ x ∈ ys, 0 ≤ x ∧ x ≤ 255) (hc'' : w.cell? ⟨g, 2, none⟩ = some (.slice a'' zs.length c'')) (hz : Bytes w B a'' zs) (hr'' : ∀ x ∈ zs, 0 ≤ x ∧ x ≤ 255) : Parts w B (some ⟨g, 0, none⟩) [xs, ys, zs] := by
  intro k vs hk
  rcases k with _ | _ | _ | k
  · obtain rfl : xs = vs := by simpa using hk
    exact ⟨g, 0, a, c, rfl, hg, hc, hx, hr⟩
  · obtain rfl : ys = vs := by simpa using hk
    exact ⟨g, 0, a', c', rfl, hg, hc', hy, hr'⟩
  · obtain rfl : zs = vs := by simpa using hk
    exact ⟨g, 0, a'', c'', rfl, hg, hc'', hz, hr''⟩
  · simp at hk
/-- bytes in a box -/
theorem boxR_bytes {w0 u : World} {M : Boxes} {g cap n : Nat} {cur : Array Value} {xs : List Int} (hu : EnvC w0 M u) (hm : (g, Obj.cells cur 5 (0, 0)) ∈ M) (hl : xs.length = n) (h : n ≤ cap ∧ cap ≤ maxLen ∧ cur.size = cap * 1 ∧ cur.toList.take (n * 1) = xs.map u8v) : Bytes u u.heap.size (some ⟨g, 0, none⟩) xs := by
  subst hl
  exact box_bytes hu hm h
theorem sumL_id (xs : List Int) : (sumL xs).length = 32 ∧ ∀ x ∈ sumL xs, 0 ≤ x ∧ x ≤ 255 := ⟨sumL_len _, sumL_byte _⟩
theorem join_ok {a b : Tot} : okT (joinT a b) := by
  refine ⟨sumL_id _, Nat.mod_lt _ (by unfold Big; decide), ?_⟩
  unfold joinT
  simp only
  rw [IntKind.wrap_i64]
  omega
theorem infoTot (cs : Array Value) (h : cs.size = 37) : (Tryd.prog.info? 29).map (·.size) = some cs.size := by rw [h]; exact aggTot.size
theorem noTot_ok : okT noTot := ⟨sumL_id _, by unfold Big; decide, by decide, by decide⟩
end Go.Proofs.YtbmiecogjmbciaaDoor

namespace Go.Proofs.YtbmiecogjmbciaaDoor
set_option maxRecDepth 8000
open Go.RowKit

set_option maxHeartbeats 4000000 in
theorem bytes_any (a : Nat) (w : World) :
    Calls Tryd.prog 60 #[.agg (wcs a)] w fun e w' => e = .returned (.agg (idF (bytesOf a))) ∧ Below w.heap.size w w' := by
  go_enter Tryd.func60, Tryd.ntmps60
  go_wp2_with fail
  go_loopw [6] (fun i u => ∃ k : Nat, k ≤ 32 ∧ i = .int .i64 k ∧ Below w.heap.size w u ∧ Hid (Row u w.heap.size 27 (wcs a) ∧ Row u (w.heap.size + 1) 24 (arrB 32 []) ∧ Row u (w.heap.size + 1 + 1) 24 (idF (fun i => if i < k then bytesOf a i else 0)))) (fun i _ => 32 - (intOf i).toNat)
  case atStart =>
    refine ⟨0, by omega, rfl, by go_grown, ((Row.new w 27 _).alloc _).alloc _, (Row.newAt (by simp) 24 _).alloc _, ?_⟩
    have e : idF (fun i => if i < 0 then bytesOf a i else 0) = arrB 32 [] := by rw [idF_zero]; exact idF_congr _ _ (fun i _ => by simp)
    rw [e]
    exact Row.newAt (by simp) 24 _
  case round =>
    obtain ⟨k, hk, rfl, hbl, hrows⟩ := hrel
    obtain ⟨r0, r1, r2⟩ := hrows.out
    by_cases hlt : k < 32
    · have hk0 : (0 : Int) ≤ (k : Int) := by omega
      have hk4 : (k : Int) < 32 := by omega
      have e0 : wr.cell? ⟨w.heap.size, 3 - k / 8, none⟩ = some (.int .u64 (W a (3 - k / 8))) := (r0.cell _).trans (wc_get a _ (by omega))
      have e2 := (r2.cell k).trans (idF_get _ k hlt)
      have f2 := r2.frozen k
      have R0 := Lib.hid r0
      have R1 := Lib.hid r1
      have R2 := Lib.hid r2
      have hput : Hid ((idF (fun i => if i < k then bytesOf a i else 0)).setIfInBounds k (.int .u8 (bytesOf a k)) = idF (fun i => if i < k + 1 then bytesOf a i else 0)) := by
        show _ = _
        refine idF_put _ _ k _ hlt (by simp) (fun i _ hne => ?_)
        by_cases hik : i < k
        · rw [if_pos hik, if_pos (by omega)]
        · rw [if_neg hik, if_neg (by omega)]
      have q0 : 0 ≤ 3 - (k : Int) / 8 := by omega
      have q1 : 3 - (k : Int) / 8 < 4 := by omega
      have q2 : (0 : Int) ≤ 7 - (k : Int) % 8 := by omega
      have q3 : 7 - (k : Int) % 8 < 8 := by omega
      have hv : Hid ((W a (3 - k / 8) : Int) / 2 ^ (8 * (7 - k % 8)) % 256 = bytesOf a k) := by
        show _ = _
        unfold bytesOf
        rw [← byte_word a k hlt, shrW]
        omega
      have hW := W_lt a (3 - k / 8)
      clear r0 r1 r2 hrows
      generalize W a (3 - k / 8) = x at *
      generalize (if k < k then bytesOf a k else 0) = z at *
      have hx0 : (0 : Int) ≤ (x : Int) := by omega
      go_wp2_with (go_at_call 74; refine (ofbyte_any _ _ (by omega) (by omega)).mono ?_; rintro e w' ⟨rfl, rfl⟩)
      go_roundw
      case rel =>
        refine ⟨k + 1, by omega, by go_num, hbl.setCell (by simp; omega) _, R0.out.farAt (by omega) _, R1.out.farAt (by omega) _, ?_⟩
        rw [← hput.out, ← hv.out]
        exact R2.out.put k _
      case measure => simp [intOf]; omega
    · obtain rfl : k = 32 := by omega
      have hE : idF (fun i => if i < 32 then bytesOf a i else 0) = idF (bytesOf a) := idF_congr _ _ (fun i hi => by rw [if_pos hi])
      rw [hE] at r2
      have hsz := Lib.hid (idF_size (bytesOf a))
      have hz0 := Lib.hid (arrB_size 32 [] (by simp))
      have ho := Lib.hid (idF_one (bytesOf a))
      have R1 : Hid (wr.heap[w.heap.size + 1]? = some (.cells (arrB 32 []) 24 (0, 0))) := r1
      have R2 : Hid (wr.heap[w.heap.size + 1 + 1]? = some (.cells (idF (bytesOf a)) 24 (0, 0))) := r2
      clear r0 r1 r2 hrows hE
      generalize hE2 : idF (bytesOf a) = cs at *
      have HE := Lib.hid hE2
      clear hE2
      generalize arrB 32 [] = zs at *
      go_wp2_with (first
        | ((with_reducible refine wpList_load_row (o := ⟨some 23, _, _, _, _, _⟩) ?_ 24 (.tmp 3) ?_ (w.heap.size + 1 + 1) ?_ 24 cs (0, 0) _ R2.out Tryd.underlying24 ?_ (infoId cs hsz.out) ?_); (rfl); (rfl); (rfl); (rfl))
        | ((with_reducible refine wpList_store_row (o := ⟨none, .store 24 _ _, _, _, _, _⟩) ?_ 24 (.tmp 2) (.tmp 23) ?_ (w.heap.size + 1) cs ?_ ?_ 24 zs R1.out (infoId cs hsz.out) (by rw [hz0.out, hsz.out]) ho.out ?_); (rfl); (rfl); (rfl); (rfl))
        | ((with_reducible refine bodyPost_ret (v := .agg cs) ?_ ?_ ?_); (exact results_cell_row (p := 2) (ty := 24) Tryd.results60 _ _ (w.heap.size + 1) 24 cs (0, 0) _ rfl (setRow_heap _ _ zs cs 24 (0, 0) R1.out) Tryd.underlying24 rfl (infoId cs hsz.out)); (rfl)))
      exact ⟨by rw [HE.out], below_setRow hbl (by omega) _⟩
end Go.Proofs.YtbmiecogjmbciaaDoor

namespace Go.Proofs.YtbmiecogjmbciaaDoor
set_option maxRecDepth 8000
open Go.RowKit
set_option maxHeartbeats 4000000 in
theorem rbytes_any (a : Nat) (w : World) :
    Calls Tryd.prog 63 #[.agg (wcs a)] w fun e w' => e = .returned (.agg (idF (bytesOf a))) ∧ Below w.heap.size w w' := by
  go_enter Tryd.func63, Tryd.ntmps63
  go_wp2_with fail
  go_loopw [4] (fun i u => ∃ k : Nat, k ≤ 32 ∧ i = .int .i64 k ∧ Below w.heap.size w u ∧ Hid (Row u w.heap.size 27 (wcs a) ∧ Row u (w.heap.size + 1) 24 (arrB 32 []) ∧ Row u (w.heap.size + 1 + 1) 24 (idF (fun i => if 32 - k ≤ i then bytesOf a i else 0)))) (fun i _ => 32 - (intOf i).toNat)
  case atStart =>
    refine ⟨0, by omega, rfl, by go_grown, ((Row.new w 27 _).alloc _).alloc _, (Row.newAt (by simp) 24 _).alloc _, ?_⟩
    have e : idF (fun i => if 32 - 0 ≤ i then bytesOf a i else 0) = arrB 32 [] := by rw [idF_zero]; exact idF_congr _ _ (fun i hi => by rw [if_neg (by omega)])
    rw [e]
    exact Row.newAt (by simp) 24 _
  case round =>
    obtain ⟨k, hk, rfl, hbl, hrows⟩ := hrel
    obtain ⟨r0, r1, r2⟩ := hrows.out
    by_cases hlt : k < 32
    · have hk0 : (0 : Int) ≤ (k : Int) := by omega
      have hk4 : (k : Int) < 32 := by omega
      have e0 : wr.cell? ⟨w.heap.size, k / 8, none⟩ = some (.int .u64 (W a (k / 8))) := (r0.cell _).trans (wc_get a _ (by omega))
      have e2 := (r2.cell (31 - k)).trans (idF_get _ (31 - k) (by omega))
      have f2 := r2.frozen (31 - k)
      have R0 := Lib.hid r0
      have R1 := Lib.hid r1
      have R2 := Lib.hid r2
      have hput : Hid ((idF (fun i => if 32 - k ≤ i then bytesOf a i else 0)).setIfInBounds (31 - k) (.int .u8 (bytesOf a (31 - k))) = idF (fun i => if 32 - (k + 1) ≤ i then bytesOf a i else 0)) := by
        show _ = _
        refine idF_put _ _ (31 - k) _ (by omega) (by rw [if_pos (by omega)]) (fun i _ hne => ?_)
        by_cases hik : 32 - k ≤ i
        · rw [if_pos hik, if_pos (by omega)]
        · rw [if_neg hik, if_neg (by omega)]
      have hv : Hid (((W a (k / 8) / 256 ^ (k % 8) : Nat) : Int) % 256 = bytesOf a (31 - k)) := by
        show _ = _
        unfold bytesOf
        rw [← byte_ref a k hlt]
        omega
      have hW := W_lt a (k / 8)
      clear r0 r1 r2 hrows
      generalize W a (k / 8) = x at *
      generalize (if 32 - k ≤ 31 - k then bytesOf a (31 - k) else 0) = z at *
      have hx0 : (0 : Int) ≤ (x : Int) := by omega
      go_wp2_with fail
      go_loop [5, 6] (fun n j => ∃ i : Nat, i ≤ k % 8 ∧ j = .int .i64 i ∧ n = .int .u64 ((x / 256 ^ i : Nat) : Int)) (fun _ j => k % 8 - (intOf j).toNat)
      case atStart => exact ⟨0, by omega, rfl, by simp⟩
      case round =>
        obtain ⟨i, hi, rfl, rfl⟩ := hrel
        by_cases hil : i < k % 8
        · have hi1 : (i : Int) < (k : Int) % 8 := by omega
          have hp : Hid ((x / 256 ^ i : Nat) / 256 = x / 256 ^ (i + 1)) := by show _ = _; rw [Nat.div_div_eq_div_mul, ← Nat.pow_succ]
          have hyx : x / 256 ^ i ≤ x := Nat.div_le_self _ _
          generalize x / 256 ^ i = y at *
          have hyw : IntKind.u64.wrap ((y : Int) / 256) = (y : Int) / 256 := by rw [IntKind.wrap_u64]; omega
          go_wp2
          go_round
          case rel => exact ⟨i + 1, by omega, by go_num, congrArg (Value.int .u64) (by rw [← hp.out]; omega)⟩
          case measure => simp [intOf]; omega
        · obtain rfl : i = k % 8 := by omega
          have hi1 : ¬ (((k % 8 : Nat) : Int) < (k : Int) % 8) := by omega
          have hy : x / 256 ^ (k % 8) ≤ x := Nat.div_le_self _ _
          generalize x / 256 ^ (k % 8) = y at *
          go_wp2
          refine ⟨⟨k + 1, by omega, by go_num, hbl.setCell (by simp; omega) _, R0.out.farAt (by omega) _, R1.out.farAt (by omega) _, ?_⟩, by simp [intOf]; omega⟩
          rw [← hput.out, ← hv.out]
          exact R2.out.put (31 - k) _
    · obtain rfl : k = 32 := by omega
      have hE : idF (fun i => if 32 - 32 ≤ i then bytesOf a i else 0) = idF (bytesOf a) := idF_congr _ _ (fun i hi => by rw [if_pos (by omega)])
      rw [hE] at r2
      have hsz := Lib.hid (idF_size (bytesOf a))
      have hz0 := Lib.hid (arrB_size 32 [] (by simp))
      have ho := Lib.hid (idF_one (bytesOf a))
      have R1 : Hid (wr.heap[w.heap.size + 1]? = some (.cells (arrB 32 []) 24 (0, 0))) := r1
      have R2 : Hid (wr.heap[w.heap.size + 1 + 1]? = some (.cells (idF (bytesOf a)) 24 (0, 0))) := r2
      clear r0 r1 r2 hrows hE
      generalize hE2 : idF (bytesOf a) = cs at *
      have HE := Lib.hid hE2
      clear hE2
      generalize arrB 32 [] = zs at *
      go_wp2_with (first
        | ((with_reducible refine wpList_load_row (o := ⟨some 29, _, _, _, _, _⟩) ?_ 24 (.tmp 3) ?_ (w.heap.size + 1 + 1) ?_ 24 cs (0, 0) _ R2.out Tryd.underlying24 ?_ (infoId cs hsz.out) ?_); (rfl); (rfl); (rfl); (rfl))
        | ((with_reducible refine wpList_store_row (o := ⟨none, .store 24 _ _, _, _, _, _⟩) ?_ 24 (.tmp 2) (.tmp 29) ?_ (w.heap.size + 1) cs ?_ ?_ 24 zs R1.out (infoId cs hsz.out) (by rw [hz0.out, hsz.out]) ho.out ?_); (rfl); (rfl); (rfl); (rfl))
        | ((with_reducible refine bodyPost_ret (v := .agg cs) ?_ ?_ ?_); (exact results_cell_row (p := 2) (ty := 24) Tryd.results63 _ _ (w.heap.size + 1) 24 cs (0, 0) _ rfl (setRow_heap _ _ zs cs 24 (0, 0) R1.out) Tryd.underlying24 rfl (infoId cs hsz.out)); (rfl)))
      exact ⟨by rw [HE.out], below_setRow hbl (by omega) _⟩
end Go.Proofs.YtbmiecogjmbciaaDoor

namespace Go.Proofs.YtbmiecogjmbciaaDoor
set_option maxRecDepth 8000
open Go.RowKit

theorem maysize_any (s : Int) (w : World) :
    Calls Tryd.prog 76 #[.int .i64 s] w fun e w' => e = .returned (.bool (decide (0 ≤ s ∧ s ≤ 8))) ∧ w = w' := by
  by_cases h0 : 0 ≤ s
  · by_cases h1 : s ≤ 8
    · go_enter Tryd.func76, Tryd.ntmps76
      go_wp2
      go_ret
      exact ⟨by simp [h0, h1], rfl⟩
    · go_enter Tryd.func76, Tryd.ntmps76
      go_wp2
      go_ret
      exact ⟨by simp [h1], rfl⟩
  · go_enter Tryd.func76, Tryd.ntmps76
    go_wp2
    go_ret
    exact ⟨by simp; omega, rfl⟩
theorem putL_head (n i : Nat) : putL n (i + 1) = ((n / 256 ^ i % 256 : Nat) : Int) :: putL n i := by
  induction i generalizing n with
  | zero => simp [putL]
  | succ i ih =>
    show putL (n / 256) (i + 1) ++ [((n % 256 : Nat) : Int)] = _
    rw [ih, List.cons_append, Nat.div_div_eq_div_mul, Nat.pow_succ, Nat.mul_comm (256 ^ i) 256]
    rfl
theorem put_set (n k i : Nat) (h : i < k) : (arrB k (List.replicate (k - i) 0 ++ putL n i)).setIfInBounds (k - 1 - i) (.int .u8 ((n / 256 ^ i % 256 : Nat) : Int)) = arrB k (List.replicate (k - (i + 1)) 0 ++ putL n (i + 1)) := by
  have hl : ∀ j, j ≤ k → (List.replicate (k - j) (0 : Int) ++ putL n j).length = k := fun j hj => by rw [List.length_append, List.length_replicate, putL_len]; omega
  obtain ⟨d, rfl⟩ : ∃ d, k = d + 1 + i := ⟨k - 1 - i, by omega⟩
  rw [show d + 1 + i - i = d + 1 by omega, show d + 1 + i - 1 - i = d by omega, show d + 1 + i - (i + 1) = d by omega, putL_head, List.replicate_succ', List.append_assoc]
  have hl1 := hl i (by omega)
  have hl2 := hl (i + 1) (by omega)
  rw [show d + 1 + i - i = d + 1 by omega, List.replicate_succ', List.append_assoc] at hl1
  rw [show d + 1 + i - (i + 1) = d by omega, putL_head] at hl2
  apply arrB_ext
  · omega
  · rw [Array.size_setIfInBounds, arrB_size _ _ (by omega)]
  · intro t ht
    rw [Array.getElem?_setIfInBounds, arrB_size _ _ (by omega)]
    by_cases e : d = t
    · subst e
      rw [if_pos rfl, if_pos (by omega)]
      simp [List.getD]
    · rw [if_neg e, arrB_get _ _ _ (by omega) ht]
      congr 2
      by_cases hlt : t < d
      · simp [List.getD, List.getElem?_append_left, hlt]
      · obtain ⟨s, rfl⟩ : ∃ s, t = d + (s + 1) := ⟨t - d - 1, by omega⟩
        simp [List.getD, List.getElem?_append_right]
set_option maxHeartbeats 1000000 in
theorem put_any (n k : Nat) (w : World) (hn : n < 18446744073709551616) (hk : k ≤ 8) :
    Calls Tryd.prog 62 #[.int .u64 n, .int .i64 k] w fun e w' => (∃ v, e = .returned v ∧ OwnB w' w.heap.size v (putL n k)) ∧ Below w.heap.size w w' := by
  have k8 : (k : Int) ≤ 8 := by omega
  have d0 : (decide (0 ≤ (k : Int) ∧ (k : Int) ≤ 8)) = true := by simp; omega
  go_enter Tryd.func62, Tryd.ntmps62
  go_wp2_with fail
  refine (maysize_any (k : Int) w).mono ?_
  rintro e w1 ⟨rfl, rfl⟩
  rw [d0]
  go_wp2_with fail
  rw [make_bytes k (by omega)]
  go_wp2_with fail
  go_loopw [13] (fun i u => ∃ j : Nat, j ≤ k ∧ i = .int .i64 j ∧ Below w.heap.size w u ∧ Hid (Row u w.heap.size 5 (arrB k (List.replicate (k - j) 0 ++ putL n j)))) (fun i _ => k - (intOf i).toNat)
  case atStart =>
    refine ⟨0, by omega, rfl, by go_grown, ?_⟩
    have e : arrB k (List.replicate (k - 0) 0 ++ putL n 0) = arrB k [] := by simp [putL, arrB]
    rw [e]
    exact Row.new w 5 _
  case round =>
    obtain ⟨j, hj, rfl, hbl, hrows⟩ := hrel
    have r0 := hrows.out
    by_cases hlt : j < k
    · have hlt2 : (j : Int) < (k : Int) := by omega
      have hj8 : (j : Int) < 8 := by omega
      have hj0 : (0 : Int) ≤ (j : Int) := by omega
      have hset := put_set n k j hlt
      have e0 := (r0.cell (k - 1 - j)).trans (arrB_get k _ (k - 1 - j) (by rw [List.length_append, List.length_replicate, putL_len]; omega) (by omega))
      have f0 := r0.frozen (k - 1 - j)
      have hv : Hid ((n : Int) / 2 ^ (8 * j) % 256 = ((n / 256 ^ j % 256 : Nat) : Int)) := by
        show _ = _
        rw [show (256 : Nat) = 2 ^ 8 from rfl, ← Nat.pow_mul]
        simp
      have HS := Lib.hid hset
      have R0 := Lib.hid r0
      clear hset r0 hrows
      generalize (List.replicate (k - j) 0 ++ putL n j).getD (k - 1 - j) 0 = z at *
      generalize arrB k (List.replicate (k - j) 0 ++ putL n j) = cs at *
      go_wp2_with fail
      go_roundw
      case rel =>
        refine ⟨j + 1, by omega, by go_num, hbl.setCell (by simp) _, ?_⟩
        rw [← HS.out, ← hv.out]
        exact R0.out.put _ _
      case measure => simp [intOf]; omega
    · obtain rfl : j = k := by omega
      have r1 : Row wr w.heap.size 5 (arrB j (putL n j)) := by simpa using r0
      go_wp2
      go_ret
      exact ⟨⟨_, rfl, own_of_row r1 (putL_len _ _) (Nat.le_refl _) (by unfold maxLen; omega)⟩, hbl⟩
end Go.Proofs.YtbmiecogjmbciaaDoor

namespace Go.Proofs.YtbmiecogjmbciaaDoor
set_option maxRecDepth 8000
open Go.RowKit

set_option maxHeartbeats 1000000 in
theorem rput_any (n k : Nat) (w : World) (hn : n < 18446744073709551616) (hk : k ≤ 8) :
    Calls Tryd.prog 64 #[.int .u64 n, .int .i64 k] w fun e w' => (∃ v, e = .returned v ∧ OwnB w' w.heap.size v (putL n k)) ∧ Below w.heap.size w w' := by
  have k8 : ¬ (8 : Int) < (k : Int) := by omega
  have k0 : ¬ (k : Int) < 0 := by omega
  go_enter Tryd.func64, Tryd.ntmps64
  go_wp2_with fail
  rw [make_bytes k (by omega)]
  go_wp2_with fail
  go_loopw [6, 0] (fun i x u => ∃ j : Nat, j ≤ k ∧ i = .int .i64 ((k : Int) - 1 - j) ∧ x = .int .u64 ((n / 256 ^ j : Nat) : Int) ∧ Below w.heap.size w u ∧ Hid (Row u w.heap.size 5 (arrB k (List.replicate (k - j) 0 ++ putL n j)))) (fun i _ _ => (intOf i + 1).toNat)
  case atStart =>
    refine ⟨0, by omega, by go_num, by simp, by go_grown, ?_⟩
    have e : arrB k (List.replicate (k - 0) 0 ++ putL n 0) = arrB k [] := by simp [putL, arrB]
    rw [e]
    exact Row.new w 5 _
  case round =>
    obtain ⟨j, hj, rfl, rfl, hbl, hrows⟩ := hrel
    have r0 := hrows.out
    obtain ⟨q, hq⟩ : ∃ q, n / 256 ^ j = q := ⟨_, rfl⟩
    have hq64 : q < 18446744073709551616 := by rw [← hq]; exact Nat.lt_of_le_of_lt (Nat.div_le_self _ _) hn
    have hq2 : Hid (n / 256 ^ (j + 1) = q / 256) := by show _ = _; rw [← hq, Nat.pow_succ, Nat.div_div_eq_div_mul]
    have HQ := Lib.hid hq
    rw [hq]
    clear hq
    by_cases hlt : j < k
    · obtain ⟨t, ht⟩ : ∃ t : Nat, k - 1 - j = t := ⟨_, rfl⟩
      have ht2 : (k : Int) - 1 - (j : Int) = (t : Int) := by omega
      rw [ht2]
      have htk : t < k := by omega
      have htk2 : (t : Int) < (k : Int) := by omega
      have hset := put_set n k j hlt
      rw [HQ.out, ht] at hset
      have e0 := (r0.cell t).trans (arrB_get k _ t (by rw [List.length_append, List.length_replicate, putL_len]; omega) (by omega))
      have f0 := r0.frozen t
      have hv : Hid ((q : Int) % 256 = ((q % 256 : Nat) : Int)) := by show _ = _; omega
      have HS := Lib.hid hset
      have R0 := Lib.hid r0
      have HT := Lib.hid ht
      clear hset r0 hrows ht
      generalize (List.replicate (k - j) 0 ++ putL n j).getD t 0 = z at *
      generalize arrB k (List.replicate (k - j) 0 ++ putL n j) = cs at *
      go_wp2_with fail
      go_roundw
      case rel =>
        refine ⟨j + 1, by omega, by (have e : (t : Int) - 1 = (k : Int) - 1 - ((j + 1 : Nat) : Int) := by have := HT.out; omega); rw [← e], by rw [hq2.out]; go_num, hbl.setCell (by simp) _, ?_⟩
        rw [← HS.out, ← hv.out]
        exact R0.out.put _ _
      case measure => simp [intOf]
    · obtain rfl : j = k := by omega
      have hneg : ¬ (0 : Int) ≤ (j : Int) - 1 - (j : Int) := by omega
      have r1 : Row wr w.heap.size 5 (arrB j (putL n j)) := by simpa using r0
      go_wp2
      go_ret
      exact ⟨⟨_, rfl, own_of_row r1 (putL_len _ _) (Nat.le_refl _) (by unfold maxLen; omega)⟩, hbl⟩
end Go.Proofs.YtbmiecogjmbciaaDoor

namespace Go.Proofs.YtbmiecogjmbciaaDoor
set_option maxRecDepth 8000
open Go.RowKit

set_option maxRecDepth 20000 in
set_option maxHeartbeats 4000000 in
theorem rmhalf_any (t : Tot) (w : World) (h : okT t) :
    Calls Tryd.prog 48 #[totV t] w fun e w' => (∃ v, e = .returned v ∧ OwnB w' w.heap.size v (partT t)) ∧ Below w.heap.size w w' := by
  have HL : Hid (len32 t) := h.len
  have HB : Hid (t.w < Big) := h.2.1
  have HU : Hid (u64N t.n < 18446744073709551616 ∧ IntKind.u64.wrap t.n = ((u64N t.n : Nat) : Int)) := by
    unfold u64N
    rw [IntKind.wrap_u64]
    exact ⟨by omega, by omega⟩
  have E1 : Hid (EnvX w (w.alloc (.cells (totA t) 29)) [(w.heap.size, Obj.cells (totA t) 29 (0, 0))]) := (EnvX.start w).new _
  have HBY : Hid (∀ u, EnvX w u [] → Calls Tryd.prog 63 #[.agg (wcs t.w)] u fun e w' => e = .returned (.agg (arrB 32 (listF (bytesOf t.w)))) ∧ Below u.heap.size u w') := fun u _ => rbytes_any t.w u
  have HPT : Hid (∀ u, EnvX w u [] → Calls Tryd.prog 64 #[.int .u64 ((u64N t.n : Nat) : Int), .int .i64 4] u fun e w' => (∃ v, e = .returned v ∧ OwnB w' u.heap.size v (putL (u64N t.n) 4)) ∧ Below u.heap.size u w') := fun u _ => rput_any (u64N t.n) 4 u HU.out.1 (by omega)
  have HZ : Hid ((arrB 32 (listF (bytesOf t.w))).size = 32) := arrB_size _ _ (by rw [listF_len]; omega)
  clear h
  unfold totV
  go_enter Tryd.func48, Tryd.ntmps48
  go_upto_region 1 with (fail)
  generalize w.alloc (.cells (totA t) 29) = W at *
  refine wp_region_Hx (w0 := w) [0, 1, 2, 3, 4] [(w.heap.size, Obj.cells (totA t) 29 (0, 0))] rfl E1.out ?_
  refine lexH_phase [0, 1, 2] [3, 4] ?_
  have hw1 : EnvX w _ [(w.heap.size, Obj.cells (totA t) 29 (0, 0))] := E1.out
  have hone := @EnvC.one _ _ _ hw1
  (refine wpG_op rfl rfl rfl ?_; intro K hK; go_big_quiet_op; go_big_quiet_on)
  (refine wpG_val (v := .agg (wcs t.w)) rfl rfl (fun u hu => load_any_op u (box_totW hu (List.Mem.head _) HL.out) rfl) ?_ hw1; intro K hK; go_big_quiet_op; go_big_quiet_on)
  (refine wpG_call (f := 63) (args := #[.agg (wcs t.w)]) (v := .agg (arrB 32 (listF (bytesOf t.w)))) rfl rfl rfl Tryd.func63 rfl rfl (fun u hu => HBY.out u (EnvX.sub hu (fun _ h => by cases h))) ?_ hw1; intro K hK; go_big_quiet_op; go_big_quiet_on)
  clear hone hw1
  refine wpG_nil ?_
  refine (hOp_fresh (R := fun x N => ∃ g, x = .pointer (some ⟨g, 0, none⟩) ∧ N = [(g, Obj.cells (arrB 32 []) 24 (0, 0))]) (M0 := [(w.heap.size, Obj.cells (totA t) 29 (0, 0))]) rfl rfl (fun _ h => h) (fun u hu => FAt_new (new_id _) u) ?_)
  rintro _ _ ⟨g3, rfl, rfl⟩ hf he2; intro K' hK'; go_big_quiet_op; go_big_quiet_on
  have HG3 := Lib.hid (hf _ (List.mem_singleton.2 rfl))
  clear hf
  change lexH _ _ _ _ _ _ [(g3, Obj.cells (arrB 32 []) 24 (0, 0)), (w.heap.size, Obj.cells (totA t) 29 (0, 0))]
  refine (hOp_store rfl (g3) (arrB 32 (listF (bytesOf t.w))) rfl rfl HG3.out.1 24 ((arrB 32 [])) (List.Mem.head _) (info26 _ HZ.out) ((arrB_size _ _ (by simp)).trans HZ.out.symm) (arrB_one _ _) [(g3, Obj.cells (arrB 32 (listF (bytesOf t.w))) 24 (0, 0)), (w.heap.size, Obj.cells (totA t) 29 (0, 0))] (List.forall_mem_cons.2 ⟨.inl rfl, fun y hy => .inr ⟨List.mem_cons_of_mem _ hy, HG3.out.2 y hy⟩⟩) ?_)
  intro he3
  intro u5 E2'
  have EX4 := Lib.hid E2'
  clear E2'
  go_upto_region 2 with (fail)
  refine wp_region_Hx (w0 := w) [0, 1, 2, 3] [(g3, Obj.cells (arrB 32 (listF (bytesOf t.w))) 24 (0, 0)), (w.heap.size, Obj.cells (totA t) 29 (0, 0))] rfl EX4.out ?_
  refine lexH_phase [0, 1] [2, 3] ?_
  have hw6 : EnvX w _ [(g3, Obj.cells (arrB 32 (listF (bytesOf t.w))) 24 (0, 0)), (w.heap.size, Obj.cells (totA t) 29 (0, 0))] := EX4.out
  have hone := @EnvC.one _ _ _ hw6
  (refine wpG_op rfl rfl rfl ?_; intro K hK; go_big_quiet_op; go_big_quiet_on)
  (refine wpG_val (v := .slice (some ⟨w.heap.size, 0, none⟩) 32 32) rfl rfl (fun u hu => sliceArr_op u rfl) ?_ hw6; intro K hK; go_big_quiet_op; go_big_quiet_on)
  clear hone hw6
  refine wpG_nil ?_
  refine (hOp_fresh (R := FreshR 5 1 32 (t.h.map u8v)) (M0 := [(g3, Obj.cells (arrB 32 (listF (bytesOf t.w))) 24 (0, 0)), (w.heap.size, Obj.cells (totA t) 29 (0, 0))]) rfl rfl (fun _ h => h) (fun u hu => FAt_appX elB (by rw [List.length_map, HL.out]) u8_one (src_box hu (List.Mem.tail _ (List.Mem.head _)) (t_src HL.out)) (by omega) rfl) ?_)
  rintro x N hF hf he7; intro K' hK'; go_big_quiet_op; go_big_quiet_on
  obtain ⟨ga, capa, cura, rfl, rfl, hca⟩ | ⟨_, _, h0, _⟩ := hF
  case inr => cases h0
  have HCA := Lib.hid hca
  have HGA := Lib.hid (hf _ (List.mem_singleton.2 rfl))
  clear hca
  clear hf
  change lexH _ _ _ _ _ _ [(ga, Obj.cells cura 5 (0, 0)), (g3, Obj.cells (arrB 32 (listF (bytesOf t.w))) 24 (0, 0)), (w.heap.size, Obj.cells (totA t) 29 (0, 0))]
  refine lexH_phase [3] [] ?_
  have hw8 : EnvX w _ [(ga, Obj.cells cura 5 (0, 0)), (g3, Obj.cells (arrB 32 (listF (bytesOf t.w))) 24 (0, 0)), (w.heap.size, Obj.cells (totA t) 29 (0, 0))] := he7.choose_spec
  have hone := @EnvC.one _ _ _ hw8
  (refine wpG_op rfl rfl rfl ?_; intro K hK; go_big_quiet_op; go_big_quiet_on)
  clear hone hw8
  refine wpG_nil ?_
  intro u10 E2'
  have EX9 := Lib.hid E2'
  clear E2'
  go_upto_region 3 with (fail)
  refine wp_region_Hx (w0 := w) [0, 1, 2, 3] [(ga, Obj.cells cura 5 (0, 0)), (g3, Obj.cells (arrB 32 (listF (bytesOf t.w))) 24 (0, 0)), (w.heap.size, Obj.cells (totA t) 29 (0, 0))] rfl EX9.out ?_
  refine lexH_phase [0, 1] [2, 3] ?_
  have hw11 : EnvX w _ [(ga, Obj.cells cura 5 (0, 0)), (g3, Obj.cells (arrB 32 (listF (bytesOf t.w))) 24 (0, 0)), (w.heap.size, Obj.cells (totA t) 29 (0, 0))] := EX9.out
  have hone := @EnvC.one _ _ _ hw11
  (refine wpG_op rfl rfl rfl ?_; intro K hK; go_big_quiet_op; go_big_quiet_on)
  (refine wpG_val (v := .slice (some ⟨g3, 0, none⟩) 32 32) rfl rfl (fun u hu => sliceArr_op u rfl) ?_ hw11; intro K hK; go_big_quiet_op; go_big_quiet_on)
  clear hone hw11
  refine wpG_nil ?_
  refine (hOp_own (gd := none) (R := GrownR w 5 1 (32 + 32) (t.h.map u8v ++ (listF (bytesOf t.w)).map u8v) [(w.heap.size, Obj.cells (totA t) 29 (0, 0))] ) rfl rfl rfl rfl (fun u hu => appX_op elB [(w.heap.size, Obj.cells (totA t) 29 (0, 0))] hu (by rw [List.length_map, HL.out]) (by rw [List.length_map, listF_len]) u8_one (.inl ⟨ga, capa, cura, rfl, rfl, HCA.out⟩) (List.forall_mem_cons.2 ⟨⟨(List.Mem.head _), HGA.out.1⟩, (fun _ h => by cases h)⟩) (src_box hu (List.Mem.tail _ (List.Mem.head _)) (b_src t.w)) (List.forall_mem_cons.2 ⟨⟨(List.Mem.tail _ (List.Mem.tail _ (List.Mem.head _))), fun y hy => by cases List.mem_singleton.1 hy; exact HGA.out.2 _ (List.Mem.tail _ (List.Mem.head _))⟩, (fun _ h => by cases h)⟩) (by omega) rfl rfl) ?_)
  rintro x M' ⟨N, rfl, hF, hn⟩ he12; intro K' hK'; go_big_quiet_op; go_big_quiet_on
  obtain ⟨gb, capgb, curgb, rfl, rfl, hcgb⟩ | ⟨_, _, h0, _⟩ := hF
  case inr => omega
  have HCgb := Lib.hid hcgb
  have HGgb := Lib.hid (hn _ (List.mem_singleton.2 rfl))
  clear hcgb hn
  change lexH _ _ _ _ _ _ [(gb, Obj.cells curgb 5 (0, 0)), (w.heap.size, Obj.cells (totA t) 29 (0, 0))]
  refine lexH_phase [3] [] ?_
  have hw13 : EnvX w _ [(gb, Obj.cells curgb 5 (0, 0)), (w.heap.size, Obj.cells (totA t) 29 (0, 0))] := he12.choose_spec
  have hone := @EnvC.one _ _ _ hw13
  (refine wpG_op rfl rfl rfl ?_; intro K hK; go_big_quiet_op; go_big_quiet_on)
  clear hone hw13
  refine wpG_nil ?_
  intro u15 E2'
  have EX14 := Lib.hid E2'
  clear E2'
  go_upto_region 4 with (fail)
  refine wp_region_Hx (w0 := w) [0, 1, 2, 3, 4, 5, 6] [(gb, Obj.cells curgb 5 (0, 0)), (w.heap.size, Obj.cells (totA t) 29 (0, 0))] rfl EX14.out ?_
  refine lexH_phase [0, 1, 2, 3] [4, 5, 6] ?_
  have hw16 : EnvX w _ [(gb, Obj.cells curgb 5 (0, 0)), (w.heap.size, Obj.cells (totA t) 29 (0, 0))] := EX14.out
  have hone := @EnvC.one _ _ _ hw16
  (refine wpG_op rfl rfl rfl ?_; intro K hK; go_big_quiet_op; go_big_quiet_on)
  (refine wpG_op rfl rfl rfl ?_; intro K hK; go_big_quiet_op; go_big_quiet_on)
  (refine wpG_val (v := .int .i64 t.n) rfl rfl (fun u hu => load_any_op u (box_totN hu (List.Mem.tail _ (List.Mem.head _)) HL.out) rfl) ?_ hw16; intro K hK; go_big_quiet_op; go_big_quiet_on)
  (refine wpG_val (v := .int .u64 ((u64N t.n : Nat) : Int)) rfl rfl (fun u hu => conv_u64_op u HU.out.2 rfl) ?_ hw16; intro K hK; go_big_quiet_op; go_big_quiet_on)
  clear hone hw16
  refine wpG_nil ?_
  refine (hOp_fresh (R := FreshR 5 1 4 ((putL (u64N t.n) 4).map u8v)) (M0 := [(gb, Obj.cells curgb 5 (0, 0)), (w.heap.size, Obj.cells (totA t) 29 (0, 0))]) rfl rfl (fun _ h => h) (fun u hu => FAt_call (fid := 64) (xs := #[.tmp 17, .const (Value.int IntKind.i64 4)]) (args := #[.int .u64 ((u64N t.n : Nat) : Int), .int .i64 4]) rfl Tryd.func64 rfl rfl u (by have h := callsR_fresh (HPT.out u (EnvX.sub hu (fun _ h => by cases h))); rw [putL_len] at h; exact h)) ?_)
  rintro x N hF hf he17; intro K' hK'; go_big_quiet_op; go_big_quiet_on
  obtain ⟨gp, capp, curp, rfl, rfl, hcp⟩ | ⟨_, _, h0, _⟩ := hF
  case inr => cases h0
  have HCP := Lib.hid hcp
  have HGP := Lib.hid (hf _ (List.mem_singleton.2 rfl))
  clear hcp
  clear hf
  change lexH _ _ _ _ _ _ [(gp, Obj.cells curp 5 (0, 0)), (gb, Obj.cells curgb 5 (0, 0)), (w.heap.size, Obj.cells (totA t) 29 (0, 0))]
  refine (hOp_own (gd := none) (R := GrownR w 5 1 (32 + 32 + 4) (t.h.map u8v ++ (listF (bytesOf t.w)).map u8v ++ (putL (u64N t.n) 4).map u8v) []) rfl rfl rfl rfl (fun u hu => appX_op elB [] hu (by rw [List.length_append, List.length_map, List.length_map, listF_len]; have h : t.h.length = 32 := HL.out; omega) (by rw [List.length_map, putL_len]) u8_one (.inl ⟨gb, capgb, curgb, rfl, rfl, HCgb.out⟩) (List.forall_mem_cons.2 ⟨⟨(List.Mem.tail _ (List.Mem.head _)), HGgb.out.1⟩, (fun _ h => by cases h)⟩) (src_box hu (List.Mem.head _) (by rw [List.drop_zero, List.length_map, putL_len]; exact HCP.out.2.2.2)) (fun _ h => by cases h) (by omega) rfl rfl) ?_)
  rintro x M' ⟨N, rfl, hF, hn⟩ he18; intro K' hK'; go_big_quiet_op; go_big_quiet_on
  obtain ⟨gc, capgc, curgc, rfl, rfl, hcgc⟩ | ⟨_, _, h0, _⟩ := hF
  case inr => omega
  have HCgc := Lib.hid hcgc
  have HGgc := Lib.hid (hn _ (List.mem_singleton.2 rfl))
  clear hcgc hn
  change lexH _ _ _ _ _ _ [(gc, Obj.cells curgc 5 (0, 0))]
  refine lexH_phase [6] [] ?_
  have hw19 : EnvX w _ [(gc, Obj.cells curgc 5 (0, 0))] := he18.choose_spec
  have hone := @EnvC.one _ _ _ hw19
  (refine wpG_op rfl rfl rfl ?_; intro K hK; go_big_quiet_op; go_big_quiet_on)
  clear hone hw19
  refine wpG_nil ?_
  intro u21 E2'
  have EX20 := Lib.hid E2'
  clear E2'
  go_wp2
  go_ret
  refine ⟨⟨_, rfl, ?_⟩, EnvX.bel EX20.out⟩
  have hl : (partT t).length = 68 := partT_len HL.out
  unfold OwnB
  rw [hl]
  refine ⟨by rw [List.length_map, hl], .inr ⟨gc, capgc, curgc, rfl, HGgc.out.1, EnvX.box EX20.out _ _ (List.Mem.head _), HCgc.out.1, HCgc.out.2.1, HCgc.out.2.2.1, ?_⟩⟩
  rw [HCgc.out.2.2.2]
  unfold partT
  simp only [List.map_append, List.append_assoc]
end Go.Proofs.YtbmiecogjmbciaaDoor

namespace Go.Proofs.YtbmiecogjmbciaaDoor
set_option maxRecDepth 8000
open Go.RowKit

theorem adc_two (a b c : Int) (ha : 0 ≤ a ∧ a < 18446744073709551616) (hb : 0 ≤ b ∧ b < 18446744073709551616) (hc : 0 ≤ c ∧ c ≤ 1) :
    ((a + b) % 18446744073709551616 + c) % 18446744073709551616 = adc a b c ∧
    (((a + b) % 18446744073709551616 < a ∨ ((a + b) % 18446744073709551616 + c) % 18446744073709551616 < (a + b) % 18446744073709551616) → adk a b c = 1) ∧
    ((a ≤ (a + b) % 18446744073709551616 ∧ (a + b) % 18446744073709551616 ≤ ((a + b) % 18446744073709551616 + c) % 18446744073709551616) → adk a b c = 0) := by
  unfold adc adk
  exact ⟨by omega, by omega, by omega⟩
set_option maxHeartbeats 4000000 in
theorem raddw_any (xs ys : List Int) (w : World) (hx : xs.length = 4) (hy : ys.length = 4) (bx : Words xs) (bY : Words ys) :
    Calls Tryd.prog 42 #[.agg (arrW 4 xs), .agg (arrW 4 ys)] w fun e w' => e = .returned (.tuple #[.agg (arrW 4 (addL xs ys 4)), .bool (addC xs ys 4 == 0)]) ∧ Below w.heap.size w w' := by
  have HX := Lib.hid hx
  have HY := Lib.hid hy
  clear hx hy
  go_enter Tryd.func42, Tryd.ntmps42
  go_wp2_with fail
  go_loopw [7, 8] (fun c i u => ∃ k : Nat, k ≤ 4 ∧ i = .int .i64 k ∧ c = .int .u64 (addC xs ys k) ∧ Below w.heap.size w u ∧ Hid (Row u w.heap.size 27 (arrW 4 xs) ∧ Row u (w.heap.size + 1) 27 (arrW 4 ys) ∧ Row u (w.heap.size + 1 + 1) 27 (arrW 4 []) ∧ Row u (w.heap.size + 1 + 1 + 1) 27 (arrW 4 (addL xs ys k)))) (fun _ i _ => 4 - (intOf i).toNat)
  case atStart => exact ⟨0, by omega, rfl, rfl, by go_grown, (((Row.new w 27 _).alloc _).alloc _).alloc _, ((Row.newAt (by simp) 27 _).alloc _).alloc _, (Row.newAt (by simp) 27 _).alloc _, Row.newAt (by simp) 27 _⟩
  case round =>
    obtain ⟨k, hk, rfl, rfl, hbl, hrows⟩ := hrel
    obtain ⟨r0, r1, r2, r3⟩ := hrows.out
    by_cases hlt : k < 4
    · have e0 : wr.cell? ⟨w.heap.size, k, none⟩ = some (.int .u64 (xs.getD k 0)) := (r0.cell k).trans (arrW_get 4 _ k (by rw [HX.out]; omega) hlt)
      have e1 : wr.cell? ⟨w.heap.size + 1, k, none⟩ = some (.int .u64 (ys.getD k 0)) := (r1.cell k).trans (arrW_get 4 _ k (by rw [HY.out]; omega) hlt)
      have e3 := (r3.cell k).trans (arrW_get 4 _ k (by rw [addL_len]; omega) hlt)
      have f3 := r3.frozen k
      have R0 := Lib.hid r0
      have R1 := Lib.hid r1
      have R2 := Lib.hid r2
      have R3 := Lib.hid r3
      have hc := addC_bit xs ys bx bY k
      have hput := Lib.hid (arrW_put_at 4 (addL xs ys k) (adc (xs.getD k 0) (ys.getD k 0) (addC xs ys k)) k (addL_len _ _ _) hlt)
      have hL : Hid (addL xs ys (k + 1) = addL xs ys k ++ [adc (xs.getD k 0) (ys.getD k 0) (addC xs ys k)]) := rfl
      have hC : Hid (addC xs ys (k + 1) = adk (xs.getD k 0) (ys.getD k 0) (addC xs ys k)) := rfl
      have hA := Lib.hid (adc_two _ _ _ (bx k) (bY k) hc)
      clear r0 r1 r2 r3 hrows hc
      have hk0 : (0 : Int) ≤ (k : Int) := by omega
      have hk4 : (k : Int) < 4 := by omega
      generalize xs.getD k 0 = x at *
      generalize ys.getD k 0 = y at *
      generalize addC xs ys k = c at *
      generalize hs : (x + y) % 18446744073709551616 = s at *
      have HS := Lib.hid hs
      generalize ht : (s + c) % 18446744073709551616 = t at *
      have HT := Lib.hid ht
      clear hs ht
      generalize (addL xs ys k).getD k 0 = z at *
      have w1 : IntKind.u64.wrap (x + y) = s := by rw [IntKind.wrap_u64]; exact HS.out
      have w2 : IntKind.u64.wrap (s + c) = t := by rw [IntKind.wrap_u64]; exact HT.out
      go_wp2_with fail
      go_quiet (fail)
      have R0' : Hid (Row (wr.drewN nq) w.heap.size 27 (arrW 4 xs)) := R0
      have R1' : Hid (Row (wr.drewN nq) (w.heap.size + 1) 27 (arrW 4 ys)) := R1
      have R2' : Hid (Row (wr.drewN nq) (w.heap.size + 1 + 1) 27 (arrW 4 [])) := R2
      have R3' : Hid (Row (wr.drewN nq) (w.heap.size + 1 + 1 + 1) 27 (arrW 4 (addL xs ys k))) := R3
      have hbl' := below_drewN hbl nq
      have e0' : (wr.drewN nq).cell? _ = _ := e0
      have e3' : (wr.drewN nq).cell? _ = _ := e3
      have f3' : (wr.drewN nq).frozen? _ = _ := f3
      clear R0 R1 R2 R3 hbl e0 e1 e3 f3
      generalize wr.drewN nq = w2' at *
      by_cases c1 : s < x
      · have hone := Lib.hid (hA.out.2.1 (.inl c1))
        have c1' : decide (s < x) = true := by simpa using c1
        go_wp2
        go_roundw
        case rel =>
          refine ⟨k + 1, by omega, by go_num, ?_, hbl'.setCell (by simp; omega) _, R0'.out.farAt (by omega) _, R1'.out.farAt (by omega) _, R2'.out.farAt (by omega) _, ?_⟩
          · rw [hC.out, hone.out]
          · rw [hL.out, ← hput.out, ← hA.out.1]
            exact R3'.out.put k _
        case measure => simp [intOf]; omega
      · have c1' : decide (s < x) = false := by simpa using c1
        by_cases c2 : t < s
        · have hone := Lib.hid (hA.out.2.1 (.inr c2))
          have c2' : decide (t < s) = true := by simpa using c2
          go_wp2
          go_roundw
          case rel =>
            refine ⟨k + 1, by omega, by go_num, ?_, hbl'.setCell (by simp; omega) _, R0'.out.farAt (by omega) _, R1'.out.farAt (by omega) _, R2'.out.farAt (by omega) _, ?_⟩
            · rw [hC.out, hone.out]
            · rw [hL.out, ← hput.out, ← hA.out.1]
              exact R3'.out.put k _
          case measure => simp [intOf]; omega
        · have hone := Lib.hid (hA.out.2.2 ⟨by omega, by omega⟩)
          have c2' : decide (t < s) = false := by simpa using c2
          go_wp2
          go_roundw
          case rel =>
            refine ⟨k + 1, by omega, by go_num, ?_, hbl'.setCell (by simp; omega) _, R0'.out.farAt (by omega) _, R1'.out.farAt (by omega) _, R2'.out.farAt (by omega) _, ?_⟩
            · rw [hC.out, hone.out]
            · rw [hL.out, ← hput.out, ← hA.out.1]
              exact R3'.out.put k _
          case measure => simp [intOf]; omega
    · obtain rfl : k = 4 := by omega
      have hsz := Lib.hid (arrW_size 4 (addL xs ys 4) (by rw [addL_len]; omega))
      have hz0 := Lib.hid (arrW_size 4 [] (by simp))
      have ho := Lib.hid (arrW_one 4 (addL xs ys 4))
      have R2 : Hid (wr.heap[w.heap.size + 1 + 1]? = some (.cells (arrW 4 []) 27 (0, 0))) := r2
      have R3 : Hid (wr.heap[w.heap.size + 1 + 1 + 1]? = some (.cells (arrW 4 (addL xs ys 4)) 27 (0, 0))) := r3
      clear r0 r1 r2 r3 hrows
      generalize hE : arrW 4 (addL xs ys 4) = cs at *
      have HE := Lib.hid hE
      clear hE
      generalize arrW 4 [] = zs at *
      generalize hC : addC xs ys 4 = c at *
      have HC := Lib.hid hC
      clear hC
      go_wp2_with (first
        | ((with_reducible refine wpList_load_row (o := ⟨some 38, _, _, _, _, _⟩) ?_ 27 (.tmp 6) ?_ (w.heap.size + 1 + 1 + 1) ?_ 27 cs (0, 0) _ R3.out Tryd.underlying27 ?_ (infoW cs hsz.out) ?_); (rfl); (rfl); (rfl); (rfl))
        | ((with_reducible refine wpList_store_row (o := ⟨none, .store 27 _ _, _, _, _, _⟩) ?_ 27 (.tmp 4) (.tmp 38) ?_ (w.heap.size + 1 + 1) cs ?_ ?_ 27 zs R2.out (infoW cs hsz.out) (by rw [hz0.out, hsz.out]) ho.out ?_); (rfl); (rfl); (rfl); (rfl))
        | ((with_reducible refine bodyPost_ret (v := .tuple #[.agg cs, .bool (c == 0)]) ?_ ?_ ?_); (exact results_row_slot (p := 4) (q := 5) (ty := 27) Tryd.results42 _ _ (w.heap.size + 1 + 1) 27 cs (0, 0) _ rfl _ rfl (setRow_heap _ _ zs cs 27 (0, 0) R2.out) Tryd.underlying27 rfl (infoW cs hsz.out)); (rfl)))
      exact ⟨by rw [HE.out, HC.out], below_setRow hbl (by omega) _⟩
theorem radd_any (m n : Nat) (w : World) (hm : m < Big) (hn : n < Big) :
    Calls Tryd.prog 42 #[.agg (wcs m), .agg (wcs n)] w fun e w' => e = .returned (.tuple #[.agg (wcs ((m + n) % Big)), .bool (decide (m + n < Big))]) ∧ Below w.heap.size w w' := by
  have h := add_words m n hm hn
  refine (raddw_any (wl m) (wl n) w (wl_len m) (wl_len n) (wl_words m) (wl_words n)).mono ?_
  rintro e w' ⟨rfl, hb⟩
  exact ⟨by rw [h.1, h.2]; rfl, hb⟩
end Go.Proofs.YtbmiecogjmbciaaDoor
