/- The walk of the Pad of the reference. -/
import Derived.Test.YtlccldnjgaldoaaDoorLawPads
import Derived.Test.YtlccldnjgaldoaaDoorWalk9
import Derived.Test.YtlccldnjgaldoaaDoorBits
import Derived.WalkKit
import Derived.ProofKit
import Derived.Handy
import Derived.Deep.RegionHeld
import Derived.Maps.AppendAt
import Derived.Laws.BytesArg
import Derived.OpenShut
import Derived.ChangeKeysEq
import Derived.Lib.SlBytesConst
import Derived.Deep.MidRow
import Derived.Laws.CopyOwn
import Derived.Laws.MakeOwn
import Derived.Deep.WholeRow
import Derived.Deep.Cut
import Derived.Deep.QuietTactic
import Derived.BigQuiet
import Derived.StillTailTactics
import Derived.Lib.Hide
namespace Go.Proofs.YtlccldnjgaldoaaDoor
open Go.RowKit














theorem append_byte (base : Nat) (v : Value) (n : Nat) (l : List Value) (w : World) (x : Int) (hown : w.ownsRow base 5 1 v n l) (hs : n ≤ 70368744177663) (hbase : base ≤ w.heap.size) :
    ∃ v' w', (Builtin.append_ #[22, 22] 22 #[v, .slice (some ⟨w.heap.size, 0, none⟩) 1 1]).run Tryd.prog (w.alloc (.cells #[.int .u8 x] 5)) = .ok v' w' ∧ w'.ownsRow base 5 1 v' (n + 1) (l ++ [u8v x]) ∧ Below base w w' := by
  have ho := hown.alloc (.cells #[.int .u8 x] 5)
  obtain ⟨v', w', hrun, hown', hg⟩ := append_bytes base v n l (w.alloc (.cells #[.int .u8 x] 5)) ho (some ⟨w.heap.size, 0, none⟩) 1 1 (w.heap.size + 1) [x] rfl (fun _ => ⟨_, rfl, by simp, fun j u hu => by
    rcases j with _ | j
    · have hu' : u8v x = u := by simpa using hu
      subst hu'
      exact (Row.new w 5 #[.int .u8 x]).cell 0
    · simp at hu⟩) (by omega) (by simp; omega)
  refine ⟨v', w', hrun, hown', ?_⟩
  have hb : Below base w (w.alloc (.cells #[.int .u8 x] 5)) := (Below.refl _ _).alloc hbase _
  exact hb.trans (below_of_grown hg (fun g hg => (ho.lt g hg).1) (by simp; omega))
theorem own_len {base n : Nat} {v : Value} {l : List Value} {w : World} (h : w.ownsRow base 5 1 v n l) (hn : 0 < n) : ∃ g cap, v = .slice (some ⟨g, 0, none⟩) n cap := by
  rcases h.2 with ⟨_, h0⟩ | ⟨g, cap, cur, e, _⟩
  · omega
  · exact ⟨g, cap, e⟩
/-- the bytes ahead of the length -/
def headL (xs : List Int) (k : Nat) : List Int := xs ++ [128] ++ List.replicate k 0
def divs (k : Nat) : Int := 72057594037927936 / 256 ^ k
def tailL (n : Nat) : Nat → List Int
  | 0 => []
  | k + 1 => tailL n k ++ [8 * (n : Int) / divs k % 256]
theorem divs_step (k : Nat) (h : k < 8) : divs (k + 1) = divs k / 256 ∧ 0 < divs k ∧ divs k ≤ 72057594037927936 := by
  rcases k with _ | _ | _ | _ | _ | _ | _ | _ | k
  all_goals first | omega | decide
theorem tailL_all (n : Nat) (h : n ≤ 70368744177) : tailL n 8 = lenL n := by
  have d0 : divs 0 = 72057594037927936 := by decide
  have d1 : divs 1 = 281474976710656 := by decide
  have d2 : divs 2 = 1099511627776 := by decide
  have d3 : divs 3 = 4294967296 := by decide
  have d4 : divs 4 = 16777216 := by decide
  have d5 : divs 5 = 65536 := by decide
  have d6 : divs 6 = 256 := by decide
  have d7 : divs 7 = 1 := by decide
  simp only [tailL, d0, d1, d2, d3, d4, d5, d6, d7, lenL, List.nil_append, List.cons_append, List.cons.injEq, and_true]
  refine ⟨?_, ?_, ?_, ?_, ?_, ?_, ?_, ?_⟩
  all_goals first | omega | trivial
set_option maxHeartbeats 4000000 in
set_option maxRecDepth 100000 in
theorem rpad_any (A : Option Addr) (n c : Nat) (xs : List Int) (w : World) (hl : xs.length = n) (hn : n ≤ 70368744177) (hx : Bytes w w.heap.size A xs) :
    Calls Tryd.prog 11 #[.slice A n c] w fun e w' => ∃ v, e = .returned v ∧ w'.ownsRow w.heap.size 5 1 v ((n + 72) / 64 * 64) ((padL xs ((n + 72) / 64 * 64)).map u8v) ∧ Below w.heap.size w w' := by
  obtain ⟨v1, w1, hrun1, hown1, hg1⟩ := append_bytes w.heap.size (.slice none 0 0) 0 [] w (World.ownsRow_nil _ _ _ _) A n c w.heap.size xs hl hx (by omega) (Nat.le_refl _)
  have b1 : Below w.heap.size w w1 := below_of_grown hg1 (fun g hg => by simp [Value.ownBlock] at hg) (Nat.le_refl _)
  rw [Nat.zero_add, List.nil_append] at hown1
  obtain ⟨v2, w2, hrun2, hown2, b2⟩ := append_byte w.heap.size v1 n _ w1 128 hown1 (by omega) b1.size
  have HR1 := Lib.hid hrun1
  have HR2 := Lib.hid hrun2
  have O2 : Hid (w2.ownsRow w.heap.size 5 1 v2 (n + 1 + 0) ((headL xs 0).map u8v)) := by
    show World.ownsRow _ _ _ _ _ _ _
    simpa [headL, List.map_append] using hown2
  have B2 := Lib.hid (b1.trans b2)
  have HL := Lib.hid hl
  clear hrun1 hrun2 hown1 hown2 hg1 b2 hx hl
  obtain ⟨q, hq⟩ : ∃ q : Nat, n + 1 + q + 8 = (n + 72) / 64 * 64 := ⟨(n + 72) / 64 * 64 - n - 9, by omega⟩
  have hq1 : (n + 1 + q) % 64 = 56 := by omega
  have hq2 : q < 64 := by omega
  have HQ := Lib.hid hq
  clear hq
  go_enter Tryd.func11, Tryd.ntmps11
  go_wp2_with (first
    | (at_builtin; (with_reducible refine wpList_append_run (o := ⟨some 8, _, _, _, _, _⟩) ?_ (.const (.slice none 0 0)) (.tmp 7) ?_ ?_ ?_ ?_ HR1.out ?_); (rfl); (rfl); (rfl); (rfl); (rfl))
    | (at_builtin; (with_reducible refine wpList_append_run (o := ⟨some 11, _, _, _, _, _⟩) ?_ (.tmp 9) (.tmp 10) ?_ ?_ ?_ ?_ HR2.out ?_); (rfl); (rfl); (rfl); (rfl); (rfl)))
  go_loopw [3] (fun v u => ∃ k : Nat, k ≤ q ∧ Hid (u.ownsRow w.heap.size 5 1 v (n + 1 + k) ((headL xs k).map u8v) ∧ Below w.heap.size w u)) (fun v _ => n + 1 + q - (match v with | .slice _ m _ => m | _ => 0))
  case atStart => exact ⟨0, by omega, O2.out, B2.out⟩
  case round =>
    clear HR1 HR2 O2 B2
    obtain ⟨k, hk, hrows⟩ := hrel
    obtain ⟨hown, hbl⟩ := hrows.out
    obtain ⟨g, cap, rfl⟩ := own_len hown (by omega)
    by_cases hlt : k < q
    · have hne : (((n : Int) + 1 + (k : Int)) % 64 != 56) = true := by simp; omega
      obtain ⟨v', w', hrun, hown', hb2⟩ := append_byte w.heap.size _ _ _ wr 0 hown (by omega) hbl.size
      have HR := Lib.hid hrun
      have OO : Hid (w'.ownsRow w.heap.size 5 1 v' (n + 1 + (k + 1)) ((headL xs (k + 1)).map u8v)) := by
        show World.ownsRow _ _ _ _ _ _ _
        have e : headL xs (k + 1) = headL xs k ++ [0] := by simp [headL, List.replicate_succ']
        rw [e, List.map_append]
        exact hown'
      have BB := Lib.hid (hbl.trans hb2)
      obtain ⟨g', cap', rfl⟩ := own_len OO.out (by omega)
      clear hrun hown' hb2 hown hbl hrows
      go_wp2_with (at_builtin; (with_reducible refine wpList_append_run (o := ⟨some 18, _, _, _, _, _⟩) ?_ (.tmp 16) (.tmp 17) ?_ ?_ ?_ ?_ HR.out ?_); (rfl); (rfl); (rfl); (rfl); (rfl))
      go_roundw
      case rel => exact ⟨k + 1, by omega, OO.out, BB.out⟩
      case measure => show n + 1 + q - (n + 1 + (k + 1)) < n + 1 + q - (n + 1 + k); omega
    · obtain rfl : k = q := by omega
      have hne : (((n : Int) + 1 + (k : Int)) % 64 != 56) = false := by simp; omega
      have R0 := Lib.hid hrows.out
      clear hown hbl hrows
      go_wp2_with fail
      go_loopw [3, 5, 6] (fun v d i u => ∃ j : Nat, j ≤ 8 ∧ i = .int .i64 j ∧ d = .int .u64 (divs j) ∧ Hid (u.ownsRow w.heap.size 5 1 v (n + 1 + k + j) ((headL xs k ++ tailL n j).map u8v) ∧ Below w.heap.size w u)) (fun _ _ i _ => 8 - (intOf i).toNat)
      case atStart =>
        refine ⟨0, by omega, rfl, by rfl, ?_⟩
        have := R0.out
        show _ ∧ _
        simpa [tailL] using this
      case round =>
        clear R0
        obtain ⟨j, hj, rfl, rfl, hrows⟩ := hrel
        obtain ⟨hown, hbl⟩ := hrows.out
        obtain ⟨g1, cap1, rfl⟩ := own_len hown (by omega)
        by_cases hlt : j < 8
        · obtain ⟨ds, d0, d1⟩ := divs_step j hlt
          have DS := Lib.hid ds
          have hT : Hid (tailL n (j + 1) = tailL n j ++ [8 * (n : Int) / divs j % 256]) := rfl
          obtain ⟨v', w', hrun, hown', hb2⟩ := append_byte w.heap.size _ _ _ wr (8 * (n : Int) / divs j % 256) hown (by omega) hbl.size
          have HR := Lib.hid hrun
          have OO : Hid (w'.ownsRow w.heap.size 5 1 v' (n + 1 + k + (j + 1)) ((headL xs k ++ tailL n (j + 1)).map u8v)) := by
            show World.ownsRow _ _ _ _ _ _ _
            rw [hT.out, ← List.append_assoc, List.map_append]
            exact hown'
          have BB := Lib.hid (hbl.trans hb2)
          clear hrun hown' hb2 hown hbl hrows ds
          generalize divs j = d at *
          have p0 : 0 ≤ 8 * (n : Int) / d := Int.ediv_nonneg (by omega) (by omega)
          have p1 : 8 * (n : Int) / d ≤ 8 * (n : Int) := Int.ediv_le_self _ (by omega)
          have p2 : (d == 0) = false := by simp; omega
          go_wp2_with (at_builtin; (with_reducible refine wpList_append_run (o := ⟨some 34, _, _, _, _, _⟩) ?_ (.tmp 27) (.tmp 33) ?_ ?_ ?_ ?_ HR.out ?_); (rfl); (rfl); (rfl); (rfl); (rfl))
          go_roundw
          case rel => exact ⟨j + 1, by omega, by go_num, by rw [DS.out], OO.out, BB.out⟩
          case measure => simp [intOf]; omega
        · obtain rfl : j = 8 := by omega
          have hfin : headL xs k ++ tailL n 8 = padL xs ((n + 72) / 64 * 64) := by
            rw [tailL_all n (by omega)]
            unfold padL headL
            have hq := HQ.out
            rw [HL.out, show (n + 72) / 64 * 64 - 9 - n = k by omega]
          have OF : Hid (wr.ownsRow w.heap.size 5 1 (.slice (some ⟨g1, 0, none⟩) (n + 1 + k + 8) cap1) ((n + 72) / 64 * 64) ((padL xs ((n + 72) / 64 * 64)).map u8v)) := by
            show World.ownsRow _ _ _ _ _ _ _
            rw [← hfin, ← HQ.out]
            exact hown
          have BF := Lib.hid hbl
          clear hown hbl hrows hfin
          go_wp2
          go_ret
          exact ⟨_, rfl, OF.out, BF.out⟩
end Go.Proofs.YtlccldnjgaldoaaDoor
