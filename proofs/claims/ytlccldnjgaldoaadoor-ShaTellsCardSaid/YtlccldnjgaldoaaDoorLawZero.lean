/- The walk of the law ShaZero. -/
import Derived.Test.YtlccldnjgaldoaaDoorLawPads
import Derived.WalkKit
import Derived.ProofKit
import Derived.Handy
import Derived.Deep.RegionHeld
import Derived.Laws.BytesArg
import Derived.OpenShut
import Derived.ChangeKeysEq
import Derived.Lib.SlBytesConst
import Derived.Deep.MidRow
import Derived.Laws.CopyOwn
import Derived.Laws.MakeOwn
import Derived.Deep.WholeRow
import Derived.Deep.Cut
import Derived.Deep.QuietTactic
import Derived.BigQuiet
import Derived.StillTailTactics
import Derived.Lib.Hide
namespace Go.Proofs.YtlccldnjgaldoaaDoor
open Go.RowKit












theorem strOfNums_inj (xs ys : List Int) (hx : ∀ x ∈ xs, 0 ≤ x ∧ x ≤ 255) (hy : ∀ x ∈ ys, 0 ≤ x ∧ x ≤ 255) (h : strOfNums xs = strOfNums ys) : xs = ys := by
  have h1 : (xs.map fun n => UInt8.ofNat n.toNat) = ys.map fun n => UInt8.ofNat n.toNat := by
    have := congrArg (fun s => s.data.toList) h
    simpa [strOfNums] using this
  have hl : xs.length = ys.length := by simpa using congrArg List.length h1
  apply List.ext_getElem hl
  intro i a b
  have e := congrArg (fun l => l[i]?) h1
  simp only [List.getElem?_map, List.getElem?_eq_getElem a, List.getElem?_eq_getElem b, Option.map_some, Option.some.injEq] at e
  have e' := congrArg UInt8.toNat e
  have ha := hx _ (List.getElem_mem a)
  have hb := hy _ (List.getElem_mem b)
  simp only [UInt8.toNat_ofNat'] at e'
  omega
theorem padL_inj (xs ys : List Int) (m m' : Nat) (h1 : xs.length + 9 ≤ m) (h2 : ys.length + 9 ≤ m') (l1 : xs.length ≤ 400) (l2 : ys.length ≤ 400) (h : padL xs m = padL ys m') : xs = ys := by
  have hm : m = m' := by rw [← padL_len xs m h1, ← padL_len ys m' h2, h]
  subst hm
  have e6 := congrArg (fun l => l.getD (m - 8 + 6) 0) h
  have e7 := congrArg (fun l => l.getD (m - 8 + 7) 0) h
  simp only [padL_end xs m 6 h1 (by omega), padL_end ys m 6 h2 (by omega)] at e6
  simp only [padL_end xs m 7 h1 (by omega), padL_end ys m 7 h2 (by omega)] at e7
  have e6' : 8 * (xs.length : Int) / 256 % 256 = 8 * (ys.length : Int) / 256 % 256 := e6
  have e7' : 8 * (xs.length : Int) % 256 = 8 * (ys.length : Int) % 256 := e7
  have hl : xs.length = ys.length := by omega
  apply List.ext_getElem hl
  intro i a b
  have e := congrArg (fun l => l.getD i 0) h
  simp only [padL_first xs m i a, padL_first ys m i b] at e
  simpa [List.getD, List.getElem?_eq_getElem a, List.getElem?_eq_getElem b] using e
/-- What stays while memory is only made: both texts, the tables. -/
structure Two (w0 : World) (A A' : Option Addr) (xs ys : List Int) (u : World) : Prop where
  b : Below w0.heap.size w0 u
  x : Bytes u w0.heap.size A xs
  y : Bytes u w0.heap.size A' ys
  t : Tables u
theorem Two.below {w0 : World} {A A' : Option Addr} {xs ys : List Int} {u v : World} (h : Two w0 A A' xs ys u) (hb : Below u.heap.size u v) : Two w0 A A' xs ys v :=
  ⟨h.b.trans (hb.mono h.b.size), h.x.below (hb.mono h.b.size), h.y.below (hb.mono h.b.size), h.t.below hb⟩
theorem Two.bytes {w0 : World} {A A' : Option Addr} {xs ys : List Int} {u : World} (h : Two w0 A A' xs ys u) : Bytes u u.heap.size A xs := fun hp => by
  obtain ⟨ad, e, hlt, hc⟩ := h.x hp
  exact ⟨ad, e, Nat.lt_of_lt_of_le hlt h.b.size, hc⟩
theorem Two.bytes' {w0 : World} {A A' : Option Addr} {xs ys : List Int} {u : World} (h : Two w0 A A' xs ys u) : Bytes u u.heap.size A' ys := fun hp => by
  obtain ⟨ad, e, hlt, hc⟩ := h.y hp
  exact ⟨ad, e, Nat.lt_of_lt_of_le hlt h.b.size, hc⟩
theorem conv_row (g m : Nat) (l : List Int) (u : World) (h : Row u g 5 (arrB m l)) (hl : l.length = m) : (convert 22 9 (.slice (some ⟨g, 0, none⟩) m m)).run Tryd.prog u = .ok (.string (strOfNums l)) u :=
  run_convert_bytes_arg (P := Tryd.prog) _ 22 5 Tryd.underlying22 Tryd.underlying5 g 0 m m l hl (fun i hi => by
    rw [Nat.zero_add, h.cell i, arrB_get m _ i (by omega) hi]) 9 Tryd.underlying9
theorem ba_ne {s t : ByteArray} (h : s ≠ t) : (s == t) = false := by
  rw [beq_toListBytes, ByteArray.toList_eq, ByteArray.toList_eq, beq_eq_false_iff_ne]
  intro e
  apply h
  obtain ⟨⟨a⟩⟩ := s
  obtain ⟨⟨b⟩⟩ := t
  have e' : a = b := e
  rw [e']
theorem ba_list_ne {s t : ByteArray} (h : s ≠ t) : (s.toList == t.toList) = false := by
  rw [← beq_toListBytes]
  exact ba_ne h
theorem pad_m (A : Option Addr) (n c m : Nat) (xs : List Int) (w : World) (hl : xs.length = n) (hn : n ≤ 70368744177664) (hm : (n + 72) / 64 * 64 = m) (hx : Bytes w w.heap.size A xs) :
    Calls Tryd.prog 10 #[.slice A n c] w fun e w' => e = .returned (.slice (some ⟨w.heap.size, 0, none⟩) m m) ∧ Row w' w.heap.size 5 (arrB m (padL xs m)) ∧ Below w.heap.size w w' := by
  subst hm
  exact pad_any A n c xs w hl hn hx
set_option maxHeartbeats 8000000 in
theorem law_zero (A A' : Option Addr) (n c n' c' : Nat) (xs ys : List Int) (w : World) (hl : xs.length = n) (hx : Bytes w w.heap.size A xs) (hr : ∀ x ∈ xs, 0 ≤ x ∧ x ≤ 255) (hmx : n ≤ maxLen)
    (hl' : ys.length = n') (hx' : Bytes w w.heap.size A' ys) (hr' : ∀ x ∈ ys, 0 ≤ x ∧ x ≤ 255) (hmx' : n' ≤ maxLen) (ht : Tables w) :
    Calls Tryd.prog 7 #[.slice A n c, .slice A' n' c'] w fun e w' => e = .returned (.bool true) ∧ Below w.heap.size w w' := by
  unfold maxLen at hmx hmx'
  have HL := Lib.hid hl
  have HL' := Lib.hid hl'
  have HR := Lib.hid hr
  have HR' := Lib.hid hr'
  have S0 : Two w A A' xs ys w := ⟨Below.refl _ _, hx, hx', ht⟩
  clear hl hx hr hl' hx' hr'
  go_enter Tryd.func7, Tryd.ntmps7
  go_wp2_with fail
  refine (awake_any w ht).mono ?_
  rintro e w1 ⟨rfl, hb⟩
  have S1 := S0.below hb
  clear hb S0 ht
  by_cases h4 : 400 < n
  · go_wp2
    go_ret
    exact ⟨rfl, S1.b⟩
  by_cases h5 : 400 < n'
  · go_wp2
    go_ret
    exact ⟨rfl, S1.b⟩
  have h4' : n ≤ 400 := by omega
  have h5' : n' ≤ 400 := by omega
  clear h4 h5
  have t0 : decide ((400 : Int) < (n : Int)) = false := by simp; omega
  have t0' : decide ((400 : Int) < (n' : Int)) = false := by simp; omega
  go_wp2_with fail
  have cvA : ∀ u, Two w A A' xs ys u → (convert 22 9 (.slice A n c)).run Tryd.prog u = .ok (.string (strOfNums xs)) u := fun u h => conv_bytes A n c _ xs u HL.out h.x
  have cvB : ∀ u, Two w A A' xs ys u → (convert 22 9 (.slice A' n' c')).run Tryd.prog u = .ok (.string (strOfNums ys)) u := fun u h => conv_bytes A' n' c' _ ys u HL'.out h.y
  have S2 : Two w A A' xs ys w1.drew := S1.below (Below.refl _ _).drew
  obtain ⟨m, hm⟩ : ∃ m : Nat, (n + 72) / 64 * 64 = m := ⟨_, rfl⟩
  obtain ⟨m', hm'⟩ : ∃ m : Nat, (n' + 72) / 64 * 64 = m := ⟨_, rfl⟩
  have pl := Lib.hid (padL_len xs m (by rw [HL.out]; omega))
  have pl' := Lib.hid (padL_len ys m' (by rw [HL'.out]; omega))
  by_cases hxy : xs = ys
  · subst hxy
    obtain rfl : n' = n := by rw [← HL.out, ← HL'.out]
    obtain rfl : m' = m := by rw [← hm, ← hm']
    have HM := Lib.hid hm
    clear hm hm'
    have heq : ∀ u : World, (binOp .eql 26 (.agg (arrB 32 (sumL xs))) (.agg (arrB 32 (sumL xs)))).run Tryd.prog u = .ok (.bool true) u := fun u => by
      have h := run_eql_id (sumL xs) (sumL xs) (sumL_len xs) (sumL_len xs) u
      rwa [show eqL (sumL xs) (sumL xs) = true by simp [eqL]] at h
    generalize hS : arrB 32 (sumL xs) = sm at *
    have HS := Lib.hid hS
    clear hS
    generalize strOfNums xs = sx at *
    generalize hPx : strOfNums (padL xs m') = px at *
    have HPx := Lib.hid hPx
    clear hPx
    first
    | (go_region_held (fun u => Two w A A' xs xs u) (assumption)
      (first
        | ((go_at_call 10; with_reducible refine (pad_m A n' c m' xs _ HL.out (by omega) HM.out (Two.bytes (by assumption))).mono ?_); rintro e w3 ⟨rfl, r3, hb⟩; have S3 : Two w A A' xs xs w3 := Two.below (by assumption) hb; have cv3 : (convert 22 9 (Value.slice (some ⟨w1.heap.size, 0, none⟩) m' m')).run Tryd.prog w3 = Result.ok (Value.string px) w3 := (conv_row w1.heap.size m' (padL xs m') w3 r3 pl.out).trans (by rw [HPx.out]); have R3 := Lib.hid r3; clear hb r3)
        | ((go_at_call 10; with_reducible refine (pad_m A' n' c' m' xs _ HL.out (by omega) HM.out (Two.bytes' (by assumption))).mono ?_); rintro e w4 ⟨rfl, r4, hb⟩; have S4 : Two w A A' xs xs w4 := Two.below (by assumption) hb; have cv4 := conv_row _ m' (padL xs m') w4 r4 pl.out; rw [HPx.out] at cv4; have cv5 : (convert 22 9 (Value.slice (some ⟨w1.heap.size, 0, none⟩) m' m')).run Tryd.prog w4 = Result.ok (Value.string px) w4 := (conv_row w1.heap.size m' (padL xs m') w4 (R3.out.below hb R3.out.lt) pl.out).trans (by rw [HPx.out]); clear hb r4 R3)
        | ((go_at_call 12; with_reducible refine (sum_any A n' c xs _ HL.out (by omega) (Two.bytes (by assumption)) HR.out (Two.t (by assumption))).mono ?_); rintro e w5 ⟨rfl, hb⟩; have S5 : Two w A A' xs xs w5 := Two.below (by assumption) hb; rw [HS.out]; clear hb)
        | ((go_at_call 12; with_reducible refine (sum_any A' n' c' xs _ HL.out (by omega) (Two.bytes' (by assumption)) HR.out (Two.t (by assumption))).mono ?_); rintro e w6 ⟨rfl, hb⟩; have S6 : Two w A A' xs xs w6 := Two.below (by assumption) hb; rw [HS.out]; clear hb)))
    | fail
    all_goals
      clear cvA cvB
      go_wp2
      go_ret
      exact ⟨rfl, Two.b (by assumption)⟩
  · have ne1 := Lib.hid (fun h => hxy (strOfNums_inj xs ys HR.out HR'.out h))
    have ne2 : Hid (strOfNums (padL xs m) ≠ strOfNums (padL ys m')) := fun h => hxy (padL_inj xs ys m m' (by rw [HL.out]; omega) (by rw [HL'.out]; omega) (by rw [HL.out]; omega) (by rw [HL'.out]; omega) (strOfNums_inj _ _ (padL_range xs m (by rw [HL.out]; omega) HR.out) (padL_range ys m' (by rw [HL'.out]; omega) HR'.out) h))
    have HM := Lib.hid hm
    have HM' := Lib.hid hm'
    clear hm hm' hxy
    generalize strOfNums xs = sx at *
    generalize strOfNums ys = sy at *
    have e1 := ba_list_ne ne1.out
    have e2 : (sx.toList != sy.toList) = true := by rw [bne, e1]; rfl
    generalize hPx : strOfNums (padL xs m) = px at *
    generalize hPy : strOfNums (padL ys m') = py at *
    have e3 := ba_list_ne ne2.out
    have HPx := Lib.hid hPx
    have HPy := Lib.hid hPy
    clear hPx hPy ne1 ne2
    first
    | (go_region_held (fun u => Two w A A' xs ys u) (assumption)
      (first
        | ((go_at_call 10; with_reducible refine (pad_m A n c m xs _ HL.out (by omega) HM.out (Two.bytes (by assumption))).mono ?_); rintro e w3 ⟨rfl, r3, hb⟩; have S3 : Two w A A' xs ys w3 := Two.below (by assumption) hb; have cv3 : (convert 22 9 (Value.slice (some ⟨w1.heap.size, 0, none⟩) m m)).run Tryd.prog w3 = Result.ok (Value.string px) w3 := (conv_row w1.heap.size m (padL xs m) w3 r3 pl.out).trans (by rw [HPx.out]); have R3 := Lib.hid r3; clear hb r3)
        | ((go_at_call 10; with_reducible refine (pad_m A' n' c' m' ys _ HL'.out (by omega) HM'.out (Two.bytes' (by assumption))).mono ?_); rintro e w4 ⟨rfl, r4, hb⟩; have S4 : Two w A A' xs ys w4 := Two.below (by assumption) hb; have cv4 := conv_row _ m' (padL ys m') w4 r4 pl'.out; rw [HPy.out] at cv4; have cv5 : (convert 22 9 (Value.slice (some ⟨w1.heap.size, 0, none⟩) m m)).run Tryd.prog w4 = Result.ok (Value.string px) w4 := (conv_row w1.heap.size m (padL xs m) w4 (R3.out.below hb R3.out.lt) pl.out).trans (by rw [HPx.out]); clear hb r4 R3)))
    | fail
    all_goals
      clear cvA cvB e1 e2 e3
      go_wp2
      go_ret
      exact ⟨rfl, Two.b (by assumption)⟩
end Go.Proofs.YtlccldnjgaldoaaDoor
