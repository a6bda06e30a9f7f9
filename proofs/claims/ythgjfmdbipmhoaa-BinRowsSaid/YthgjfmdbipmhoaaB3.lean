/- The walks of partAt, bytes.Clone, Cut, Blob. -/
import Derived.Test.YthgjfmdbipmhoaaB2
import Derived.Lib.SliceRun
namespace Go.Proofs.Ythgjfmdbipmhoaa
open Go.RowKit

/-- what Cut answers, at any place -/
def cutI (b : List Int) (i : Int) : Option (List Int × Nat) := if 0 ≤ i then cutL b i.toNat else none
theorem cutI_nat (b : List Int) (i : Nat) : cutI b (i : Int) = cutL b i := by unfold cutI; rw [if_pos (by omega), Int.toNat_natCast]
set_option maxHeartbeats 1000000 in
theorem part_none (A : Option Addr) (n c : Nat) (i : Int) (xs : List Int) (w : World) (hl : xs.length = n) (hc : n ≤ c) (hn : c ≤ maxLen) (hB : isB xs) (hx : Bytes w w.heap.size A xs) (h : cutI xs i = none) :
    Calls Try.prog 20 #[.slice A n c, .int .i64 i] w fun e w' => e = .returned (.tuple #[.slice none 0 0, .int .i64 0, .bool false]) ∧ w = w' := by
  by_cases hg : getV xs i 2 = none
  · have HG := Lib.hid (get_none A n c i 2 xs w hl (by omega) hg)
    clear hg hl hc hn hB hx h
    go_enter Try.func20, Try.ntmps20
    go_wp2_with fail
    refine HG.out.mono ?_
    rintro e w1 ⟨rfl, rfl⟩
    go_wp2
    go_returns
    exact ⟨rfl, rfl⟩
  · unfold maxLen at hn
    unfold getV at hg
    by_cases hcond : 0 ≤ (2 : Int) ∧ (2 : Int) ≤ 8 ∧ 0 ≤ i ∧ i + 2 ≤ xs.length
    · obtain ⟨_, _, h3, h4⟩ := hcond
      obtain ⟨j, rfl⟩ := Int.eq_ofNat_of_zero_le h3
      have HG := Lib.hid (get_some A n c j 2 xs w hl hc (by unfold maxLen; omega) hB hx (by omega) (by omega))
      have h5 := getL_lt ((xs.drop j).take 2) (isB_take (isB_drop hB _) _)
      have h6 : ((xs.drop j).take 2).length = 2 := by rw [List.length_take, List.length_drop]; omega
      rw [h6] at h5
      rw [cutI_nat] at h
      unfold cutL at h
      rw [if_pos (by omega)] at h
      have h7 : (n : Int) - ((j : Int) + 2) < (getL ((xs.drop j).take 2) : Int) := by
        by_cases h8 : j + 2 + getL ((xs.drop j).take 2) ≤ xs.length
        · simp only [if_pos h8] at h
          cases h
        · omega
      generalize getL ((xs.drop j).take 2) = q at *
      have hj : (j : Int) + 2 ≤ n := by omega
      have hq : (q : Int) < 65536 := by omega
      clear hg hl hB hx h h3 h4 h5 h6
      go_enter Try.func20, Try.ntmps20
      go_wp2_with fail
      refine HG.out.mono ?_
      rintro e w1 ⟨rfl, rfl⟩
      go_wp2
      go_returns
      exact ⟨rfl, rfl⟩
    · rw [if_neg hcond] at hg
      exact absurd rfl hg
set_option maxHeartbeats 1000000 in
theorem part_some (A : Option Addr) (n c i to : Nat) (xs x : List Int) (w : World) (hl : xs.length = n) (hc : n ≤ c) (hn : c ≤ maxLen) (hB : isB xs) (hx : Bytes w w.heap.size A xs) (h : cutL xs i = some (x, to)) :
    Calls Try.prog 20 #[.slice A n c, .int .i64 i] w fun e w' => e = .returned (.tuple #[.slice (cutA A (i + 2) to) x.length x.length, .int .i64 to, .bool true]) ∧ w = w' := by
  obtain ⟨h1, h2, h3, h4⟩ := cutL_spec h
  have hcut := fun w => run_cut3 A n c (i + 2) to to w (by omega) (by omega) (by omega)
  rw [show to - (i + 2) = x.length by omega] at hcut
  unfold maxLen at hn
  have HG := Lib.hid (get_some A n c i 2 xs w hl hc (by unfold maxLen; omega) hB hx (by omega) (by omega))
  rw [← h4] at HG
  have h5 := getL_lt ((xs.drop i).take 2) (isB_take (isB_drop hB _) _)
  have h6 : ((xs.drop i).take 2).length = 2 := by rw [List.length_take, List.length_drop]; omega
  rw [h6, ← h4] at h5
  clear h h3 h4 h6 hB hx
  generalize x.length = q at *
  subst h1
  have hq : q < 65536 := by omega
  have hj : i + 2 + q ≤ n := by omega
  have HCUT := Lib.hid hcut
  have E1 : Hid ((i : Int) + 2 + (q : Int) = ((i + 2 + q : Nat) : Int)) := by show _ = _; omega
  have E2 : Hid ((i : Int) + 2 = ((i + 2 : Nat) : Int)) := by show _ = _; omega
  clear hcut h5 hl h2
  go_enter Try.func20, Try.ntmps20
  go_wp2_with fail
  refine HG.out.mono ?_
  rintro e w1 ⟨rfl, rfl⟩
  go_wp2_with ((with_reducible refine wpList_cut3 (o := ⟨some 36, _, _, _, _, _⟩) ?_ (.tmp 32) (.tmp 33) (.tmp 34) (.tmp 35) ?_ ?_ ?_ ?_ ?_ (HCUT.out _) ?_); (rfl); (rfl); (rfl); (rfl); (rfl); (rfl))
  go_returns
  exact ⟨rfl, rfl⟩
set_option maxHeartbeats 1000000 in
theorem clone_any (A : Option Addr) (n c : Nat) (xs : List Int) (w : World) (hl : xs.length = n) (hx : Bytes w w.heap.size A xs) (hn : n ≤ 70368744177664) :
    Calls Try.prog 19 #[.slice A n c] w fun e w' => (∃ v, e = .returned v ∧ OwnB w' w.heap.size v xs) ∧ Below w.heap.size w w' := by
  have q22 : ∀ (w : World) (a : Option Addr) (n c n' c' : Nat), (binOp .eql 23 (.slice a n c) (.slice none n' c')).run Try.prog w = .ok (.bool a.isNone) w := fun w a n c n' c' => Lib.run_eql_slice_nil w _ _ a n c n' c' Try.underlying23
  cases A with
  | none =>
    obtain rfl : xs = [] := by
      cases xs with
      | nil => rfl
      | cons x xs => obtain ⟨ad, e, _⟩ := hx (by simp); cases e
    go_enter Try.func19, Try.ntmps19
    go_wp2
    go_ret
    exact ⟨⟨_, rfl, OwnB.nil _ _⟩, Below.refl _ _⟩
  | some ad =>
    have HX := Lib.hid hx
    have HL := Lib.hid hl
    have e0 : OwnB (w.alloc (.cells #[] 5)) w.heap.size (.slice (some ⟨w.heap.size, 0, none⟩) 0 0) [] := own_of_row (Row.new w 5 #[]) rfl (Nat.le_refl _) (Nat.zero_le _)
    have hba : Below w.heap.size w (w.alloc (.cells #[] 5)) := (Below.refl _ _).alloc (Nat.le_refl _) _
    obtain ⟨v', w', hrun, hown, hb⟩ := e0.append (c := c) hl (hx.below hba) (by simpa using hn) (by simp)
    have HRUN := Lib.hid hrun
    have HO := Lib.hid hown
    have HB2 := Lib.hid (hba.trans hb)
    clear hl hx hrun hown hb e0 hba
    go_enter Try.func19, Try.ntmps19
    go_wp2_with (at_builtin; (with_reducible refine wpList_append_run (o := ⟨some 7, _, _, _, _, _⟩) ?_ (.tmp 5) (.tmp 6) ?_ ?_ ?_ ?_ HRUN.out ?_); (rfl); (rfl); (rfl); (rfl); (rfl))
    go_ret
    exact ⟨⟨_, rfl, by simpa using HO.out⟩, HB2.out⟩
end Go.Proofs.Ythgjfmdbipmhoaa
