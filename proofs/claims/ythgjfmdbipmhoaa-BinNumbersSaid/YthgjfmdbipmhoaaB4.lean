/- The walks of Cut, Blob and Rows. -/
import Derived.Test.YthgjfmdbipmhoaaB3
namespace Go.Proofs.Ythgjfmdbipmhoaa
open Go.RowKit

theorem cut_none (A : Option Addr) (n c : Nat) (i : Int) (xs : List Int) (w : World) (hl : xs.length = n) (hc : n ≤ c) (hn : c ≤ maxLen) (hB : isB xs) (hx : Bytes w w.heap.size A xs) (h : cutI xs i = none) :
    Calls Try.prog 16 #[.slice A n c, .int .i64 i] w fun e w' => e = .returned (.tuple #[.slice none 0 0, .int .i64 0, .bool false]) ∧ w = w' := by
  have HP := Lib.hid (part_none A n c i xs w hl hc hn hB hx h)
  clear hl hc hn hB hx h
  go_enter Try.func16, Try.ntmps16
  go_wp2_with fail
  refine HP.out.mono ?_
  rintro e w1 ⟨rfl, rfl⟩
  go_wp2
  go_returns
  exact ⟨rfl, rfl⟩
theorem cut_some (A : Option Addr) (n c i to : Nat) (xs x : List Int) (w : World) (hl : xs.length = n) (hc : n ≤ c) (hn : c ≤ maxLen) (hB : isB xs) (hx : Bytes w w.heap.size A xs) (h : cutL xs i = some (x, to)) :
    Calls Try.prog 16 #[.slice A n c, .int .i64 i] w fun e w' => (∃ v, e = .returned (.tuple #[v, .int .i64 to, .bool true]) ∧ OwnB w' w.heap.size v x) ∧ Below w.heap.size w w' := by
  obtain ⟨h1, h2, h3, h4⟩ := cutL_spec h
  have h5 := (cutL_blob hB h).2
  have HP := Lib.hid (part_some A n c i to xs x w hl hc hn hB hx h)
  have hy := hx.cut (i + 2) x.length to (by omega)
  rw [← h3] at hy
  have HC := Lib.hid (clone_any (cutA A (i + 2) to) x.length x.length x w rfl hy (by omega))
  clear hl hc hn hB hx h h1 h2 h3 h4 h5 hy
  go_enter Try.func16, Try.ntmps16
  go_wp2_with fail
  refine HP.out.mono ?_
  rintro e w1 ⟨rfl, rfl⟩
  go_wp2_with fail
  refine HC.out.mono ?_
  rintro e w1 ⟨⟨v, rfl, hv⟩, hb⟩
  have HV := Lib.hid hv
  have BB := Lib.hid hb
  clear hv hb
  go_wp2
  go_returns
  exact ⟨⟨_, rfl, HV.out⟩, BB.out⟩
theorem blob_any (A : Option Addr) (n c : Nat) (xs : List Int) (w : World) (hl : xs.length = n) (hn : n ≤ 65535) (hx : Bytes w w.heap.size A xs) :
    Calls Try.prog 15 #[.slice A n c] w fun e w' => (∃ v, e = .returned (.tuple #[v, .bool true]) ∧ OwnB w' w.heap.size v (blobL xs)) ∧ Below w.heap.size w w' := by
  have n0 : ¬ (65535 : Int) < (n : Int) := by omega
  have n1 : (n : Int) ≤ 65535 := by omega
  have HP := Lib.hid (put_any n 2 w (by omega) (by omega))
  have HX := Lib.hid hx
  have HL := Lib.hid hl
  clear hl hx
  go_enter Try.func15, Try.ntmps15
  go_wp2_with fail
  refine HP.out.mono ?_
  rintro e w1 ⟨⟨v, rfl, hv⟩, hb⟩
  obtain ⟨v', w', hrun, hown, hb2⟩ := hv.append (c := c) HL.out (HX.out.below hb) (by rw [putL_len]; omega) hb.size
  have HRUN := Lib.hid hrun
  have HO := Lib.hid hown
  have HB2 := Lib.hid (hb.trans hb2)
  clear hrun hown hb hb2 hv HX
  go_wp2_with (at_builtin; (with_reducible refine wpList_append_run (o := ⟨some 12, _, _, _, _, _⟩) ?_ (.tmp 10) (.tmp 11) ?_ ?_ ?_ ?_ HRUN.out ?_); (rfl); (rfl); (rfl); (rfl); (rfl))
  go_returns
  refine ⟨⟨_, rfl, ?_⟩, HB2.out⟩
  have e : blobL xs = putL n 2 ++ xs := by unfold blobL; rw [HL.out]
  rw [e]
  exact HO.out
theorem rows_none (A : Option Addr) (n c : Nat) (w : World) (hn : 255 < n) (h63 : n ≤ maxLen) :
    Calls Try.prog 12 #[.slice A n c] w fun e w' => e = .returned (.tuple #[.slice none 0 0, .bool false]) ∧ w = w' := by
  unfold maxLen at h63
  have n0 : (255 : Int) < (n : Int) := by omega
  go_enter Try.func12, Try.ntmps12
  go_wp2
  go_returns
  exact ⟨rfl, rfl⟩
theorem flatL_snoc (l : List (List Int)) (x : List Int) : flatL (l ++ [x]) = flatL l ++ blobL x := by
  unfold flatL
  simp
theorem flatL_take (l : List (List Int)) (k : Nat) (x : List Int) (h : l[k]? = some x) : flatL (l.take (k + 1)) = flatL (l.take k) ++ blobL x := by
  rw [List.take_add_one, h]
  exact flatL_snoc _ _
theorem flatL_le (l : List (List Int)) (m : Nat) (h : ∀ x ∈ l, x.length ≤ m) : (flatL l).length ≤ (2 + m) * l.length := by
  induction l with
  | nil => exact Nat.zero_le _
  | cons x l ih =>
    have h1 := h x (List.mem_cons_self ..)
    have h2 := ih (fun y hy => h y (List.mem_cons_of_mem _ hy))
    rw [flatL_cons, List.length_append, blobL_len, List.length_cons, Nat.mul_succ]
    omega
set_option maxHeartbeats 1000000 in
theorem rows_some (A : Option Addr) (n c : Nat) (xss : List (List Int)) (w : World) (hl : xss.length = n) (hn : n ≤ 255) (hx : Parts w w.heap.size A xss) (hs : ∀ x ∈ xss, x.length ≤ 65535) :
    Calls Try.prog 12 #[.slice A n c] w fun e w' => (∃ v, e = .returned (.tuple #[v, .bool true]) ∧ OwnB w' w.heap.size v (rowsL xss)) ∧ Below w.heap.size w w' := by
  have n0 : ¬ (255 : Int) < (n : Int) := by omega
  have n1 : (n : Int) ≤ 255 := by omega
  have HP := Lib.hid (put_any n 1 w (by omega) (by omega))
  have HX := Lib.hid hx
  have HL := Lib.hid hl
  have HS := Lib.hid hs
  clear hl hx hs
  go_enter Try.func12, Try.ntmps12
  go_wp2_with fail
  refine HP.out.mono ?_
  rintro e w1 ⟨⟨v, rfl, hv⟩, hb⟩
  have HV := Lib.hid hv
  have BB := Lib.hid hb
  clear hv hb HP
  go_wp2_with fail
  go_loopw [4, 18] (fun v i u => ∃ j : Nat, j ≤ n ∧ i = .int .i64 j ∧ Hid (Below w.heap.size w u ∧ OwnB u w.heap.size v (putL n 1 ++ flatL (xss.take j)))) (fun _ i _ => n - (intOf i).toNat)
  case atStart => exact ⟨0, by omega, rfl, BB.out, by simpa [flatL] using HV.out⟩
  case round =>
    obtain ⟨j, hj, rfl, hrows⟩ := hrel
    obtain ⟨hbl, hown⟩ := hrows.out
    by_cases hlt : j < n
    · have hg := List.getElem?_eq_getElem (by rw [HL.out]; exact hlt : j < xss.length)
      obtain ⟨b, o, a, c1, rfl, hb, hc, hy, hr⟩ := HX.out j _ hg
      have hst := Lib.hid (flatL_take xss j _ hg)
      have hlen := HS.out _ (List.getElem_mem (by rw [HL.out]; exact hlt : j < xss.length))
      generalize xss[j]'(by rw [HL.out]; exact hlt) = ys at *
      have hcell := (hbl.cell (p := ⟨b, o + j, none⟩) hb).trans hc
      have hj2 : (j : Int) < (n : Int) := by omega
      have hys : (ys.length : Int) ≤ 65535 := by omega
      have HBL := Lib.hid (blob_any a ys.length c1 ys wr rfl hlen ((hy.below hbl).more hbl.size))
      have HLE : Hid ((putL n 1 ++ flatL (xss.take j)).length ≤ 16777216) := by
        have h1 := flatL_le (xss.take j) 65535 (fun x hx => HS.out x (List.mem_of_mem_take hx))
        have h2 : (xss.take j).length = j := by rw [List.length_take, HL.out]; omega
        rw [h2] at h1
        show _ ≤ _
        rw [List.length_append, putL_len]
        omega
      clear hg hc hy hr hrows
      have HO := Lib.hid hown
      have HB1 := Lib.hid hbl
      clear hown hbl
      go_wp2_with fail
      refine HBL.out.mono ?_
      rintro e w2 ⟨⟨v2, rfl, hv2⟩, hb2⟩
      obtain ⟨A2, c2, rfl⟩ := hv2.form
      obtain ⟨e1, hy2⟩ := hv2.bytes
      obtain ⟨v3, w3, hrun, hown3, hb3⟩ := (HO.out.below hb2).append (c := c2) rfl hy2 (by have := HLE.out; rw [blobL_len]; omega) (Nat.le_trans HB1.out.size hb2.size)
      have HRUN := Lib.hid hrun
      have HO3 := Lib.hid hown3
      have HB3 := Lib.hid ((HB1.out.trans (hb2.mono HB1.out.size)).trans hb3)
      clear hrun hown3 hb3 hb2 hv2 hy2 e1
      go_wp2_with (at_builtin; (with_reducible refine wpList_append_run (o := ⟨some 31, _, _, _, _, _⟩) ?_ (.tmp 29) (.tmp 30) ?_ ?_ ?_ ?_ HRUN.out ?_); (rfl); (rfl); (rfl); (rfl); (rfl))
      go_roundw
      case rel =>
        refine ⟨j + 1, by omega, by go_num, HB3.out, ?_⟩
        rw [hst.out, ← List.append_assoc]
        exact HO3.out
      case measure => simp [intOf]; omega
    · obtain rfl : j = n := by omega
      have hT : xss.take j = xss := List.take_of_length_le (by rw [HL.out]; exact Nat.le_refl _)
      have he : Hid (OwnB wr w.heap.size u4 (rowsL xss)) := by
        show OwnB _ _ _ _
        unfold rowsL
        rw [HL.out]
        rwa [hT] at hown
      clear hown hrows
      go_wp2
      go_returns
      exact ⟨⟨_, rfl, he.out⟩, hbl⟩
end Go.Proofs.Ythgjfmdbipmhoaa
