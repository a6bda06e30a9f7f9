/- The walk of the law BinCut. -/
import Derived.Test.YthgjfmdbipmhoaaBB
namespace Go.Proofs.Ythgjfmdbipmhoaa
open Go.RowKit

set_option maxHeartbeats 2000000 in
theorem law_cut (A B C : Option Addr) (n c m d k f : Nat) (i : Int) (xs ys zs : List Int) (w : World) (hl : xs.length = n) (hc : n ≤ c) (hn : c ≤ maxLen) (hX : isB xs) (hx : Bytes w w.heap.size A xs)
    (hl2 : ys.length = m) (hc2 : m ≤ d) (hn2 : d ≤ maxLen) (hY : isB ys) (hy : Bytes w w.heap.size B ys) (hl3 : zs.length = k) (hc3 : k ≤ f) (hn3 : f ≤ maxLen) (hZ : isB zs) (hz : Bytes w w.heap.size C zs) (hi : -9223372036854775808 ≤ i ∧ i ≤ 9223372036854775807) :
    Calls Try.prog 5 #[.slice A n c, .slice B m d, .slice C k f, .int .i64 i] w fun e w' => e = .returned (.bool true) ∧ Below w.heap.size w w' := by
  have hn' := hn
  unfold maxLen at hn' hn2 hn3
  have HN := Lib.hid hn
  have HX := Lib.hid hx
  have HY := Lib.hid hy
  have HZ := Lib.hid hz
  have HXB := Lib.hid hX
  have HYB := Lib.hid hY
  have HZB := Lib.hid hZ
  have HL := Lib.hid hl
  have HL2 := Lib.hid hl2
  have HL3 := Lib.hid hl3
  clear hx hy hz hX hY hZ hl hl2 hl3 hn
  go_enter Try.func5, Try.ntmps5
  go_wp2_with fail
  refine (awake_any w).mono ?_
  rintro e w1 ⟨rfl, hb1⟩
  by_cases h1 : (700 : Int) < (n : Int)
  · go_wp2
    go_ret
    exact ⟨rfl, hb1⟩
  by_cases h2 : (700 : Int) < (m : Int)
  · have h1' : (n : Int) ≤ 700 := by omega
    go_wp2
    go_ret
    exact ⟨rfl, hb1⟩
  by_cases h3 : (700 : Int) < (k : Int)
  · have h1' : (n : Int) ≤ 700 := by omega
    have h2' : (m : Int) ≤ 700 := by omega
    go_wp2
    go_ret
    exact ⟨rfl, hb1⟩
  have h1' : (n : Int) ≤ 700 := by omega
  have h2' : (m : Int) ≤ 700 := by omega
  have h3' : (k : Int) ≤ 700 := by omega
  clear h1 h2 h3
  go_wp2_with fail
  refine (blob_any B m d ys w1 HL2.out (by omega) (HY.out.up hb1)).mono ?_
  rintro e w2 ⟨⟨v, rfl, hv⟩, hb2⟩
  have hblen : (blobL ys).length = m + 2 := by rw [blobL_len, HL2.out]; omega
  obtain ⟨P, cp, rfl⟩ := hv.form
  rw [hblen]
  rw [hblen] at hv
  have B2 : Below w.heap.size w w2 := hb1.trans (hb2.mono hb1.size)
  obtain ⟨v3, w3, hrun3, own3, b3⟩ := (OwnB.nil w2 w2.heap.size).append (c := c) HL.out (HX.out.up B2) (by simp; omega) (Nat.le_refl _)
  rw [List.nil_append] at own3
  obtain ⟨A3, c3, rfl⟩ := own3.form
  rw [HL.out] at hrun3 own3
  obtain ⟨v4, w4, hrun4, own4, b4⟩ := own3.append (c := cp) hblen (hv.up.up b3) (by rw [HL.out]; omega) b3.size
  obtain ⟨A4, c4, rfl⟩ := own4.form
  have hl4 : (xs ++ blobL ys).length = n + (m + 2) := by rw [List.length_append, hblen, HL.out]
  rw [hl4] at hrun4 own4
  have B4 : Below w2.heap.size w2 w4 := b3.trans b4
  obtain ⟨v5, w5, hrun5, own5, b5⟩ := own4.append (c := f) HL3.out ((HZ.out.up B2).up B4) (by rw [hl4]; omega) B4.size
  obtain ⟨A5, c5, rfl⟩ := own5.form
  have hl5 : (xs ++ blobL ys ++ zs).length = n + (m + 2) + k := by rw [List.length_append, hl4, HL3.out]
  rw [hl5] at hrun5 own5
  have B5 : Below w2.heap.size w2 w5 := B4.trans b5
  have hcut : cutL (xs ++ blobL ys ++ zs) n = some (ys, n + (m + 2)) := by
    have h := cutL_put xs ys zs (by rw [HL2.out]; omega)
    rw [HL.out, HL2.out] at h
    rw [List.append_assoc, h, Nat.add_comm 2 m]
  have HCUT := Lib.hid (cut_some A5 (n + (m + 2) + k) c5 n (n + (m + 2)) _ ys w5 hl5 own5.cap.1 own5.cap.2 (isB_append.2 ⟨isB_append.2 ⟨HXB.out, blobL_byte HYB.out⟩, HZB.out⟩) own5.up hcut)
  have HR3 := Lib.hid hrun3
  have HR4 := Lib.hid hrun4
  have HR5 := Lib.hid hrun5
  have hp5 : Bytes w5 w5.heap.size P (blobL ys) := hv.up.up B5
  have BB5 := Lib.hid (B2.trans (B5.mono B2.size))
  clear hrun3 hrun4 hrun5 own3 own4 own5 b3 b4 b5 B4 B5 B2 hv hb1 hb2 hcut hl4 hl5 hp5
  go_wp2_with (first
    | (at_builtin; (with_reducible refine wpList_append_run (o := ⟨some 44, _, _, _, _, _⟩) ?_ (.const (.slice none 0 0)) (.tmp 43) ?_ ?_ ?_ ?_ HR3.out ?_); (rfl); (rfl); (rfl); (rfl); (rfl))
    | (at_builtin; (with_reducible refine wpList_append_run (o := ⟨some 46, _, _, _, _, _⟩) ?_ (.tmp 44) (.tmp 45) ?_ ?_ ?_ ?_ HR4.out ?_); (rfl); (rfl); (rfl); (rfl); (rfl))
    | (at_builtin; (with_reducible refine wpList_append_run (o := ⟨some 48, _, _, _, _, _⟩) ?_ (.tmp 46) (.tmp 47) ?_ ?_ ?_ ?_ HR5.out ?_); (rfl); (rfl); (rfl); (rfl); (rfl)))
  refine HCUT.out.mono ?_
  rintro e w6 ⟨⟨v6, rfl, hv6⟩, hb6⟩
  obtain ⟨A6, c6, rfl⟩ := hv6.form
  rw [HL2.out]
  rw [HL2.out] at hv6
  have BB6 := BB5.out.trans (hb6.mono BB5.out.size)
  have HV6 := Lib.hid hv6.up
  clear hv6 hb6 HCUT BB5
  have HCU := Lib.hid (cutU A n c i xs w6 HL.out hc HN.out HXB.out (HX.out.up BB6))
  have HB6 := Lib.hid BB6
  clear BB6
  go_wp2_with fail
  refine HCU.out.mono ?_
  rintro e w7 ⟨⟨A7, c7, rfl, hv7⟩, hb7⟩
  have hcv0 := conv_bytes A6 m c6 _ ys w7 HL2.out (HV6.out.up hb7)
  have hcv1 := conv_bytes B m d _ ys w7 HL2.out ((HY.out.up HB6.out).up hb7)
  have BB7 := Lib.hid (HB6.out.trans (hb7.mono HB6.out.size))
  have hfin : Hid ((cutI xs i = none ∧ cutX xs i = [] ∧ cutTo xs i = 0) ∨ ∃ j x to, i = ((j : Nat) : Int) ∧ cutI xs i = some (x, to) ∧ cutX xs i = x ∧ cutTo xs i = to ∧ to = j + 2 + x.length ∧ to ≤ n) := by
    show _ ∨ _
    unfold cutX cutTo
    cases h : cutI xs i with
    | none => exact .inl ⟨rfl, rfl, rfl⟩
    | some p =>
      obtain ⟨x, to⟩ := p
      have h0 : 0 ≤ i := by
        unfold cutI at h
        split at h
        · assumption
        · cases h
      obtain ⟨j, rfl⟩ := Int.eq_ofNat_of_zero_le h0
      rw [cutI_nat] at h
      obtain ⟨q1, q2, -, -⟩ := cutL_spec h
      exact .inr ⟨j, x, to, rfl, rfl, rfl, rfl, q1, by rw [← HL.out]; exact q2⟩
  clear hv7 hb7 HCU HB6 HV6
  generalize strOfNums ys = s at *
  rcases hfin.out with ⟨e1, e2, e3⟩ | ⟨j, x, to, rfl, e1, e2, e3, e4, e5⟩
  · rw [e1, e2, e3]
    clear hfin e1 e2 e3
    simp only [Option.isSome_none, List.length_nil]
    go_wp2
    go_ret
    exact ⟨rfl, BB7.out⟩
  · rw [e1, e2, e3]
    clear hfin e1 e2 e3
    generalize x.length = q at *
    have e6 : (to : Int) = (j : Int) + 2 + (q : Int) := by omega
    have e7 : (to : Int) ≤ (n : Int) := by omega
    clear e4 e5
    have e8 : (j : Int) + 2 + (q : Int) ≤ (n : Int) := by omega
    simp only [Option.isSome_some]
    go_wp2
    go_ret
    exact ⟨rfl, BB7.out⟩
end Go.Proofs.Ythgjfmdbipmhoaa
