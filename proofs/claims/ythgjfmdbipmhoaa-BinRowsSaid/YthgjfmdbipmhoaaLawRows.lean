/- The walk of the law BinRows. -/
import Derived.Test.YthgjfmdbipmhoaaBB
namespace Go.Proofs.Ythgjfmdbipmhoaa
open Go.RowKit

theorem run_cut1 (A : Option Addr) (n c h : Nat) (w : World) (h2 : h ≤ c) :
    (Instr.sliceAt 23 (.slice A n c) none (some (.int .i64 (h : Int))) none).run Try.prog w = .ok (.slice A h c) w := by
  have ht' : Try.prog.underlying 23 = some (.slice (Try.prog.elem 23)) := by rw [elemB]; exact Try.underlying23
  rw [run_sliceAt_slice w _ _ _ _ _ ht', run_slice_h w 23 _ _ _ ht' .i64 _ (by omega) (by omega), elemB, sizeB]
  have e : (fun a : Addr => a.add (0 * 1)) = id := by
    funext a
    simp [Addr.add]
  simp only [Result.andThen, sliced, e, Option.map_id, Int.toNat_natCast, Nat.sub_zero, ite_self, id]
theorem wpList_cut1 {P : Program} {ops : Array Oper} {rest : List Oper} {o : Oper} {a : Act} {w : World} {Q : Exit → Act → World → Prop} {v hv v' : Value} {t : TypeId} (hgd : o.guard = none) (x h : Operand)
    (ho : o.op = .slice t x none (some h) none) (hx : a.eval x = v) (hh : a.eval h = hv)
    (hrun : (Instr.sliceAt t v none (some hv) none).run P w = .ok v' w) (hk : wpList P ops Q rest (a.put o.dst v') w) : wpList P ops Q (o :: rest) a w :=
  wpList_plain hgd fun _ hK => by
    unfold Oper.wp execOp
    simp only [ho, hx, hh, Option.map_some, Option.map_none, Sem.run_bind, Sem.run_pure, Result.andThen_ok, hrun]
    exact hK _ _ hk
theorem rowsL_pos (l : List (List Int)) : 1 ≤ (rowsL l).length := by rw [rowsL_len]; omega
set_option maxHeartbeats 4000000 in
theorem law_rows (A B : Option Addr) (n c m d : Nat) (k : Int) (xss : List (List Int)) (ys : List Int) (w : World) (hl : xss.length = n) (hn : n ≤ maxLen) (hx : Parts w w.heap.size A xss) (hall : ∀ x ∈ xss, x.length ≤ maxLen)
    (hl2 : ys.length = m) (hc2 : m ≤ d) (hn2 : d ≤ maxLen) (hY : isB ys) (hy : Bytes w w.heap.size B ys) (hk : -9223372036854775808 ≤ k ∧ k ≤ 9223372036854775807) :
    Calls Try.prog 4 #[.slice A n c, .slice B m d, .int .i64 k] w fun e w' => e = .returned (.bool true) ∧ Below w.heap.size w w' := by
  have HN := Lib.hid hn
  have HN2 := Lib.hid hn2
  have HX := Lib.hid hx
  have HY := Lib.hid hy
  have HYB := Lib.hid hY
  have HL := Lib.hid hl
  have HL2 := Lib.hid hl2
  have HALL := Lib.hid hall
  have HXB := Lib.hid hx.byte
  unfold maxLen at hn hn2
  clear hx hy hY hl hl2 hall
  go_enter Try.func4, Try.ntmps4
  go_wp2_with fail
  refine (awake_any w).mono ?_
  rintro e w1 ⟨rfl, hb1⟩
  have HS := Lib.hid (small_any A n c xss w1 HL.out HN.out (HX.out.up hb1) HALL.out)
  go_wp2_with fail
  refine HS.out.mono ?_
  rintro e w2 ⟨rfl, rfl⟩
  cases hsm : smallB xss with
  | false =>
    go_wp2
    go_ret
    exact ⟨rfl, hb1⟩
  | true =>
    have hsm2 : xss.length ≤ 300 ∧ ∀ x ∈ xss, x.length ≤ 400 := by simpa [smallB] using hsm
    obtain ⟨hs1, hs2⟩ := hsm2
    rw [HL.out] at hs1
    have HS2 := Lib.hid hs2
    clear hs2 hsm HS
    by_cases h2 : (700 : Int) < (m : Int)
    · go_wp2
      go_ret
      exact ⟨rfl, hb1⟩
    have h2' : (m : Int) ≤ 700 := by omega
    clear h2
    have h65 : Hid (∀ x ∈ xss, x.length ≤ 65535) := fun x hx => by have := HS2.out x hx; omega
    have HX1 := Lib.hid (HX.out.up hb1)
    have HY1 := Lib.hid (HY.out.up hb1)
    clear HX HY
    have HPB : Hid (isB (rowsD xss) ∧ (rowsD xss).length ≤ 120601) := by
      show _ ∧ _
      unfold rowsD
      split
      · refine ⟨rowsL_byte HXB.out, ?_⟩
        have h := flatL_le xss 400 HS2.out
        unfold rowsL
        rw [List.length_append, putL_len]
        rw [HL.out] at h
        omega
      · exact ⟨isB_nil, by decide⟩
    have HR := Lib.hid (rowsU A n c xss w1 HL.out HN.out HX1.out h65.out)
    go_wp2_with fail
    refine HR.out.mono ?_
    rintro e w3 ⟨⟨A3, c3, rfl, hv3⟩, hb3⟩
    have HB3 := Lib.hid (hb1.trans (hb3.mono hb1.size))
    have HX3 := Lib.hid (HX1.out.up hb3)
    have HY3 := Lib.hid (HY1.out.up hb3)
    have HV3 := Lib.hid hv3.up
    have hcap := hv3.cap
    have HSP := Lib.hid (splitU A3 (rowsD xss).length c3 (rowsD xss) w3 rfl hcap.1 hcap.2 HPB.out.1 HV3.out)
    obtain ⟨r, hr⟩ : ∃ r, (rowsD xss).length = r := ⟨_, rfl⟩
    rw [hr] at HSP hcap ⊢
    have HR0 := Lib.hid hr
    have hr2 : r ≤ 120601 := by have := HPB.out.2; omega
    have HCAP := Lib.hid hcap
    clear hv3 hb3 HR HX1 HY1 hr hcap
    go_wp2_with fail
    refine HSP.out.mono ?_
    rintro e w4 ⟨⟨A4, c4, rfl, hp4⟩, hb4⟩
    have hx4 := HX3.out.up hb4
    have hsd : (splitD (rowsD xss)).length ≤ maxLen := by
      unfold splitD
      cases hs : splitL (rowsD xss) with
      | none => exact Nat.zero_le _
      | some l =>
        have := (rows_split HPB.out.1 hs).2.1
        simp only [Option.getD_some]
        unfold maxLen
        omega
    have HLI := Lib.hid (lists_any A4 A (splitD (rowsD xss)).length c4 n c (splitD (rowsD xss)) xss w4 rfl HL.out hsd HN.out hp4 hx4)
    have HV4 := Lib.hid (HV3.out.up hb4)
    have HB4 := Lib.hid (HB3.out.trans (hb4.mono HB3.out.size))
    have HY4 := Lib.hid (HY3.out.up hb4)
    generalize (splitD (rowsD xss)).length = z4 at *
    clear hp4 hb4 hx4 hsd HSP HB3 HX3 HY3 HV3
    go_wp2_with fail
    refine HLI.out.mono ?_
    rintro e w5 ⟨rfl, hb5⟩
    have HV5 := Lib.hid (HV4.out.up hb5)
    have HB5 := Lib.hid (HB4.out.trans (hb5.mono HB4.out.size))
    have HY5 := Lib.hid (HY4.out.up hb5)
    clear hb5 HLI HB4 HY4 HV4
    have htest : Hid ((n ≤ 255 ∧ splitL (rowsD xss) = some xss ∧ decide (splitD (rowsD xss) = xss) = true) ∨ (255 < n ∧ decide (splitD (rowsD xss) = xss) = false)) := by
      show _ ∨ _
      by_cases h255 : n ≤ 255
      · have e1 : rowsD xss = rowsL xss := by unfold rowsD; rw [if_pos (by rw [HL.out]; exact h255)]
        have e2 := split_rows xss (by rw [HL.out]; exact h255) h65.out
        rw [e1]
        refine .inl ⟨h255, e2, ?_⟩
        unfold splitD
        rw [e2]
        simp
      · have e1 : rowsD xss = [] := by unfold rowsD; rw [if_neg (by rw [HL.out]; exact h255)]
        rw [e1]
        refine .inr ⟨by omega, ?_⟩
        simp only [decide_eq_false_iff_not]
        intro e
        have : xss.length = 0 := by rw [← e]; rfl
        have := HL.out
        omega
    have HSY := Lib.hid (splitU B m d ys w5 HL2.out hc2 HN2.out HYB.out HY5.out)
    have hys : Hid ((∀ x ∈ splitD ys, x.length ≤ 65535) ∧ (splitD ys).length ≤ 255 ∧ (splitL ys = none ∨ ((splitL ys).isSome = true ∧ rowsL (splitD ys) = ys))) := by
      show _ ∧ _
      unfold splitD
      cases hs : splitL ys with
      | none => exact ⟨by simp, by simp, .inl rfl⟩
      | some l =>
        obtain ⟨q1, q2, q3⟩ := rows_split HYB.out hs
        exact ⟨q3, q2, .inr ⟨rfl, q1⟩⟩
    have hstr : Hid ((splitL ys).isSome = false ∨ ((splitL ys).isSome = true ∧ strOfNums (rowsD (splitD ys)) = strOfNums ys)) := by
      rcases hys.out.2.2 with e | ⟨e, e'⟩
      · exact .inl (by rw [e]; rfl)
      · refine .inr ⟨e, ?_⟩
        have : rowsD (splitD ys) = ys := by unfold rowsD; rw [if_pos hys.out.2.1]; exact e'
        rw [this]
    have hsome : Hid (n ≤ 255 → (splitL (rowsD xss)).isSome = true) := by
      intro h
      rcases htest.out with ⟨_, e, _⟩ | ⟨h', _⟩
      · rw [e]; rfl
      · omega
    rcases htest.out with ⟨h255, e1, e2⟩ | ⟨h255, e2⟩
    · have hd : decide (n ≤ 255) = true := by simpa using h255
      have hn255 : (n : Int) ≤ 255 := by omega
      rw [hd, hsome.out h255, e2]
      clear htest hsome e1 e2 hd
      have e1 : Hid (rowsD xss = rowsL xss) := by show _ = _; unfold rowsD; rw [if_pos (by rw [HL.out]; exact h255)]
      go_wp2_with fail
      refine HSY.out.mono ?_
      rintro e w6 ⟨⟨A6, c6, rfl, hp6⟩, hb6⟩
      have HP6 := Lib.hid hp6
      have HV6 := Lib.hid (HV5.out.up hb6)
      have HB6 := Lib.hid (HB5.out.trans (hb6.mono HB5.out.size))
      have HY6 := Lib.hid (HY5.out.up hb6)
      have hz6 := hys.out.2.1
      have HR6 := Lib.hid (rowsU A6 (splitD ys).length c6 (splitD ys) w6 rfl (by unfold maxLen; omega) HP6.out hys.out.1)
      have hd6 : decide ((splitD ys).length ≤ 255) = true := by simpa using hz6
      rw [hd6] at HR6
      clear hp6 hb6 HSY HV5 HB5 HY5 hd6
      generalize (splitD ys).length = z6 at *
      go_wp2_with fail
      refine HR6.out.mono ?_
      rintro e w7 ⟨⟨A7, c7, rfl, hv7⟩, hb7⟩
      have hv7' := hv7.up
      have HV7 := Lib.hid (HV6.out.up hb7)
      have HB7 := Lib.hid (HB6.out.trans (hb7.mono HB6.out.size))
      have hy7 := HY6.out.up hb7
      have hcv0 := conv_bytes A7 (rowsD (splitD ys)).length c7 _ (rowsD (splitD ys)) w7 rfl hv7'
      have hcv1 := conv_bytes B m d _ ys w7 HL2.out hy7
      -- what is put behind
      obtain ⟨v8, w8, hrun8, own8, b8⟩ := (OwnB.nil w7 w7.heap.size).append (c := c3) HR0.out HV7.out (by simp; omega) (Nat.le_refl _)
      rw [List.nil_append] at own8
      have hba : Below w8.heap.size w8 (w8.alloc (.cells #[.int .u8 0] 5)) := (Below.refl _ _).alloc (Nat.le_refl _) _
      have hb0 : Bytes (w8.alloc (.cells #[.int .u8 0] 5)) (w8.alloc (.cells #[.int .u8 0] 5)).heap.size (some ⟨w8.heap.size, 0, none⟩) [0] := (own_of_row (B := 0) (n := 1) (xs := [0]) (Row.new w8 5 #[.int .u8 0]) rfl (Nat.zero_le _) (by decide)).up
      obtain ⟨v9, w9, hrun9, own9, b9⟩ := (own8.below hba).append (m := 1) (c := 1) rfl hb0 (by rw [HR0.out]; omega) (Nat.le_trans b8.size (by simp))
      obtain ⟨A8, c8, rfl⟩ := own8.form
      obtain ⟨A9, c9, rfl⟩ := own9.form
      rw [List.length_append, HR0.out, List.length_singleton] at own9 hrun9
      rw [HR0.out] at hrun8 own8
      have B9 : Below w7.heap.size w7 w9 := (b8.trans (hba.mono b8.size)).trans b9
      have HS9 := Lib.hid (splitU A9 (r + 1) c9 (rowsD xss ++ [0]) w9 (by rw [List.length_append, HR0.out, List.length_singleton]) own9.cap.1 own9.cap.2 (isB_append.2 ⟨HPB.out.1, by intro x hx; simp at hx; omega⟩) own9.up)
      have HR8 := Lib.hid hrun8
      have HR9 := Lib.hid hrun9
      have HB9 := Lib.hid (HB7.out.trans (B9.mono HB7.out.size))
      have HV9 := Lib.hid (HV7.out.up B9)
      have hmore : Hid ((splitL (rowsD xss ++ [0])).isSome = false) := by
        show _ = _
        rw [e1.out, split_longer (rowsL_byte HXB.out) (split_rows xss (by rw [HL.out]; exact h255) h65.out) [0] (by intro x hx; simp at hx; omega) (by simp)]
        rfl
      rw [hmore.out] at HS9
      have hr1 : 1 ≤ r := by have h1 := HR0.out; rw [e1.out] at h1; have := rowsL_pos xss; omega
      have hshort : Hid (∀ j : Nat, j < r → (splitL ((rowsD xss).take j)).isSome = false) := by
        intro j hj
        rw [e1.out, split_shorter (by rw [HL.out]; exact h255) h65.out HXB.out (by have h1 := HR0.out; rw [e1.out] at h1; omega)]
        rfl
      clear hv7 hb7 hv7' hy7 hrun8 hrun9 own8 own9 b8 b9 hba hb0 B9 HR6 HY6 HB6 HV6 HP6 hmore
      clear hys
      generalize strOfNums (rowsD (splitD ys)) = s0 at *
      generalize strOfNums ys = s1 at *
      generalize (rowsD (splitD ys)).length = z7 at *
      rcases hstr.out with hq | ⟨hq, rfl⟩
      all_goals
        rw [hq]
        clear hstr hq
        go_wp2_with (first
          | (at_builtin; (with_reducible refine wpList_append_run (o := ⟨some 90, _, _, _, _, _⟩) ?_ (.const (.slice none 0 0)) (.tmp 89) ?_ ?_ ?_ ?_ HR8.out ?_); (rfl); (rfl); (rfl); (rfl); (rfl))
          | (at_builtin; (with_reducible refine wpList_append_run (o := ⟨some 92, _, _, _, _, _⟩) ?_ (.tmp 90) (.tmp 91) ?_ ?_ ?_ ?_ HR9.out ?_); (rfl); (rfl); (rfl); (rfl); (rfl)))
        refine HS9.out.mono ?_
        rintro e w10 ⟨⟨A10, c10, rfl, hp10⟩, hb10⟩
        have HB10 := Lib.hid (HB9.out.trans (hb10.mono HB9.out.size))
        have HV10 := Lib.hid (HV9.out.up hb10)
        clear hp10 hb10
        generalize (splitD (rowsD xss ++ [0])).length = z10 at *
        by_cases hk0 : k < 0
        · go_wp2
          go_ret
          exact ⟨rfl, HB10.out⟩
        by_cases hk1 : (r : Int) ≤ k
        · have hk0' : 0 ≤ k := by omega
          go_wp2
          go_ret
          exact ⟨rfl, HB10.out⟩
        obtain ⟨j, rfl⟩ := Int.eq_ofNat_of_zero_le (by omega : 0 ≤ k)
        have hj : j < r := by omega
        have hj2 : (j : Int) < (r : Int) := by omega
        have hj0 : (0 : Int) ≤ (j : Int) := by omega
        have hjc : j ≤ c3 := by have := HCAP.out.1; omega
        have HCU := Lib.hid (fun w => run_cut1 A3 r c3 j w hjc)
        have HS10 := Lib.hid (splitU A3 j c3 ((rowsD xss).take j) w10 (by rw [List.length_take, HR0.out]; omega) hjc HCAP.out.2 (isB_take HPB.out.1 _) (HV10.out.take j))
        rw [hshort.out j hj] at HS10
        clear hk0 hk1
        go_wp2_with ((with_reducible refine wpList_cut1 (o := ⟨some 117, _, _, _, _, _⟩) ?_ (.tmp 115) (.tmp 116) ?_ ?_ ?_ (HCU.out _) ?_); (rfl); (rfl); (rfl); (rfl))
        refine HS10.out.mono ?_
        rintro e w11 ⟨⟨A11, c11, rfl, hp11⟩, hb11⟩
        have HB11 := Lib.hid (HB10.out.trans (hb11.mono HB10.out.size))
        clear hp11 hb11
        go_wp2
        go_ret
        exact ⟨rfl, HB11.out⟩
    · have hd : decide (n ≤ 255) = false := by simpa using h255
      have hn255 : (255 : Int) < (n : Int) := by omega
      rw [hd, e2]
      clear htest hsome e2 hd
      generalize (splitL (rowsD xss)).isSome = b0 at *
      go_wp2_with fail
      refine HSY.out.mono ?_
      rintro e w6 ⟨⟨A6, c6, rfl, hp6⟩, hb6⟩
      have HP6 := Lib.hid hp6
      have HV6 := Lib.hid (HV5.out.up hb6)
      have HB6 := Lib.hid (HB5.out.trans (hb6.mono HB5.out.size))
      have HY6 := Lib.hid (HY5.out.up hb6)
      have hz6 := hys.out.2.1
      have HR6 := Lib.hid (rowsU A6 (splitD ys).length c6 (splitD ys) w6 rfl (by unfold maxLen; omega) HP6.out hys.out.1)
      have hd6 : decide ((splitD ys).length ≤ 255) = true := by simpa using hz6
      rw [hd6] at HR6
      clear hp6 hb6 HSY HV5 HB5 HY5 hd6
      generalize (splitD ys).length = z6 at *
      go_wp2_with fail
      refine HR6.out.mono ?_
      rintro e w7 ⟨⟨A7, c7, rfl, hv7⟩, hb7⟩
      have hv7' := hv7.up
      have HV7 := Lib.hid (HV6.out.up hb7)
      have HB7 := Lib.hid (HB6.out.trans (hb7.mono HB6.out.size))
      have hy7 := HY6.out.up hb7
      have hcv0 := conv_bytes A7 (rowsD (splitD ys)).length c7 _ (rowsD (splitD ys)) w7 rfl hv7'
      have hcv1 := conv_bytes B m d _ ys w7 HL2.out hy7
      -- what is put behind
      obtain ⟨v8, w8, hrun8, own8, b8⟩ := (OwnB.nil w7 w7.heap.size).append (c := c3) HR0.out HV7.out (by simp; omega) (Nat.le_refl _)
      rw [List.nil_append] at own8
      have hba : Below w8.heap.size w8 (w8.alloc (.cells #[.int .u8 0] 5)) := (Below.refl _ _).alloc (Nat.le_refl _) _
      have hb0 : Bytes (w8.alloc (.cells #[.int .u8 0] 5)) (w8.alloc (.cells #[.int .u8 0] 5)).heap.size (some ⟨w8.heap.size, 0, none⟩) [0] := (own_of_row (B := 0) (n := 1) (xs := [0]) (Row.new w8 5 #[.int .u8 0]) rfl (Nat.zero_le _) (by decide)).up
      obtain ⟨v9, w9, hrun9, own9, b9⟩ := (own8.below hba).append (m := 1) (c := 1) rfl hb0 (by rw [HR0.out]; omega) (Nat.le_trans b8.size (by simp))
      obtain ⟨A8, c8, rfl⟩ := own8.form
      obtain ⟨A9, c9, rfl⟩ := own9.form
      rw [List.length_append, HR0.out, List.length_singleton] at own9 hrun9
      rw [HR0.out] at hrun8 own8
      have B9 : Below w7.heap.size w7 w9 := (b8.trans (hba.mono b8.size)).trans b9
      have HS9 := Lib.hid (splitU A9 (r + 1) c9 (rowsD xss ++ [0]) w9 (by rw [List.length_append, HR0.out, List.length_singleton]) own9.cap.1 own9.cap.2 (isB_append.2 ⟨HPB.out.1, by intro x hx; simp at hx; omega⟩) own9.up)
      have HR8 := Lib.hid hrun8
      have HR9 := Lib.hid hrun9
      have HB9 := Lib.hid (HB7.out.trans (B9.mono HB7.out.size))
      have HV9 := Lib.hid (HV7.out.up B9)
      clear hv7 hb7 hv7' hy7 hrun8 hrun9 own8 own9 b8 b9 hba hb0 B9 HR6 HY6 HB6 HV6 HP6
      clear hys
      generalize strOfNums (rowsD (splitD ys)) = s0 at *
      generalize strOfNums ys = s1 at *
      generalize (rowsD (splitD ys)).length = z7 at *
      rcases hstr.out with hq | ⟨hq, rfl⟩
      all_goals
        rw [hq]
        clear hstr hq
        go_wp2_with (first
          | (at_builtin; (with_reducible refine wpList_append_run (o := ⟨some 90, _, _, _, _, _⟩) ?_ (.const (.slice none 0 0)) (.tmp 89) ?_ ?_ ?_ ?_ HR8.out ?_); (rfl); (rfl); (rfl); (rfl); (rfl))
          | (at_builtin; (with_reducible refine wpList_append_run (o := ⟨some 92, _, _, _, _, _⟩) ?_ (.tmp 90) (.tmp 91) ?_ ?_ ?_ ?_ HR9.out ?_); (rfl); (rfl); (rfl); (rfl); (rfl)))
        refine HS9.out.mono ?_
        rintro e w10 ⟨⟨A10, c10, rfl, hp10⟩, hb10⟩
        have HB10 := Lib.hid (HB9.out.trans (hb10.mono HB9.out.size))
        have HV10 := Lib.hid (HV9.out.up hb10)
        clear hp10 hb10
        generalize (splitD (rowsD xss ++ [0])).length = z10 at *
        generalize (splitL (rowsD xss ++ [0])).isSome = b1 at *
        go_wp2
        go_ret
        exact ⟨rfl, HB10.out⟩
end Go.Proofs.Ythgjfmdbipmhoaa
