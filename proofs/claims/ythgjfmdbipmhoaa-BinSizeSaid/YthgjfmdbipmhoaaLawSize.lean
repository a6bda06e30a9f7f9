/- The walk of the law BinSize. -/
import Derived.Test.YthgjfmdbipmhoaaBB
namespace Go.Proofs.Ythgjfmdbipmhoaa
open Go.RowKit

def szL (l : List (List Int)) : Nat := 1 + (l.map (fun x => 2 + x.length)).sum
theorem szL_take (l : List (List Int)) (k : Nat) (x : List Int) (h : l[k]? = some x) : szL (l.take (k + 1)) = szL (l.take k) + 2 + x.length := by
  unfold szL
  rw [List.take_add_one, h, List.map_append, List.sum_append]
  simp
  omega
theorem szL_le (l : List (List Int)) (m : Nat) (h : ∀ x ∈ l, x.length ≤ m) : szL l ≤ 1 + (2 + m) * l.length := by
  unfold szL
  induction l with
  | nil => simp
  | cons x l ih =>
    have h1 := h x (List.mem_cons_self ..)
    have h2 := ih (fun y hy => h y (List.mem_cons_of_mem _ hy))
    rw [List.map_cons, List.sum_cons, List.length_cons, Nat.mul_succ]
    omega
theorem szL_mono (l : List (List Int)) (k : Nat) : szL (l.take k) ≤ szL l := by
  unfold szL
  conv => rhs; rw [← List.take_append_drop k l, List.map_append, List.sum_append]
  omega
set_option maxHeartbeats 4000000 in
theorem law_size (A B : Option Addr) (n c m d : Nat) (xss : List (List Int)) (ys : List Int) (w : World) (hl : xss.length = n) (hn : n ≤ maxLen) (hx : Parts w w.heap.size A xss) (hall : ∀ x ∈ xss, x.length ≤ maxLen)
    (hl2 : ys.length = m) (hc2 : m ≤ d) (hn2 : d ≤ maxLen) (hY : isB ys) (hy : Bytes w w.heap.size B ys) :
    Calls Try.prog 7 #[.slice A n c, .slice B m d] w fun e w' => e = .returned (.bool true) ∧ Below w.heap.size w w' := by
  have HN := Lib.hid hn
  have HN2 := Lib.hid hn2
  have HX := Lib.hid hx
  have HY := Lib.hid hy
  have HYB := Lib.hid hY
  have HL := Lib.hid hl
  have HL2 := Lib.hid hl2
  have HALL := Lib.hid hall
  unfold maxLen at hn hn2
  clear hx hy hY hl hl2 hall
  go_enter Try.func7, Try.ntmps7
  go_wp2_with fail
  refine (awake_any w).mono ?_
  rintro e w1 ⟨rfl, hb1⟩
  have HS := Lib.hid (small_any A n c xss w1 HL.out HN.out (HX.out.up hb1) HALL.out)
  go_wp2_with fail
  refine HS.out.mono ?_
  rintro e w2 ⟨rfl, rfl⟩
  cases hsm : smallB xss with
  | false =>
    go_wp2
    go_ret
    exact ⟨rfl, hb1⟩
  | true =>
    have hsm2 : xss.length ≤ 300 ∧ ∀ x ∈ xss, x.length ≤ 400 := by simpa [smallB] using hsm
    obtain ⟨hs1, hs2⟩ := hsm2
    rw [HL.out] at hs1
    have HS2 := Lib.hid hs2
    clear hs2 hsm HS
    by_cases h2 : (700 : Int) < (m : Int)
    · go_wp2
      go_ret
      exact ⟨rfl, hb1⟩
    have h2' : (m : Int) ≤ 700 := by omega
    clear h2
    have HSZ : Hid (szL xss ≤ 120601) := by
      have h := szL_le xss 400 HS2.out
      rw [HL.out] at h
      show _ ≤ _
      omega
    have HX1 := Lib.hid (HX.out.up hb1)
    have HY1 := Lib.hid (HY.out.up hb1)
    clear HX HY
    go_wp2_with fail
    go_loopw [7, 8] (fun v i u => ∃ j : Nat, j ≤ n ∧ i = .int .i64 j ∧ v = .int .i64 (szL (xss.take j) : Nat) ∧ u = w1) (fun _ i _ => n - (intOf i).toNat)
    case atStart => exact ⟨0, by omega, rfl, rfl, rfl⟩
    case round =>
      obtain ⟨j, hj, rfl, rfl, rfl⟩ := hrel
      by_cases hlt : j < n
      · have hg := List.getElem?_eq_getElem (by rw [HL.out]; exact hlt : j < xss.length)
        obtain ⟨b, o, a, c1, rfl, hb, hcell, hyy, hr⟩ := HX1.out j _ hg
        have hst := Lib.hid (szL_take xss j _ hg)
        have hmem := HS2.out _ (List.getElem_mem (by rw [HL.out]; exact hlt : j < xss.length))
        have hmono := szL_mono xss j
        have hsz := HSZ.out
        generalize xss[j]'(by rw [HL.out]; exact hlt) = zs at *
        have hj2 : (j : Int) < (n : Int) := by omega
        clear hg hyy hr
        generalize szL (xss.take j) = sz at *
        generalize zs.length = q at *
        have hsz2 : (sz : Int) ≤ 120601 := by omega
        have hq2 : (q : Int) ≤ 400 := by omega
        go_wp2
        go_roundw
        case rel =>
          refine ⟨j + 1, by omega, by go_num, ?_, trivial⟩
          rw [hst.out]
          simp
        case measure => simp [intOf]; omega
      · obtain rfl : j = n := by omega
        have hT : xss.take j = xss := List.take_of_length_le (by rw [HL.out]; exact Nat.le_refl _)
        rw [hT]
        have hszr : Hid (j ≤ 255 → (rowsD xss).length = szL xss) := by
          intro h
          unfold rowsD
          rw [if_pos (by rw [HL.out]; exact h), rowsL_len]
          rfl
        have hszb := HSZ.out
        generalize szL xss = sz at *
        have HR := Lib.hid (rowsU A j c xss wr HL.out HN.out HX1.out (fun x hx => by have := HS2.out x hx; omega))
        go_wp2_with fail
        refine HR.out.mono ?_
        rintro e w3 ⟨⟨A3, c3, rfl, hv3⟩, hb3⟩
        have HB3 := Lib.hid (hb1.trans (hb3.mono hb1.size))
        have HY3 := Lib.hid (HY1.out.up hb3)
        have HSP := Lib.hid (splitU B m d ys w3 HL2.out hc2 HN2.out HYB.out HY3.out)
        clear hv3 hb3 HR
        go_wp2_with fail
        refine HSP.out.mono ?_
        rintro e w4 ⟨⟨A4, c4, rfl, hp4⟩, hb4⟩
        have HP4 := Lib.hid hp4
        have HB4 := Lib.hid (HB3.out.trans (hb4.mono HB3.out.size))
        have HY4 := Lib.hid (HY3.out.up hb4)
        have hsplit : (splitL ys = none ∧ splitD ys = []) ∨ ∃ l, splitL ys = some l ∧ splitD ys = l ∧ l.length ≤ 255 ∧ szL l = m ∧ (∀ x ∈ l, x.length ≤ 65535) ∧ ∃ t, ys = ((l.length : Nat) : Int) :: t := by
          unfold splitD
          cases hsp : splitL ys with
          | none => exact .inl ⟨rfl, rfl⟩
          | some l =>
            obtain ⟨r1, r2, r3⟩ := rows_split HYB.out hsp
            refine .inr ⟨l, rfl, rfl, r2, ?_, r3, flatL l, ?_⟩
            · have := rowsL_len l
              rw [r1, HL2.out] at this
              exact this.symm
            · rw [← r1]
              show ((l.length % 256 : Nat) : Int) :: flatL l = _
              rw [Nat.mod_eq_of_lt (by omega)]
        clear hp4 hb4 HSP HB3 HY3
        rcases hsplit with ⟨e1, e2⟩ | ⟨l, e1, e2, l1, l2, l3, t, l4⟩
        · rw [e1, e2]
          clear HP4 e1 e2
          simp only [Option.isSome_none, List.length_nil]
          go_wp2_with fail
          go_loopw [13, 14] (fun v i u => v = .int .i64 1 ∧ i = .int .i64 0 ∧ u = w4) (fun _ _ _ => 0)
          case atStart => exact ⟨rfl, rfl, rfl⟩
          case round =>
            obtain ⟨rfl, rfl, rfl⟩ := hrel
            by_cases h255 : j ≤ 255
            · have hj2 : (j : Int) ≤ 255 := by omega
              have hd : decide (j ≤ 255) = true := by simpa using h255
              rw [hszr.out h255, hd]
              go_wp2
              go_ret
              exact ⟨rfl, HB4.out⟩
            · have hd : decide (j ≤ 255) = false := by simpa using h255
              rw [hd]
              generalize (rowsD xss).length = z at *
              go_wp2
              go_ret
              exact ⟨rfl, HB4.out⟩
        · rw [e1, e2]
          rw [e2] at HP4
          clear e1 e2
          obtain ⟨p, hp⟩ : ∃ p, l.length = p := ⟨_, rfl⟩
          rw [hp] at l1 l4 ⊢
          have HLL := Lib.hid hp
          have HL3 := Lib.hid l3
          have HSL := Lib.hid l2
          have hm700 : m ≤ 700 := by omega
          have hfirst : ∃ ad, B = some ad ∧ wr.cell? ad = some (.int .u8 (p : Nat)) := by
            obtain ⟨ad, e, hc⟩ := HY1.out.cell 0 (by rw [l4]; simp)
            rw [l4] at hc
            exact ⟨ad, e, hc⟩
          have hfirst4 : ∃ ad, B = some ad ∧ w4.cell? ad = some (.int .u8 (p : Nat)) := by
            obtain ⟨ad, e, hc⟩ := HY4.out.cell 0 (by rw [l4]; simp)
            rw [l4] at hc
            exact ⟨ad, e, hc⟩
          obtain ⟨ad, rfl, hcell4⟩ := hfirst4
          have HC4 := Lib.hid hcell4
          have hm1 : 1 ≤ m := by have := HL2.out; rw [l4] at this; simp at this; omega
          clear hp l2 l3 l4 hcell4 hfirst
          simp only [Option.isSome_some]
          have hp255 : (p : Int) ≤ 255 := by omega
          go_wp2_with fail
          go_loopw [13, 14] (fun v i u => ∃ k : Nat, k ≤ p ∧ i = .int .i64 k ∧ v = .int .i64 (szL (l.take k) : Nat) ∧ u = w4) (fun _ i _ => p - (intOf i).toNat)
          case atStart => exact ⟨0, by omega, rfl, rfl, rfl⟩
          case round =>
            obtain ⟨k, hk, rfl, rfl, rfl⟩ := hrel
            by_cases hlt2 : k < p
            · have hg := List.getElem?_eq_getElem (by rw [HLL.out]; exact hlt2 : k < l.length)
              obtain ⟨b, o, a, c1, rfl, hb, hcell, hyy, hr⟩ := HP4.out k _ hg
              have hst := Lib.hid (szL_take l k _ hg)
              have hmono := szL_mono l (k + 1)
              rw [HSL.out, hst.out] at hmono
              generalize l[k]'(by rw [HLL.out]; exact hlt2) = zs at *
              have hk2 : (k : Int) < (p : Int) := by omega
              clear hg hyy hr
              generalize szL (l.take k) = sz2 at *
              generalize zs.length = q at *
              have hsz2 : (sz2 : Int) ≤ 700 := by omega
              have hq2 : (q : Int) ≤ 700 := by omega
              go_wp2
              go_roundw
              case rel =>
                refine ⟨k + 1, by omega, by go_num, ?_, trivial⟩
                rw [hst.out]
                simp
              case measure => simp [intOf]; omega
            · obtain rfl : k = p := by omega
              have hT2 : l.take k = l := List.take_of_length_le (by rw [HLL.out]; exact Nat.le_refl _)
              rw [hT2, HSL.out]
              have hc0 := HC4.out
              by_cases h255 : j ≤ 255
              · have hj2 : (j : Int) ≤ 255 := by omega
                have hd : decide (j ≤ 255) = true := by simpa using h255
                rw [hszr.out h255, hd]
                go_wp2
                go_ret
                exact ⟨rfl, HB4.out⟩
              · have hd : decide (j ≤ 255) = false := by simpa using h255
                rw [hd]
                generalize (rowsD xss).length = z at *
                go_wp2
                go_ret
                exact ⟨rfl, HB4.out⟩
end Go.Proofs.Ythgjfmdbipmhoaa
