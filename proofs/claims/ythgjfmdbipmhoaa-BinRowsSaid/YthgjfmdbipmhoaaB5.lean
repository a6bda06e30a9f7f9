/- The walks of the law's small and of the reference's Lists. -/
import Derived.Test.YthgjfmdbipmhoaaB4
namespace Go.Proofs.Ythgjfmdbipmhoaa
open Go.RowKit

def smallB (l : List (List Int)) : Bool := decide (l.length ≤ 300 ∧ ∀ x ∈ l, x.length ≤ 400)
set_option maxHeartbeats 1000000 in
theorem small_any (A : Option Addr) (n c : Nat) (xss : List (List Int)) (w : World) (hl : xss.length = n) (hn : n ≤ maxLen) (hx : Parts w w.heap.size A xss) (hall : ∀ x ∈ xss, x.length ≤ maxLen) :
    Calls Try.prog 11 #[.slice A n c] w fun e w' => e = .returned (.bool (smallB xss)) ∧ w = w' := by
  unfold maxLen at hn hall
  have HX := Lib.hid hx
  have HL := Lib.hid hl
  have HA := Lib.hid hall
  clear hl hx hall
  go_enter Try.func11, Try.ntmps11
  go_wp2_with fail
  go_loopw [3] (fun i u => ∃ j : Nat, j ≤ n ∧ i = .int .i64 j ∧ u = w ∧ Hid (∀ x ∈ xss.take j, x.length ≤ 400)) (fun i _ => n - (intOf i).toNat)
  case atStart => exact ⟨0, by omega, rfl, rfl, by intro x hx; simp at hx⟩
  case round =>
    obtain ⟨j, hj, rfl, rfl, hrows⟩ := hrel
    by_cases hlt : j < n
    · have hg := List.getElem?_eq_getElem (by rw [HL.out]; exact hlt : j < xss.length)
      obtain ⟨b, o, a, c1, rfl, hb, hc, hy, hr⟩ := HX.out j _ hg
      have hm := List.getElem_mem (by rw [HL.out]; exact hlt : j < xss.length)
      have hmx := HA.out _ hm
      have HM := Lib.hid hm
      have HG := Lib.hid hg
      generalize xss[j]'(by rw [HL.out]; exact hlt) = ys at *
      have hj2 : (j : Int) < (n : Int) := by omega
      clear hg hy hr hm
      by_cases h4 : 400 < ys.length
      · have hf : Hid (smallB xss = false) := by
          show _ = _
          simp only [smallB, decide_eq_false_iff_not]
          rintro ⟨_, h⟩
          have := h _ HM.out
          omega
        go_wp2
        go_ret
        exact ⟨by rw [hf.out]; rfl, rfl⟩
      · have hn4 : Hid (∀ x ∈ xss.take (j + 1), x.length ≤ 400) := by
          intro x hx
          rw [List.take_add_one, HG.out] at hx
          rcases List.mem_append.1 hx with h | h
          · exact hrows.out x h
          · have : x = ys := by simpa using h
            rw [this]; omega
        have h4' : ys.length ≤ 400 := by omega
        clear h4
        go_wp2
        go_roundw
        case rel => exact ⟨j + 1, by omega, by go_num, trivial, hn4⟩
        case measure => simp [intOf]; omega
    · obtain rfl : j = n := by omega
      have hT : xss.take j = xss := List.take_of_length_le (by rw [HL.out]; exact Nat.le_refl _)
      have hf : Hid (smallB xss = decide ((j : Int) ≤ 300)) := by
        show _ = _
        have h := hrows.out
        rw [hT] at h
        have e : (xss.length ≤ 300 ∧ ∀ x ∈ xss, x.length ≤ 400) ↔ (j : Int) ≤ 300 := ⟨fun h2 => by have := HL.out; omega, fun h2 => ⟨by have := HL.out; omega, h⟩⟩
        simp only [smallB, e]
      clear hrows
      go_wp2
      go_ret
      exact ⟨by rw [hf.out]; rfl, rfl⟩
set_option maxHeartbeats 1000000 in
theorem lists_any (A A' : Option Addr) (n c n' c' : Nat) (xss yss : List (List Int)) (w : World) (hl : xss.length = n) (hl' : yss.length = n') (hn : n ≤ maxLen) (hn' : n' ≤ maxLen) (hx : Parts w w.heap.size A xss) (hy : Parts w w.heap.size A' yss) :
    Calls Try.prog 14 #[.slice A n c, .slice A' n' c'] w fun e w' => e = .returned (.bool (decide (xss = yss))) ∧ Below w.heap.size w w' := by
  unfold maxLen at hn hn'
  by_cases hne : n = n'
  · subst hne
    have HX := Lib.hid hx
    have HL := Lib.hid hl
    have HY := Lib.hid hy
    have HL' := Lib.hid hl'
    clear hl hx hl' hy
    go_enter Try.func14, Try.ntmps14
    go_wp2_with fail
    go_loopw [5] (fun i u => ∃ j : Nat, j ≤ n ∧ i = .int .i64 j ∧ Below w.heap.size w u ∧ Hid (xss.take j = yss.take j)) (fun i _ => n - (intOf i).toNat)
    case atStart => exact ⟨0, by omega, rfl, Below.refl _ _, rfl⟩
    case round =>
      obtain ⟨j, hj, rfl, hbl, hrows⟩ := hrel
      by_cases hlt : j < n
      · have hg := List.getElem?_eq_getElem (by rw [HL.out]; exact hlt : j < xss.length)
        have hg' := List.getElem?_eq_getElem (by rw [HL'.out]; exact hlt : j < yss.length)
        obtain ⟨b, o, a, c1, rfl, hb, hc, hy, hr⟩ := HX.out j _ hg
        obtain ⟨b', o', a', c1', rfl, hb', hc', hy', hr'⟩ := HY.out j _ hg'
        have hj2 : (j : Int) < (n : Int) := by omega
        have HG := Lib.hid hg
        have HG' := Lib.hid hg'
        generalize xss[j]'(by rw [HL.out]; exact hlt) = xs at *
        generalize yss[j]'(by rw [HL'.out]; exact hlt) = ys at *
        have e0 := (hbl.cell (p := ⟨b, o + j, none⟩) hb).trans hc
        have e1 := (hbl.cell (p := ⟨b', o' + j, none⟩) hb').trans hc'
        have cv0 : ∀ k, (convert 23 9 (.slice a xs.length c1)).run Try.prog (wr.drewN k) = .ok (.string (strOfNums xs)) (wr.drewN k) := fun k => conv_bytes a xs.length c1 _ xs _ rfl ((hy.below hbl).below (below_drewN (Below.refl _ _) k))
        have cv1 : ∀ k, (convert 23 9 (.slice a' ys.length c1')).run Try.prog (wr.drewN k) = .ok (.string (strOfNums ys)) (wr.drewN k) := fun k => conv_bytes a' ys.length c1' _ ys _ rfl ((hy'.below hbl).below (below_drewN (Below.refl _ _) k))
        have HI := Lib.hid (strOf_inj hr hr')
        have hbq := strOf_beq hr hr'
        have HT := Lib.hid hrows.out
        clear hg hg' hy hy' hr hr' hc hc' hrows
        generalize strOfNums xs = s1 at *
        generalize strOfNums ys = s2 at *
        by_cases h12 : s1 = s2
        · have hxy := HI.out.1 h12
          subst h12
          rw [hxy] at hbq
          simp only [decide_true] at hbq
          have hn4 : Hid (xss.take (j + 1) = yss.take (j + 1)) := by
            show _ = _
            rw [List.take_add_one, List.take_add_one, HG.out, HG'.out, HT.out, hxy]
          clear hxy HI HG HG' HT
          go_wp2_with fail
          go_quiet (fail)
          go_wp2
          go_roundw
          case rel => exact ⟨j + 1, by omega, by go_num, below_drewN hbl _, hn4⟩
          case measure => simp [intOf]; omega
        · have hf : Hid (decide (xss = yss) = false) := by
            show _ = _
            simp only [decide_eq_false_iff_not]
            rintro rfl
            have := HG.out.symm.trans HG'.out
            exact h12 (HI.out.2 (Option.some.inj this))
          have hxy : decide (xs = ys) = false := by
            simp only [decide_eq_false_iff_not]
            exact fun e => h12 (HI.out.2 e)
          rw [hxy] at hbq
          clear hxy
          clear HI HG HG' HT
          go_wp2_with fail
          go_quiet (fail)
          go_wp2
          go_ret
          exact ⟨by rw [hf.out]; rfl, below_drewN hbl _⟩
      · obtain rfl : j = n := by omega
        have hf : Hid (decide (xss = yss) = true) := by
          show _ = _
          have h := hrows.out
          rw [List.take_of_length_le (by rw [HL.out]; exact Nat.le_refl _), List.take_of_length_le (by rw [HL'.out]; exact Nat.le_refl _)] at h
          simpa using h
        clear hrows
        go_wp2
        go_ret
        exact ⟨by rw [hf.out]; rfl, hbl⟩
  · have hd : decide (xss = yss) = false := by
      simp only [decide_eq_false_iff_not]
      rintro rfl
      omega
    rw [hd]
    go_enter Try.func14, Try.ntmps14
    go_wp2
    go_ret
    exact ⟨rfl, Below.refl _ _⟩
end Go.Proofs.Ythgjfmdbipmhoaa
