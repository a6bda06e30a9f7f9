/- The walk of awake: the chapter's examples. -/
import Derived.Test.YthgjfmdbipmhoaaB9
namespace Go.Proofs.Ythgjfmdbipmhoaa
open Go.RowKit

theorem OwnB.cap {w : World} {B n c : Nat} {A : Option Addr} {xs : List Int} (h : OwnB w B (.slice A n c) xs) : n ≤ c ∧ c ≤ maxLen := by
  rcases h.2 with ⟨e, e2⟩ | ⟨g, cap, cur, e, _, _, h1, h2, _⟩
  · injection e with e1 e3 e4
    subst e3 e4
    exact ⟨Nat.le_refl _, Nat.zero_le _⟩
  · injection e with e1 e3 e4
    subst e3 e4
    exact ⟨h1, h2⟩
theorem OwnB.row {w : World} {B : Nat} {v : Value} {xs : List Int} (h : OwnB w B v xs) (hp : 0 < xs.length) : ∃ g cap, v = .slice (some ⟨g, 0, none⟩) xs.length cap ∧ xs.length ≤ cap ∧ cap ≤ maxLen ∧ B ≤ g ∧ g < w.heap.size ∧ ∀ j, j < xs.length → w.cell? ⟨g, j, none⟩ = some (.int .u8 (xs.getD j 0)) := by
  rcases h.2 with ⟨_, e2⟩ | ⟨g, cap, cur, rfl, h1, hg, h2, h3, _⟩
  · omega
  · refine ⟨g, cap, rfl, h2, h3, h1, Row.lt (t := 5) hg, fun j hj => ?_⟩
    have := h.cells (g := g) rfl j (.int .u8 (xs.getD j 0)) (by simp [List.getD, List.getElem?_eq_getElem hj, u8v])
    rwa [Addr.add_mid, Nat.zero_add] at this
theorem OwnB.up {w : World} {B n c : Nat} {A : Option Addr} {xs : List Int} (h : OwnB w B (.slice A n c) xs) : Bytes w w.heap.size A xs := h.bytes.2
set_option maxHeartbeats 2000000 in
theorem awake_any (w : World) :
    Calls Try.prog 8 #[] w fun e w' => e = .returned (.bool true) ∧ Below w.heap.size w w' := by
  go_enter Try.func8, Try.ntmps8
  go_wp2_with fail
  refine (put_any 258 2 w (by decide) (by decide)).mono ?_
  rintro e w1 ⟨⟨v, rfl, hv⟩, hb1⟩
  rw [show putL 258 2 = [1, 2] from rfl] at hv
  obtain ⟨g, cap, rfl, c1, c2, -, hg1, hcell⟩ := hv.row (by decide)
  have hbv := hv.up
  have e0 : w1.cell? ⟨g, 0, none⟩ = some (.int .u8 1) := hcell 0 (by decide)
  have e1 : w1.cell? ⟨g, 1, none⟩ = some (.int .u8 2) := hcell 1 (by decide)
  have HG := Lib.hid (get_some (some ⟨g, 0, none⟩) 2 cap 0 2 [1, 2] w1 rfl c1 c2 (by intro x hx; simp at hx; omega) hbv (by decide) (by decide))
  rw [show getL (([1, 2] : List Int).drop 0 |>.take 2) = 258 from rfl] at HG
  have E0 := Lib.hid e0
  have E1 := Lib.hid e1
  have HB1 := Lib.hid hb1
  clear hv hcell hbv e0 e1 hb1 c1 c2
  simp only [List.length_cons, List.length_nil, Nat.zero_add, Nat.reduceAdd]
  go_wp2_with fail
  refine HG.out.mono ?_
  rintro e w2 ⟨rfl, rfl⟩
  go_wp2_with fail
  refine (rows_some none 0 0 [] w1 rfl (by decide) (Parts.nil _ _ _) (by simp)).mono ?_
  rintro e w3 ⟨⟨v, rfl, hv⟩, hb3⟩
  rw [show rowsL [] = [0] from rfl] at hv
  obtain ⟨g3, cap3, rfl, c1, c2, -, hg3, hcell⟩ := hv.row (by decide)
  have e3 : w3.cell? ⟨g3, 0, none⟩ = some (.int .u8 0) := hcell 0 (by decide)
  have E3 := Lib.hid e3
  have HB3 := Lib.hid (HB1.out.trans (hb3.mono HB1.out.size))
  have F0 := Lib.hid ((hb3.cell (p := ⟨g, 0, none⟩) hg1).trans E0.out)
  have F1 := Lib.hid ((hb3.cell (p := ⟨g, 1, none⟩) hg1).trans E1.out)
  have hg1' : g < w3.heap.size := Nat.lt_of_lt_of_le hg1 hb3.size
  clear hv hcell hb3 c1 c2 HB1 E0 E1 HG e3 hg1
  simp only [List.length_cons, List.length_nil, Nat.zero_add, Nat.reduceAdd]
  go_wp2_with fail
  have hbd : Bytes (w3.alloc (.cells #[.int .u8 1, .int .u8 0, .int .u8 1, .int .u8 9] 5)) (w3.alloc (.cells #[.int .u8 1, .int .u8 0, .int .u8 1, .int .u8 9] 5)).heap.size (some ⟨w3.heap.size, 0, none⟩) [1, 0, 1, 9] :=
    (own_of_row (B := 0) (n := 4) (xs := [1, 0, 1, 9]) (Row.new w3 5 #[.int .u8 1, .int .u8 0, .int .u8 1, .int .u8 9]) rfl (Nat.zero_le _) (by decide)).up
  have hba : Below w3.heap.size w3 (w3.alloc (.cells #[.int .u8 1, .int .u8 0, .int .u8 1, .int .u8 9] 5)) := (Below.refl _ _).alloc (Nat.le_refl _) _
  have hsp := Lib.hid (split_any (some ⟨w3.heap.size, 0, none⟩) 4 4 [1, 0, 1, 9] _ rfl (by decide) (by decide) (by intro x hx; simp at hx; omega) hbd)
  clear hbd
  refine hsp.out.mono ?_
  rintro e w4 ⟨⟨v, b, rfl, hr⟩, hb4⟩
  rw [show splitL [1, 0, 1, 9] = some [[9]] from rfl] at hr
  obtain ⟨⟨A', c', rfl, hp⟩, rfl⟩ := hr
  obtain ⟨pb, po, pa, pc, rfl, _, hc, hby, _⟩ := hp 0 [9] rfl
  obtain ⟨ad, rfl, hcell⟩ := hby.cell 0 (by decide)
  have e4 : w4.cell? ad = some (.int .u8 9) := hcell
  have e5 : w4.cell? ⟨pb, po, none⟩ = some (.slice (some ad) 1 pc) := hc
  have hb5 := hba.trans (hb4.mono (by simp))
  have HB5 := Lib.hid (HB3.out.trans (hb5.mono HB3.out.size))
  have f0 := (hb5.cell (p := ⟨g, 0, none⟩) hg1').trans F0.out
  have f1 := (hb5.cell (p := ⟨g, 1, none⟩) hg1').trans F1.out
  have f3 := (hb5.cell (p := ⟨g3, 0, none⟩) hg3).trans E3.out
  clear hsp hp hc hby hcell hb4 hb5 hba HB3 F0 F1 E3
  simp only [List.length_cons, List.length_nil, Nat.zero_add]
  go_wp2
  go_ret
  exact ⟨rfl, HB5.out⟩
end Go.Proofs.Ythgjfmdbipmhoaa
