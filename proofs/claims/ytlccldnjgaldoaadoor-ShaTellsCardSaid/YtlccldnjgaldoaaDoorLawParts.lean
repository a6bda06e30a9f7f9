/- The walk of the law ShaParts. -/
import Derived.Test.YtlccldnjgaldoaaDoorWalk9
import Derived.WalkKit
import Derived.ProofKit
import Derived.Handy
import Derived.Deep.RegionHeld
import Derived.Maps.AppendAt
import Derived.Laws.BytesArg
import Derived.OpenShut
import Derived.ChangeKeysEq
import Derived.Lib.SlBytesConst
import Derived.Deep.MidRow
import Derived.Laws.CopyOwn
import Derived.Laws.MakeOwn
import Derived.Deep.WholeRow
import Derived.Deep.Cut
import Derived.Deep.QuietTactic
import Derived.BigQuiet
import Derived.StillTailTactics
import Derived.Lib.Hide
namespace Go.Proofs.YtlccldnjgaldoaaDoor
open Go.RowKit













theorem own_below {base n : Nat} {v : Value} {l : List Value} {w w' : World} (h : w.ownsRow base 5 1 v n l) (hb : Below w.heap.size w w') : w'.ownsRow base 5 1 v n l := by
  refine ⟨h.1, ?_⟩
  rcases h.2 with h0 | ⟨g, cap, cur, e, hg, hh, h1⟩
  · exact .inl h0
  · exact .inr ⟨g, cap, cur, e, hg, (hb.block g (Row.lt (t := 5) hh)).trans hh, h1⟩
/-- What stays while memory is only made: the parts, what was put together, the tables. -/
structure Put (w0 : World) (A : Option Addr) (xss : List (List Int)) (v : Value) (q : Nat) (fl : List Int) (u : World) : Prop where
  b : Below w0.heap.size w0 u
  p : Parts u w0.heap.size A xss
  o : u.ownsRow w0.heap.size 5 1 v q (fl.map u8v)
  t : Tables u
theorem Put.below {w0 : World} {A : Option Addr} {xss : List (List Int)} {v : Value} {q : Nat} {fl : List Int} {u x : World} (h : Put w0 A xss v q fl u) (hb : Below u.heap.size u x) : Put w0 A xss v q fl x :=
  ⟨h.b.trans (hb.mono h.b.size), h.p.below (hb.mono h.b.size), own_below h.o hb, h.t.below hb⟩
theorem Put.parts {w0 : World} {A : Option Addr} {xss : List (List Int)} {v : Value} {q : Nat} {fl : List Int} {u : World} (h : Put w0 A xss v q fl u) : Parts u u.heap.size A xss := h.p.more h.b.size
theorem Put.bytes {w0 : World} {A B : Option Addr} {xss : List (List Int)} {q c : Nat} {fl : List Int} {u : World} (h : Put w0 A xss (.slice B q c) q fl u) : Bytes u u.heap.size B fl := own_bytes h.o
theorem parts_one {w : World} {B g : Nat} {a : Option Addr} {c : Nat} {xs : List Int} (hg : g < B) (hc : w.cell? ⟨g, 0, none⟩ = some (.slice a xs.length c)) (hx : Bytes w B a xs) (hr : ∀ x ∈ xs, 0 ≤ x ∧ x ≤ 255) : Parts w B (some ⟨g, 0, none⟩) [xs] := by
  intro k ys hk
  rcases k with _ | k
  · obtain rfl : xs = ys := by simpa using hk
    exact ⟨g, 0, a, c, rfl, hg, hc, hx, hr⟩
  · simp at hk
theorem parts_two {w : World} {B g : Nat} {a a' : Option Addr} {c c' : Nat} {xs ys : List Int} (hg : g < B) (hc : w.cell? ⟨g, 0, none⟩ = some (.slice a xs.length c)) (hx : Bytes w B a xs) (hr : ∀ x ∈ xs, 0 ≤ x ∧ x ≤ 255)
    (hc' : w.cell? ⟨g, 1, none⟩ = some (.slice a' ys.length c')) (hy : Bytes w B a' ys) (hr' : ∀ x ∈ ys, 0 ≤ x ∧ x ≤ 255) : Parts w B (some ⟨g, 0, none⟩) [xs, ys] := by
  intro k zs hk
  rcases k with _ | _ | k
  · obtain rfl : xs = zs := by simpa using hk
    exact ⟨g, 0, a, c, rfl, hg, hc, hx, hr⟩
  · obtain rfl : ys = zs := by simpa using hk
    exact ⟨g, 0, a', c', rfl, hg, hc', hy, hr'⟩
  · simp at hk
theorem Bytes.take {w : World} {B : Nat} {A : Option Addr} {xs : List Int} (h : Bytes w B A xs) (k : Nat) : Bytes w B A (xs.take k) := by
  intro hp
  obtain ⟨ad, e, hlt, hc⟩ := h (by simp at hp; omega)
  refine ⟨ad, e, hlt, fun j v hv => hc j v ?_⟩
  rw [List.map_take] at hv
  rw [List.getElem?_take] at hv
  split at hv
  · exact hv
  · cases hv
theorem Bytes.drop {w : World} {B g : Nat} {xs : List Int} (h : Bytes w B (some ⟨g, 0, none⟩) xs) (k : Nat) : Bytes w B (some ⟨g, k, none⟩) (xs.drop k) := by
  intro hp
  obtain ⟨ad, e, hlt, hc⟩ := h (by simp at hp; omega)
  obtain rfl := Option.some.inj e
  refine ⟨_, rfl, hlt, fun j v hv => ?_⟩
  have := hc (k + j) v (by rw [← hv, List.map_drop, List.getElem?_drop])
  rw [Addr.add_mid] at this ⊢
  rw [Nat.zero_add] at this
  exact this
theorem cut_parts {w0 u : World} {A B1 B2 : Option Addr} {xss : List (List Int)} {v : Value} {q c1 c2 r : Nat} {fl : List Int} (h : Put w0 A xss v q fl u) (hq : fl.length = q) (hr : r ≤ q) (h1 : Bytes u u.heap.size B1 (fl.take r)) (h2 : Bytes u u.heap.size B2 (fl.drop r)) (hb : ∀ x ∈ fl, 0 ≤ x ∧ x ≤ 255) :
    Parts (u.alloc (.cells #[.slice B1 r c1, .slice B2 (q - r) c2] 22)) (u.alloc (.cells #[.slice B1 r c1, .slice B2 (q - r) c2] 22)).heap.size (some ⟨u.heap.size, 0, none⟩) [fl.take r, fl.drop r] := by
  have hba : Below u.heap.size u (u.alloc (.cells #[.slice B1 r c1, .slice B2 (q - r) c2] 22)) := (Below.refl _ _).alloc (Nat.le_refl _) _
  have e1 : (fl.take r).length = r := by rw [List.length_take]; omega
  have e2 : (fl.drop r).length = q - r := by rw [List.length_drop]; omega
  have hl : u.heap.size ≤ (u.alloc (.cells #[.slice B1 r c1, .slice B2 (q - r) c2] 22)).heap.size := by simp
  have _ := h
  refine parts_two (c := c1) (c' := c2) (by simp) ?_ ((h1.below hba).more hl) (fun x hx => hb x (List.mem_of_mem_take hx)) ?_ ((h2.below hba).more hl) (fun x hx => hb x (List.mem_of_mem_drop hx))
  · rw [e1]; exact (Row.new u 22 _).cell 0
  · rw [e2]; exact (Row.new u 22 _).cell 1
theorem flat_le (xss : List (List Int)) (h : ∀ (k : Nat) xs, xss[k]? = some xs → xs.length ≤ 100) : xss.flatten.length ≤ 100 * xss.length := by
  induction xss with
  | nil => simp
  | cons x xss ih =>
    have h0 := h 0 x rfl
    have h1 := ih (fun k xs hk => h (k + 1) xs hk)
    rw [List.flatten_cons, List.length_append, List.length_cons]
    omega
set_option maxHeartbeats 2000000 in
theorem law_parts (A : Option Addr) (n c : Nat) (k : Int) (xss : List (List Int)) (w : World) (hl : xss.length = n) (hx : Parts w w.heap.size A xss) (hmx : n ≤ maxLen) (hall : ∀ (j : Nat) xs, xss[j]? = some xs → xs.length ≤ maxLen) (ht : Tables w) :
    Calls Tryd.prog 4 #[.slice A n c, .int .i64 k] w fun e w' => e = .returned (.bool true) ∧ Below w.heap.size w w' := by
  unfold maxLen at hmx hall
  have HL := Lib.hid hl
  have HALL := Lib.hid hall
  have HX := Lib.hid hx
  clear hl hx hall
  go_enter Tryd.func4, Tryd.ntmps4
  go_wp2_with fail
  refine (awake_any w ht).mono ?_
  rintro e w1 ⟨rfl, hb1⟩
  have HX1 := Lib.hid (HX.out.below hb1)
  have t1 := ht.below hb1
  clear HX ht
  by_cases h8 : 8 < n
  · go_wp2
    go_ret
    exact ⟨rfl, hb1⟩
  have h8' : n ≤ 8 := by omega
  clear h8
  have d8 : decide ((8 : Int) < (n : Int)) = false := by simp; omega
  go_wp2_with fail
  go_loopw [6, 7] (fun v i u => ∃ j : Nat, j ≤ n ∧ i = .int .i64 j ∧ Below w.heap.size w u ∧ Hid (Below w1.heap.size w1 u ∧ u.ownsRow w1.heap.size 5 1 v (xss.take j).flatten.length ((xss.take j).flatten.map u8v) ∧ ∀ (r : Nat) xs, (xss.take j)[r]? = some xs → xs.length ≤ 100)) (fun _ i _ => n - (intOf i).toNat)
  case atStart => exact ⟨0, by omega, rfl, hb1, Below.refl _ _, World.ownsRow_nil _ _ _ _, by simp⟩
  case round =>
    obtain ⟨j, hj, rfl, hbl, hrows⟩ := hrel
    obtain ⟨hbl1, hown, hsm⟩ := hrows.out
    by_cases hlt : j < n
    · have hg := List.getElem?_eq_getElem (by rw [HL.out]; exact hlt : j < xss.length)
      have hst := Lib.hid (flat_step xss j _ hg)
      obtain ⟨b, o, a, c1, rfl, hb, hc, hy, hr⟩ := HX1.out j _ hg
      have hys := HALL.out j _ hg
      have hfl : (xss.take j).flatten.length ≤ 800 := by
        have := flat_le (xss.take j) hsm
        have h2 : (xss.take j).length ≤ 8 := by rw [List.length_take, HL.out]; omega
        omega
      have htk : ∀ L : List Int, xss[j]? = some L → L.length ≤ 100 → ∀ (r : Nat) xs, (xss.take (j + 1))[r]? = some xs → xs.length ≤ 100 := by
        intro L hL hl r xs hrx
        rw [List.getElem?_take] at hrx
        split at hrx
        · by_cases e : r = j
          · subst e
            rw [hL] at hrx
            obtain rfl := Option.some.inj hrx
            exact hl
          · exact hsm r xs (by rw [List.getElem?_take, if_pos (by omega)]; exact hrx)
        · cases hrx
      have HTK2 := Lib.hid (htk _ hg)
      clear htk hg
      generalize xss[j]'(by rw [HL.out]; exact hlt) = ys at *
      have hcell := (hbl1.cell (p := ⟨b, o + j, none⟩) (Nat.lt_of_lt_of_le hb hb1.size)).trans hc
      have hj2 : (j : Int) < (n : Int) := by omega
      by_cases h100 : 100 < ys.length
      · clear hrows hown hsm hy hr hc hfl
        go_wp2
        go_ret
        exact ⟨rfl, hbl⟩
      · have h100' : ys.length ≤ 100 := by omega
        clear h100
        obtain ⟨v', w', hrun, hown', hgr⟩ := append_bytes _ _ _ _ wr hown a ys.length c1 w.heap.size ys rfl (hy.below (hbl1.mono hb1.size)) (by omega) hbl1.size
        have hb2 := below_of_grown (B := w1.heap.size) hgr (fun g hg => (hown.lt g hg).1) hbl1.size
        have BB := Lib.hid (hbl.trans (hb2.mono hb1.size))
        have B1 := Lib.hid (hbl1.trans hb2)
        have OO := Lib.hid hown'
        have HRUN := Lib.hid hrun
        clear hown hrows hc hy hr hgr hb2 hown' hrun hsm
        go_wp2_with (at_builtin; (with_reducible refine wpList_append_run (o := ⟨some 34, _, _, _, _, _⟩) ?_ (.tmp 29) (.tmp 33) ?_ ?_ ?_ ?_ HRUN.out ?_); (rfl); (rfl); (rfl); (rfl); (rfl))
        go_roundw
        case rel =>
          refine ⟨j + 1, by omega, by go_num, BB.out, B1.out, ?_, HTK2.out h100'⟩
          rw [hst.out, List.length_append, List.map_append]
          exact OO.out
        case measure => simp [intOf]; omega
    · obtain rfl : j = n := by omega
      have hT : xss.take j = xss := List.take_of_length_le (by rw [HL.out]; exact Nat.le_refl _)
      rw [hT] at hown hsm
      have hr : ∀ x ∈ xss.flatten, 0 ≤ x ∧ x ≤ 255 := by
        intro x hx
        obtain ⟨l, hl, hxl⟩ := List.mem_flatten.1 hx
        obtain ⟨i, hi, rfl⟩ := List.getElem_of_mem hl
        obtain ⟨_, _, _, _, _, _, _, _, hr⟩ := HX1.out i _ (List.getElem?_eq_getElem hi)
        exact hr x hxl
      have hq0 := flat_le xss hsm
      rw [HL.out] at hq0
      have HR := Lib.hid hr
      clear hr hT hsm hrows
      generalize hFL : xss.flatten = fl at *
      have HFL := Lib.hid hFL
      clear hFL
      obtain ⟨q, hq⟩ : ∃ q, fl.length = q := ⟨_, rfl⟩
      rw [hq] at hown hq0
      have HQ := Lib.hid hq
      clear hq
      have hq1 : q ≤ 800 := by omega
      clear hq0
      obtain ⟨V, cv, rfl⟩ := own_form hown
      have P0 : Put w1 A xss (.slice V q cv) q fl wr := ⟨hbl1, (HX1.out.more hb1.size).below hbl1, hown, t1.below hbl1⟩
      have hb0 := Lib.hid hb1
      have hneq : ∀ u : World, (binOp .neq 26 (.agg (arrB 32 (sumL fl))) (.agg (arrB 32 (sumL fl)))).run Tryd.prog u = .ok (.bool false) u := fun u => by
        have h := run_neq_id (sumL fl) (sumL fl) (sumL_len fl) (sumL_len fl) u
        rwa [show eqL (sumL fl) (sumL fl) = true by simp [eqL]] at h
      have heql : ∀ u : World, (binOp .eql 26 (.agg (arrB 32 (sumL fl))) (.agg (arrB 32 (sumL fl)))).run Tryd.prog u = .ok (.bool true) u := fun u => by
        have h := run_eql_id (sumL fl) (sumL fl) (sumL_len fl) (sumL_len fl) u
        rwa [show eqL (sumL fl) (sumL fl) = true by simp [eqL]] at h
      have cOf : ∀ (B : Option Addr) (r c2 : Nat) (L : List (List Int)) (u : World), L.length = r → r ≤ 8 → L.flatten = fl → Parts u u.heap.size B L → Tables u →
          Calls Tryd.prog 14 #[.slice B r c2] u fun e u' => e = .returned (.agg (arrB 32 (sumL fl))) ∧ Below u.heap.size u u' := fun B r c2 L u h1 h2 h3 h4 h5 => by
        have h := of_any B r c2 L u h1 h4 (by omega) (by rw [h3, HQ.out]; omega) h5
        rwa [h3] at h
      have cSum : ∀ u : World, Put w1 A xss (.slice V q cv) q fl u → Calls Tryd.prog 12 #[.slice V q cv] u fun e u' => e = .returned (.agg (arrB 32 (sumL fl))) ∧ Below u.heap.size u u' := fun u h =>
        sum_any V q cv fl u HQ.out (by omega) h.bytes HR.out h.t
      generalize arrB 32 (sumL fl) = cs at *
      have COF := Lib.hid cOf
      have CSUM := Lib.hid cSum
      have HEQL := Lib.hid heql
      clear cOf cSum heql hown hbl1 hbl t1 hb1 HX1 HALL
      go_wp2_with fail
      refine (COF.out A j c xss wr HL.out (by omega) HFL.out P0.parts P0.t).mono ?_
      rintro e w2 ⟨rfl, hb⟩
      have P1 := P0.below hb
      clear hb P0
      go_wp2_with fail
      refine (CSUM.out w2 P1).mono ?_
      rintro e w3 ⟨rfl, hb⟩
      have P2 := P1.below hb
      clear hb P1
      go_wp2_with fail
      have hba : Below w3.heap.size w3 (w3.alloc (.cells #[.slice V q cv] 22)) := (Below.refl _ _).alloc (Nat.le_refl _) _
      have P3 := P2.below hba
      have pr : Parts (w3.alloc (.cells #[.slice V q cv] 22)) (w3.alloc (.cells #[.slice V q cv] 22)).heap.size (some ⟨w3.heap.size, 0, none⟩) [fl] :=
        parts_one (by simp) ((Row.new w3 22 #[.slice V q cv]).cell 0 |>.trans (by rw [HQ.out]; rfl)) P3.bytes HR.out
      clear hba P2
      refine (COF.out _ 1 _ [fl] _ rfl (by omega) (by simp) pr P3.t).mono ?_
      rintro e w4 ⟨rfl, hb⟩
      have P4 := P3.below hb
      clear hb P3 pr
      go_wp2_with fail
      refine (CSUM.out w4 P4).mono ?_
      rintro e w5 ⟨rfl, hb⟩
      have P5 := P4.below hb
      clear hb P4
      have bF := Lib.hid (hb0.out.trans (P5.b.mono hb0.out.size))
      by_cases hneg : k < 0
      · have d1 : decide (k < 0) = true := by simpa using hneg
        go_wp2_with fail
        go_quiet (fail)
        go_wp2
        go_ret
        exact ⟨rfl, below_drewN bF.out _⟩
      have d1 : decide (k < 0) = false := by simpa using hneg
      by_cases hbig : (q : Int) < k
      · have d2 : decide ((q : Int) < k) = true := by simpa using hbig
        go_wp2_with fail
        go_quiet (fail)
        go_wp2
        go_ret
        exact ⟨rfl, below_drewN bF.out _⟩
      have d2 : decide ((q : Int) < k) = false := by simpa using hbig
      obtain ⟨r, rfl⟩ := Int.eq_ofNat_of_zero_le (by omega : 0 ≤ k)
      have hr0 : r ≤ q := by omega
      have d3 : decide (q < r) = false := by simp; omega
      clear hneg hbig
      have heql := HEQL.out
      have PD : Put w1 A xss (.slice V q cv) q fl w5.drew := P5.below (Below.refl _ _).drew
      have hform := P5.o.2
      rcases hform with ⟨e, rfl⟩ | ⟨g, cap, cur, e, _, hg, hcap, hcm, _⟩
      · injection e with e1 e2 e3
        subst e1 e3
        obtain rfl : r = 0 := by omega
        obtain rfl : fl = [] := List.eq_nil_of_length_eq_zero HQ.out
        have PARTS : Hid (Parts ((w5.alloc (.cells #[.slice none 0 0, .slice none 0 0] 22)).drew) ((w5.alloc (.cells #[.slice none 0 0, .slice none 0 0] 22)).drew).heap.size (some ⟨w5.heap.size, 0, none⟩) [([] : List Int).take 0, ([] : List Int).drop 0]) :=
          cut_parts P5 rfl (Nat.le_refl _) (Bytes.nil _ _ _) (Bytes.nil _ _ _) (by simp)
        go_wp2_with fail
        go_region_held (fun u => Put w1 A xss (.slice none 0 0) 0 [] u) (first | assumption | (exact Put.below P5 (Below.drew ((Below.refl _ _).alloc (Nat.le_refl _) _))))
          (first
            | ((go_at_call 14; with_reducible refine (COF.out _ 2 _ [([] : List Int).take 0, ([] : List Int).drop 0] _ rfl (by omega) (by simp) PARTS.out (Put.t (by assumption))).mono ?_); rintro e w6 ⟨rfl, hb⟩; have S6 : Put w1 A xss (.slice none 0 0) 0 [] w6 := Put.below (by assumption) hb; clear hb)
            | ((go_at_call 12; with_reducible refine (CSUM.out _ (by assumption)).mono ?_); rintro e w7 ⟨rfl, hb⟩; have S7 : Put w1 A xss (.slice none 0 0) 0 [] w7 := Put.below (by assumption) hb; clear hb))
        all_goals
          go_wp2
          go_ret
          have SS : Below w1.heap.size w1 _ := Put.b (by assumption)
          exact ⟨rfl, hb0.out.trans (SS.mono hb0.out.size)⟩
      · injection e with e1 e2 e3
        subst e1 e3
        unfold maxLen at hcm
        clear hg
        have z1 : (r : Int) ≤ (cv : Int) := by omega
        have z2 : (r : Int) ≤ (q : Int) := by omega
        have z3 : (q : Int) ≤ (cv : Int) := by omega
        have z4 : r ≤ cv := by omega
        by_cases hcv : cv = r
        · obtain rfl : r = q := by omega
          obtain rfl : cv = r := by omega
          clear hcv
          have PARTS : Hid (Parts ((w5.alloc (.cells #[.slice (some ⟨g, 0, none⟩) cv cv, .slice (some ⟨g, 0, none⟩) 0 0] 22)).drew) ((w5.alloc (.cells #[.slice (some ⟨g, 0, none⟩) cv cv, .slice (some ⟨g, 0, none⟩) 0 0] 22)).drew).heap.size (some ⟨w5.heap.size, 0, none⟩) [fl.take cv, fl.drop cv]) := by
            have e1 : (fl.take cv).length = cv := by rw [List.length_take, HQ.out]; omega
            have e2 : (fl.drop cv).length = 0 := by rw [List.length_drop, HQ.out]; omega
            have hba : Below w5.heap.size w5 ((w5.alloc (.cells #[.slice (some ⟨g, 0, none⟩) cv cv, .slice (some ⟨g, 0, none⟩) 0 0] 22)).drew) := Below.drew ((Below.refl _ _).alloc (Nat.le_refl _) _)
            have e3 : fl.drop cv = [] := List.eq_nil_of_length_eq_zero e2
            refine parts_two (c := cv) (c' := 0) (a' := some ⟨g, 0, none⟩) (by simp) ?_ (((P5.bytes.take cv).below hba).more (by simp)) (fun x hx => HR.out x (List.mem_of_mem_take hx)) ?_ (by rw [e3]; exact Bytes.nil _ _ _) (fun x hx => HR.out x (List.mem_of_mem_drop hx))
            · rw [e1]; exact (Row.new w5 22 _).cell 0
            · rw [e2]; exact (Row.new w5 22 _).cell 1
          go_wp2_with fail
          go_region_held (fun u => Put w1 A xss (.slice (some ⟨g, 0, none⟩) cv cv) cv fl u) (first | assumption | (exact Put.below P5 (Below.drew ((Below.refl _ _).alloc (Nat.le_refl _) _))))
            (first
              | ((go_at_call 14; with_reducible refine (COF.out _ 2 _ [fl.take cv, fl.drop cv] _ rfl (by omega) (by simp) PARTS.out (Put.t (by assumption))).mono ?_); rintro e w6 ⟨rfl, hb⟩; have S6 : Put w1 A xss (.slice (some ⟨g, 0, none⟩) cv cv) cv fl w6 := Put.below (by assumption) hb; clear hb)
              | ((go_at_call 12; with_reducible refine (CSUM.out _ (by assumption)).mono ?_); rintro e w7 ⟨rfl, hb⟩; have S7 : Put w1 A xss (.slice (some ⟨g, 0, none⟩) cv cv) cv fl w7 := Put.below (by assumption) hb; clear hb))
          all_goals
            go_wp2
            go_ret
            have SS : Below w1.heap.size w1 _ := Put.b (by assumption)
            exact ⟨rfl, hb0.out.trans (SS.mono hb0.out.size)⟩
        · have PARTS : Hid (Parts ((w5.alloc (.cells #[.slice (some ⟨g, 0, none⟩) r cv, .slice (some ⟨g, r, none⟩) (q - r) (cv - r)] 22)).drew) ((w5.alloc (.cells #[.slice (some ⟨g, 0, none⟩) r cv, .slice (some ⟨g, r, none⟩) (q - r) (cv - r)] 22)).drew).heap.size (some ⟨w5.heap.size, 0, none⟩) [fl.take r, fl.drop r]) :=
            cut_parts P5 HQ.out hr0 (P5.bytes.take r) (P5.bytes.drop r) HR.out
          go_wp2_with fail
          go_region_held (fun u => Put w1 A xss (.slice (some ⟨g, 0, none⟩) q cv) q fl u) (first | assumption | (exact Put.below P5 (Below.drew ((Below.refl _ _).alloc (Nat.le_refl _) _))))
            (first
              | ((go_at_call 14; with_reducible refine (COF.out _ 2 _ [fl.take r, fl.drop r] _ rfl (by omega) (by simp) PARTS.out (Put.t (by assumption))).mono ?_); rintro e w6 ⟨rfl, hb⟩; have S6 : Put w1 A xss (.slice (some ⟨g, 0, none⟩) q cv) q fl w6 := Put.below (by assumption) hb; clear hb)
              | ((go_at_call 12; with_reducible refine (CSUM.out _ (by assumption)).mono ?_); rintro e w7 ⟨rfl, hb⟩; have S7 : Put w1 A xss (.slice (some ⟨g, 0, none⟩) q cv) q fl w7 := Put.below (by assumption) hb; clear hb))
          all_goals
            go_wp2
            go_ret
            have SS : Below w1.heap.size w1 _ := Put.b (by assumption)
            exact ⟨rfl, hb0.out.trans (SS.mono hb0.out.size)⟩
end Go.Proofs.YtlccldnjgaldoaaDoor
