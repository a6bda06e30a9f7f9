/-
  PROVED: the law stepladderlaw07.LinkSums answers true for every input, and leaves its arguments as they were.
  Conditions: the two package-level tables of package sha hold at the call what their initialisers lay; the card ties that to the text of the program (a pruned copy of the project: the packages that the roots of this seat load).
-/
import Derived.Test.YtbjojpgedcikiaaDoorCl
import Derived.Test.YtbjojpgedcikiaaDoorProg
import Derived.WalkKit
import Derived.ProofKit
import Derived.Handy
import Derived.Maps.AppendAt
import Derived.Laws.BytesArg
import Derived.Laws.StructEq
import Derived.ChangeKeysEq
import Derived.Lib.SlBytesConst
import Derived.Deep.MidRow
import Derived.Laws.CopyOwn
import Derived.Laws.MakeOwn
import Derived.Deep.WholeRow
import Derived.Deep.Cut
import Derived.Deep.QuietTactic
import Derived.BigQuiet
import Derived.StillTailTactics
import Derived.Lib.Hide
namespace Go.Proofs.YtbjojpgedcikiaaDoor
set_option maxRecDepth 8000
open Go.RowKit

theorem conv_bytes (A : Option Addr) (n c B : Nat) (xs : List Int) (w : World) (hl : xs.length = n) (h : Bytes w B A xs) : (convert 38 9 (.slice A n c)).run Tryd.prog w = .ok (.string (strOfNums xs)) w := by
  cases A with
  | none =>
    have hn : n = 0 := by
      rcases Nat.eq_zero_or_pos n with h0 | h0
      · exact h0
      · obtain ⟨ad, e, _⟩ := h (by omega)
        cases e
    obtain rfl : xs = [] := List.eq_nil_of_length_eq_zero (by omega)
    exact run_convert_bytes_nil (P := Tryd.prog) w 38 5 Tryd.underlying38 Tryd.underlying5 n c 9 Tryd.underlying9
  | some ad =>
    have hc : (loadCells ad n).run Tryd.prog w = .ok (xs.map (Value.int .u8)).toArray w := by
      have := run_loadCells_list (P := Tryd.prog) w ad (xs.map (Value.int .u8)) (fun j v hj => by
        have hp : 0 < xs.length := by
          rcases Nat.eq_zero_or_pos xs.length with h0 | h0
          · obtain rfl := List.eq_nil_of_length_eq_zero h0
            simp at hj
          · exact h0
        obtain ⟨ad', e, _, hcell⟩ := h hp
        obtain rfl := Option.some.inj e
        exact hcell j v hj)
      simpa [hl] using this
    rw [run_convert_bytes_string w 38 9 5 _ n c Tryd.underlying38 Tryd.underlying5 Tryd.underlying9, run_bytesToString w _ n c xs hc, foldl_push_bytes]
    simp [strOfNums, ByteArray.empty, ByteArray.emptyWithCapacity]
    rfl
/-- strings of bytes are the same just if the bytes are -/
theorem strOf_inj {xs ys : List Int} (hx : ∀ x ∈ xs, 0 ≤ x ∧ x ≤ 255) (hy : ∀ x ∈ ys, 0 ≤ x ∧ x ≤ 255) : strOfNums xs = strOfNums ys ↔ xs = ys := by
  constructor
  · intro h
    have h1 : xs.map (fun n => UInt8.ofNat n.toNat) = ys.map (fun n => UInt8.ofNat n.toNat) := by
      have := congrArg ByteArray.data h
      simpa [strOfNums] using this
    have hl : xs.length = ys.length := by simpa using congrArg List.length h1
    apply List.ext_getElem hl
    intro i h2 h3
    have h4 := congrArg (fun l => l[i]?) h1
    simp only [List.getElem?_map, List.getElem?_eq_getElem h2, List.getElem?_eq_getElem h3, Option.map_some, Option.some.injEq] at h4
    have h5 := congrArg UInt8.toNat h4
    simp at h5
    have a := hx _ (List.getElem_mem h2)
    have b := hy _ (List.getElem_mem h3)
    omega
  · rintro rfl
    rfl
/-- how the model holds two strings of bytes against one another -/
theorem strOf_beq {xs ys : List Int} (hx : ∀ x ∈ xs, 0 ≤ x ∧ x ≤ 255) (hy : ∀ x ∈ ys, 0 ≤ x ∧ x ≤ 255) : ((strOfNums xs).toList == (strOfNums ys).toList) = decide (xs = ys) := by
  by_cases h : xs = ys
  · subst h
    simp
  · have hne : ¬ (strOfNums xs).toList = (strOfNums ys).toList := fun e => h ((strOf_inj hx hy).1 (ByteArray.ext (Array.toList_inj.1 (by simpa [ByteArray.toList_eq] using e))))
    rw [beq_eq_false_iff_ne.2 hne]
    simp [h]
end Go.Proofs.YtbjojpgedcikiaaDoor

namespace Go.Proofs.YtbjojpgedcikiaaDoor
set_option maxRecDepth 8000

theorem stepT_text (s : Bool) (x y : List Int) : stepT s x y = sumL (stepText s x y) := by
  unfold stepT stepText
  cases s <;> rfl
theorem text_inj {a b c d : List Int} (h : a.length = c.length) (e : textT a b = textT c d) : a = c ∧ b = d := by
  unfold textT at e
  exact List.append_inj (List.cons.inj e).2 h
theorem clash_some {l : List (List Int)} {i : Int} {leaf : List Int} {path : List (List Int)} (h64 : l.length ≤ 64) (hc : checkT (rootT l) l.length i leaf path = true) (hne : leaf ≠ l.getD i.toNat []) (h32 : leaf.length = 32) (hl : ∀ x ∈ l, x.length = 32) (hp : ∀ x ∈ path, x.length = 32) (hs : ∀ x, (sumL x).length = 32) :
    ∃ a b, clashT l i leaf path = some (a, b) ∧ a ≠ b ∧ sumL a = sumL b := by
  have hc' := hc
  unfold checkT at hc'
  simp only [decide_eq_true_eq, Int.toNat_natCast] at hc'
  obtain ⟨k1, k2, k3, k4, k5, k6⟩ := hc'
  obtain ⟨j, rfl⟩ := Int.eq_ofNat_of_zero_le k3
  simp only [Int.toNat_natCast] at k5 k6 hne ⊢
  have hj : j < l.length := by omega
  have htop := path_top l.length l j rfl hj
  have heq : climbK (sidesT l.length j) leaf path (sidesT l.length j).length = climbK (sidesT l.length j) (l.getD j []) (pathT l j) (sidesT l.length j).length := by
    have e := k6.trans htop.symm
    exact e
  have hlen := path_len l.length l j rfl
  unfold clashT
  rw [if_pos ⟨hc, by simpa using hne⟩]
  simp only [Int.toNat_natCast]
  cases hm : meetK (sidesT l.length j) leaf (l.getD j []) path (pathT l j) (sidesT l.length j).length 0 with
  | none =>
    exfalso
    have hno := meetK_none _ _ _ _ _ _ _ hm
    obtain ⟨t, h1, h2, h3, _⟩ := climb_meet _ _ _ path (pathT l j) hne _ heq
    exact hno t (Nat.zero_le _) (by omega) h3
  | some k =>
    obtain ⟨_, m2, m3, m4⟩ := meetK_some _ _ _ _ _ _ _ _ hm
    have hk : k < (sidesT l.length j).length := by omega
    have hdiff : climbK (sidesT l.length j) leaf path k ≠ climbK (sidesT l.length j) (l.getD j []) (pathT l j) k := by
      rcases k with _ | k
      · exact hne
      · exact m4 k (Nat.zero_le _) (by omega)
    have h32k : ∀ (x : List Int) (p : List (List Int)), x.length = 32 → ∀ t, (climbK (sidesT l.length j) x p t).length = 32 := by
      intro x p hx t
      cases t with
      | zero => exact hx
      | succ t =>
        show (stepT _ _ _).length = 32
        rw [stepT_text]
        exact hs _
    have hleaf : (l.getD j []).length = 32 := by
      rw [List.getD_eq_getElem?_getD, List.getElem?_eq_getElem hj]
      exact hl _ (List.getElem_mem hj)
    refine ⟨_, _, rfl, ?_, ?_⟩
    · intro e
      unfold stepText at e
      have g1 : (path.getD k []).length = 32 := by
        rw [List.getD_eq_getElem?_getD, List.getElem?_eq_getElem (by omega)]
        exact hp _ (List.getElem_mem _)
      have g2 : ((pathT l j).getD k []).length = 32 := by
        have : ∀ (f : Nat) (l : List (List Int)) (i : Nat), (∀ x ∈ l, x.length = 32) → ∀ x ∈ pathF f l i, x.length = 32 := by
          intro f
          induction f with
          | zero => intro l i _ x hx; cases hx
          | succ f ih =>
            have hr : ∀ l : List (List Int), (∀ x ∈ l, x.length = 32) → (rootT l).length = 32 := by
              intro l hl
              by_cases h0 : l.length = 0
              · rw [List.eq_nil_of_length_eq_zero h0]; exact hs _
              · by_cases h1 : l.length = 1
                · match l, h1 with
                  | [x], _ => exact hl x (List.mem_cons_self ..)
                · rw [root_cut (by omega)]
                  exact hs _
            intro l i hl x hx
            unfold pathF at hx
            split at hx
            · cases hx
            · split at hx
              · rcases List.mem_append.1 hx with h | h
                · exact ih _ _ (fun y hy => hl y (List.mem_of_mem_take hy)) x h
                · cases List.mem_singleton.1 h
                  exact hr _ (fun y hy => hl y (List.mem_of_mem_drop hy))
              · rcases List.mem_append.1 hx with h | h
                · exact ih _ _ (fun y hy => hl y (List.mem_of_mem_drop hy)) x h
                · cases List.mem_singleton.1 h
                  exact hr _ (fun y hy => hl y (List.mem_of_mem_take hy))
        rw [List.getD_eq_getElem?_getD, List.getElem?_eq_getElem (by omega)]
        exact this _ _ _ hl _ (List.getElem_mem _)
      cases hside : (sidesT l.length j).getD k true with
      | true =>
        rw [hside] at e
        simp only [if_true] at e
        exact hdiff (text_inj (by rw [h32k _ _ h32, h32k _ _ hleaf]) e).1
      | false =>
        rw [hside] at e
        simp only [Bool.false_eq_true, if_false] at e
        exact hdiff (text_inj (by rw [g1, g2]) e).2
    · rw [← stepT_text, ← stepT_text]
      exact m3
end Go.Proofs.YtbjojpgedcikiaaDoor

namespace Go.Proofs.YtbjojpgedcikiaaDoor
set_option maxRecDepth 8000
open Go.RowKit

section
variable {a : Act} {dst : Option Tmp} {x l h : Operand} {ty : TypeId} {pos : String} {after : Array Edge} {gd : Option (Nat × Bool)}
theorem conv_op {A : Option Addr} {n c B : Nat} {xs : List Int} {s : ByteArray} (u : World) (hl : xs.length = n) (h : Bytes u B A xs) (hs : strOfNums xs = s) (hx : a.eval x = .slice A n c) :
    (execOp a.eval ⟨dst, .convert 38 9 x, ty, pos, after, gd⟩).run Tryd.prog u = .ok (.value (.string s)) u := by
  subst hs
  unfold execOp
  simp only [hx, Sem.run_bind, Sem.run_pure, Result.andThen_ok, conv_bytes A n c B xs u hl h]
theorem nes_op {s s' : ByteArray} {b : Bool} (u : World) (hb : (!(s.toList == s'.toList)) = b) (hx : a.eval x = .string s) (hy : a.eval l = .string s') :
    (execOp a.eval ⟨dst, .binOp .neq 9 x l 9, ty, pos, after, gd⟩).run Tryd.prog u = .ok (.value (.bool b)) u := by
  subst hb
  unfold execOp
  simp only [hx, hy]
  go_simp
end
end Go.Proofs.YtbjojpgedcikiaaDoor

namespace Go.Proofs.YtbjojpgedcikiaaDoor
set_option maxRecDepth 8000
open Go.RowKit

theorem stepText_len (s : Bool) {a b : List Int} (ha : a.length = 32) (hb : b.length = 32) : (stepText s a b).length = 65 := by
  cases s <;> simp [stepText, textT, ha, hb]
end Go.Proofs.YtbjojpgedcikiaaDoor

namespace Go.Proofs.YtbjojpgedcikiaaDoor
set_option maxRecDepth 8000
open Go.RowKit

/-- what Clash answers for another leaf that checks -/
theorem clash_texts {l p : List (List Int)} {i : Nat} {leaf : List Int} (hI : isIds l) (hJ : isIds p) (hx : isId leaf) (h64 : l.length ≤ 64) (hi : i < l.length) (hc : checkT (rootT l) l.length i leaf p = true) (hne : leaf ≠ l.getD i []) :
    ∃ a b, clashP l i leaf p = (a, b, true) ∧ a ≠ b ∧ sumL a = sumL b ∧ a.length = 65 ∧ b.length = 65 ∧ (∀ x ∈ a, 0 ≤ x ∧ x ≤ 255) ∧ ∀ x ∈ b, 0 ≤ x ∧ x ≤ 255 := by
  have hQI := hI.get (i := i) (by omega)
  have hp2 := path_ids l.length l i rfl hI
  have hpl : p.length = (sidesT l.length i).length := by
    have h := hc
    unfold checkT at h
    simp only [decide_eq_true_eq, Int.toNat_natCast] at h
    exact h.2.2.2.2.1
  obtain ⟨a, b, h1, h2, h3⟩ := clash_some (l := l) (i := (i : Int)) (by omega) hc (by simpa using hne) hx.1 (fun x hx => (hI x hx).1) (fun x hx => (hJ x hx).1) sumL_len
  obtain ⟨j, hj, h4, _, _⟩ := clash_meet (l := l) (i := i) (by omega) hc hne
  rw [h4] at h1
  have hlen := path_len l.length l i rfl
  have k1 := hJ.get (i := j) (by omega)
  have k2 := hp2.get (i := j) (by omega)
  have g1 := climb_id (sidesT l.length i) leaf p hx j
  have g2 := climb_id (sidesT l.length i) (l.getD i []) (pathT l i) hQI j
  have hst : ∀ (s : Bool) (x y : List Int), isId x → isId y → (stepText s x y).length = 65 ∧ ∀ b ∈ stepText s x y, 0 ≤ b ∧ b ≤ 255 := fun s x y hx hy => ⟨stepText_len s hx.1 hy.1, by
    cases s
    · exact textT_byte hy.2 hx.2
    · exact textT_byte hx.2 hy.2⟩
  have e := Option.some.inj h1
  have ea := congrArg Prod.fst e
  have eb := congrArg Prod.snd e
  simp only at ea eb
  have m1 := hst ((sidesT l.length i).getD j true) _ _ g1 k1
  have m2 := hst ((sidesT l.length i).getD j true) _ _ g2 k2
  refine ⟨a, b, ?_, h2, h3, by rw [← ea]; exact m1.1, by rw [← eb]; exact m2.1, by rw [← ea]; exact m1.2, by rw [← eb]; exact m2.2⟩
  unfold clashP
  rw [h4, ← ea, ← eb]
theorem clash_no {l p : List (List Int)} {i : Int} {leaf : List Int} (h : ¬ (checkT (rootT l) l.length i leaf p = true ∧ leaf ≠ l.getD i.toNat [])) : clashP l i leaf p = ([], [], false) := by
  unfold clashP clashT
  rw [if_neg h]
end Go.Proofs.YtbjojpgedcikiaaDoor

namespace Go.Proofs.YtbjojpgedcikiaaDoor
set_option maxRecDepth 8000
open Go.RowKit

set_option maxRecDepth 20000 in
set_option maxHeartbeats 8000000 in
theorem law_sums_many (T : TreeC) (K : LinkC) (l p : List (List Int)) (v : List Int) (i : Int) (A A2 : Option Addr) (m c k d : Nat) (w : World) (hl : l.length = m) (hmc : m ≤ c) (hcm : c ≤ maxLen) (hI : isIds l) (hA : IdsIn w w.heap.size A l) (hp : p.length = k) (hkd : k ≤ d) (hdm : d ≤ maxLen) (hJ : isIds p) (hA2 : IdsIn w w.heap.size A2 p) (hv : isId v) (hi : I64 i) (ht : Tables w) (k1 : 32 < m) :
    Calls Tryd.prog 7 #[.slice A m c, .int .i64 i, idv v, .slice A2 k d] w fun e w' => e = .returned (.bool true) ∧ Below w.heap.size w w' := by
  have K5 : Hid (decide (32 < (m : Int)) = true) := decide_eq_true (by omega)
  clear k1
  have E0 : Hid (EnvX w (w.alloc (.cells (arrB 32 v) 24)) [(w.heap.size, Obj.cells (arrB 32 v) 24 (0, 0))]) := (EnvX.start w).new _
  have HAW := Lib.hid (lawake_any T K (w.alloc (.cells (arrB 32 v) 24)) (ht.below (EnvX.bel E0.out)))
  have HT := Lib.hid ht
  have HTR := Lib.hid T
  have HK := Lib.hid K
  clear ht T K
  unfold idv
  go_enter Tryd.func7, Tryd.ntmps7
  go_upto_region 1 with (fail)
  generalize (w.alloc (.cells (arrB 32 v) 24)) = W at *
  go_wp2_with fail
  refine HAW.out.mono ?_
  rintro e w1 ⟨rfl, hb1⟩
  have HB1 := Lib.hid (EnvX.below E0.out hb1).bel
  have E1 : Hid (EnvX w1 w1 [(w.heap.size, Obj.cells (arrB 32 v) 24 (0, 0))]) := ⟨Below.refl _ _, (EnvX.below E0.out hb1).box⟩
  have HT1 := Lib.hid (HT.out.below HB1.out)
  clear hb1 E0 HAW
  go_upto_region 2 with (fail)
  refine wp_region_H (w0 := w1) [(w.heap.size, Obj.cells (arrB 32 v) 24 (0, 0))] (by kernel_rfl) E1.out ?_
  refine anyH_phaseN [0, 1, 2, 3, 4, 5, 6, 7, 8, 9, 10, 11, 12, 13, 14, 15, 16, 17, 18, 19, 20, 21, 22, 23, 24, 25, 26, 27, 28, 29, 30, 31, 32, 33, 34, 35, 36, 37, 38, 39, 40] 0 rfl (by kernel_rfl) ?_
  have hw701 : EnvX w1 _ [] := EnvX.sub (EnvX.drew E1.out) (fun _ h => by cases h)
  have hone := @EnvC.one _ _ _ hw701
  (refine wpG_op rfl rfl rfl ?_; intro K hK; go_big_quiet_op; go_big_quiet_on)
  (refine wpG_op rfl rfl rfl ?_; intro K hK; go_big_quiet_op; go_big_quiet_on)
  (refine wpG_op rfl rfl rfl ?_; intro K hK; go_big_quiet_op; go_big_quiet_on)
  (refine wpG_op rfl rfl rfl ?_; intro K hK; go_big_quiet_op; go_big_quiet_on)
  (refine wpG_val (v := .int .i64 (m : Int)) rfl rfl (fun u hu => lenI_op u rfl) ?_ hw701; intro K hK; go_big_quiet_op; go_big_quiet_on)
  (refine wpG_val (v := .bool true) rfl rfl (fun u hu => gtZ_op u K5.out rfl rfl) ?_ hw701; intro K hK; go_big_quiet_op; go_big_quiet_on)
  (refine wpG_op rfl rfl rfl ?_; intro K hK; go_big_quiet_op; go_big_quiet_on)
  (refine wpG_op rfl rfl rfl ?_; intro K hK; go_big_quiet_op; go_big_quiet_on)
  (refine wpG_skip rfl rfl ?_ hw701; intro K hK; go_big_quiet_op; go_big_quiet_on)
  (refine wpG_skip rfl rfl ?_ hw701; intro K hK; go_big_quiet_op; go_big_quiet_on)
  (refine wpG_skip rfl rfl ?_ hw701; intro K hK; go_big_quiet_op; go_big_quiet_on)
  (refine wpG_op rfl rfl rfl ?_; intro K hK; go_big_quiet_op; go_big_quiet_on)
  (refine wpG_op rfl rfl rfl ?_; intro K hK; go_big_quiet_op; go_big_quiet_on)
  (refine wpG_skip rfl rfl ?_ hw701; intro K hK; go_big_quiet_op; go_big_quiet_on)
  (refine wpG_skip rfl rfl ?_ hw701; intro K hK; go_big_quiet_op; go_big_quiet_on)
  (refine wpG_op rfl rfl rfl ?_; intro K hK; go_big_quiet_op; go_big_quiet_on)
  (refine wpG_op rfl rfl rfl ?_; intro K hK; go_big_quiet_op; go_big_quiet_on)
  (refine wpG_skip rfl rfl ?_ hw701; intro K hK; go_big_quiet_op; go_big_quiet_on)
  (refine wpG_skip rfl rfl ?_ hw701; intro K hK; go_big_quiet_op; go_big_quiet_on)
  (refine wpG_skip rfl rfl ?_ hw701; intro K hK; go_big_quiet_op; go_big_quiet_on)
  (refine wpG_skip rfl rfl ?_ hw701; intro K hK; go_big_quiet_op; go_big_quiet_on)
  (refine wpG_op rfl rfl rfl ?_; intro K hK; go_big_quiet_op; go_big_quiet_on)
  (refine wpG_op rfl rfl rfl ?_; intro K hK; go_big_quiet_op; go_big_quiet_on)
  (refine wpG_skip rfl rfl ?_ hw701; intro K hK; go_big_quiet_op; go_big_quiet_on)
  (refine wpG_skip rfl rfl ?_ hw701; intro K hK; go_big_quiet_op; go_big_quiet_on)
  (refine wpG_skip rfl rfl ?_ hw701; intro K hK; go_big_quiet_op; go_big_quiet_on)
  (refine wpG_skip rfl rfl ?_ hw701; intro K hK; go_big_quiet_op; go_big_quiet_on)
  (refine wpG_skip rfl rfl ?_ hw701; intro K hK; go_big_quiet_op; go_big_quiet_on)
  (refine wpG_skip rfl rfl ?_ hw701; intro K hK; go_big_quiet_op; go_big_quiet_on)
  (refine wpG_op rfl rfl rfl ?_; intro K hK; go_big_quiet_op; go_big_quiet_on)
  (refine wpG_op rfl rfl rfl ?_; intro K hK; go_big_quiet_op; go_big_quiet_on)
  (refine wpG_skip rfl rfl ?_ hw701; intro K hK; go_big_quiet_op; go_big_quiet_on)
  (refine wpG_skip rfl rfl ?_ hw701; intro K hK; go_big_quiet_op; go_big_quiet_on)
  (refine wpG_skip rfl rfl ?_ hw701; intro K hK; go_big_quiet_op; go_big_quiet_on)
  (refine wpG_skip rfl rfl ?_ hw701; intro K hK; go_big_quiet_op; go_big_quiet_on)
  (refine wpG_skip rfl rfl ?_ hw701; intro K hK; go_big_quiet_op; go_big_quiet_on)
  (refine wpG_skip rfl rfl ?_ hw701; intro K hK; go_big_quiet_op; go_big_quiet_on)
  (refine wpG_skip rfl rfl ?_ hw701; intro K hK; go_big_quiet_op; go_big_quiet_on)
  (refine wpG_skip rfl rfl ?_ hw701; intro K hK; go_big_quiet_op; go_big_quiet_on)
  (refine wpG_skip rfl rfl ?_ hw701; intro K hK; go_big_quiet_op; go_big_quiet_on)
  (refine wpG_op rfl rfl rfl ?_; intro K hK; go_big_quiet_op; go_big_quiet_on)
  clear hone hw701
  refine wpG_nil ?_
  refine anyH_done (by kernel_rfl) ?_
  intro u703 E2'
  have EX702 := Lib.hid E2'
  clear E2'
  have HB1 := Lib.hid (HB1.out.trans ((EnvX.bel EX702.out).mono HB1.out.size))
  have HT1 := Lib.hid (HT1.out.below (EnvX.bel EX702.out))
  have E1 : Hid (EnvX u703 u703 [(w.heap.size, Obj.cells (arrB 32 v) 24 (0, 0))]) := ⟨Below.refl _ _, EX702.out.box⟩
  clear EX702
  go_wp2
  go_ret
  exact ⟨rfl, HB1.out⟩
set_option maxRecDepth 20000 in
set_option maxHeartbeats 8000000 in
theorem law_sums_long (T : TreeC) (K : LinkC) (l p : List (List Int)) (v : List Int) (i : Int) (A A2 : Option Addr) (m c k d : Nat) (w : World) (hl : l.length = m) (hmc : m ≤ c) (hcm : c ≤ maxLen) (hI : isIds l) (hA : IdsIn w w.heap.size A l) (hp : p.length = k) (hkd : k ≤ d) (hdm : d ≤ maxLen) (hJ : isIds p) (hA2 : IdsIn w w.heap.size A2 p) (hv : isId v) (hi : I64 i) (ht : Tables w) (k1 : ¬ 32 < m) (k2 : 12 < k) :
    Calls Tryd.prog 7 #[.slice A m c, .int .i64 i, idv v, .slice A2 k d] w fun e w' => e = .returned (.bool true) ∧ Below w.heap.size w w' := by
  have K5 : Hid (decide (32 < (m : Int)) = false) := decide_eq_false (by omega)
  have K10 : Hid (decide (12 < (k : Int)) = true) := decide_eq_true (by omega)
  clear k1
  have E0 : Hid (EnvX w (w.alloc (.cells (arrB 32 v) 24)) [(w.heap.size, Obj.cells (arrB 32 v) 24 (0, 0))]) := (EnvX.start w).new _
  have HAW := Lib.hid (lawake_any T K (w.alloc (.cells (arrB 32 v) 24)) (ht.below (EnvX.bel E0.out)))
  have HT := Lib.hid ht
  have HTR := Lib.hid T
  have HK := Lib.hid K
  clear ht T K
  unfold idv
  go_enter Tryd.func7, Tryd.ntmps7
  go_upto_region 1 with (fail)
  generalize (w.alloc (.cells (arrB 32 v) 24)) = W at *
  go_wp2_with fail
  refine HAW.out.mono ?_
  rintro e w1 ⟨rfl, hb1⟩
  have HB1 := Lib.hid (EnvX.below E0.out hb1).bel
  have E1 : Hid (EnvX w1 w1 [(w.heap.size, Obj.cells (arrB 32 v) 24 (0, 0))]) := ⟨Below.refl _ _, (EnvX.below E0.out hb1).box⟩
  have HT1 := Lib.hid (HT.out.below HB1.out)
  clear hb1 E0 HAW
  go_upto_region 2 with (fail)
  refine wp_region_H (w0 := w1) [(w.heap.size, Obj.cells (arrB 32 v) 24 (0, 0))] (by kernel_rfl) E1.out ?_
  refine anyH_phaseN [0, 1, 2, 3, 4, 5, 6, 7, 8, 9, 10, 11, 12, 13, 14, 15, 16, 17, 18, 19, 20, 21, 22, 23, 24, 25, 26, 27, 28, 29, 30, 31, 32, 33, 34, 35, 36, 37, 38, 39, 40] 0 rfl (by kernel_rfl) ?_
  have hw701 : EnvX w1 _ [] := EnvX.sub (EnvX.drew E1.out) (fun _ h => by cases h)
  have hone := @EnvC.one _ _ _ hw701
  (refine wpG_op rfl rfl rfl ?_; intro K hK; go_big_quiet_op; go_big_quiet_on)
  (refine wpG_op rfl rfl rfl ?_; intro K hK; go_big_quiet_op; go_big_quiet_on)
  (refine wpG_op rfl rfl rfl ?_; intro K hK; go_big_quiet_op; go_big_quiet_on)
  (refine wpG_op rfl rfl rfl ?_; intro K hK; go_big_quiet_op; go_big_quiet_on)
  (refine wpG_val (v := .int .i64 (m : Int)) rfl rfl (fun u hu => lenI_op u rfl) ?_ hw701; intro K hK; go_big_quiet_op; go_big_quiet_on)
  (refine wpG_val (v := .bool false) rfl rfl (fun u hu => gtZ_op u K5.out rfl rfl) ?_ hw701; intro K hK; go_big_quiet_op; go_big_quiet_on)
  (refine wpG_op rfl rfl rfl ?_; intro K hK; go_big_quiet_op; go_big_quiet_on)
  (refine wpG_op rfl rfl rfl ?_; intro K hK; go_big_quiet_op; go_big_quiet_on)
  (refine wpG_op rfl rfl rfl ?_; intro K hK; go_big_quiet_op; go_big_quiet_on)
  (refine wpG_val (v := .int .i64 (k : Int)) rfl rfl (fun u hu => lenI_op u rfl) ?_ hw701; intro K hK; go_big_quiet_op; go_big_quiet_on)
  (refine wpG_val (v := .bool true) rfl rfl (fun u hu => gtZ_op u K10.out rfl rfl) ?_ hw701; intro K hK; go_big_quiet_op; go_big_quiet_on)
  (refine wpG_op rfl rfl rfl ?_; intro K hK; go_big_quiet_op; go_big_quiet_on)
  (refine wpG_op rfl rfl rfl ?_; intro K hK; go_big_quiet_op; go_big_quiet_on)
  (refine wpG_skip rfl rfl ?_ hw701; intro K hK; go_big_quiet_op; go_big_quiet_on)
  (refine wpG_skip rfl rfl ?_ hw701; intro K hK; go_big_quiet_op; go_big_quiet_on)
  (refine wpG_op rfl rfl rfl ?_; intro K hK; go_big_quiet_op; go_big_quiet_on)
  (refine wpG_op rfl rfl rfl ?_; intro K hK; go_big_quiet_op; go_big_quiet_on)
  (refine wpG_skip rfl rfl ?_ hw701; intro K hK; go_big_quiet_op; go_big_quiet_on)
  (refine wpG_skip rfl rfl ?_ hw701; intro K hK; go_big_quiet_op; go_big_quiet_on)
  (refine wpG_skip rfl rfl ?_ hw701; intro K hK; go_big_quiet_op; go_big_quiet_on)
  (refine wpG_skip rfl rfl ?_ hw701; intro K hK; go_big_quiet_op; go_big_quiet_on)
  (refine wpG_op rfl rfl rfl ?_; intro K hK; go_big_quiet_op; go_big_quiet_on)
  (refine wpG_op rfl rfl rfl ?_; intro K hK; go_big_quiet_op; go_big_quiet_on)
  (refine wpG_skip rfl rfl ?_ hw701; intro K hK; go_big_quiet_op; go_big_quiet_on)
  (refine wpG_skip rfl rfl ?_ hw701; intro K hK; go_big_quiet_op; go_big_quiet_on)
  (refine wpG_skip rfl rfl ?_ hw701; intro K hK; go_big_quiet_op; go_big_quiet_on)
  (refine wpG_skip rfl rfl ?_ hw701; intro K hK; go_big_quiet_op; go_big_quiet_on)
  (refine wpG_skip rfl rfl ?_ hw701; intro K hK; go_big_quiet_op; go_big_quiet_on)
  (refine wpG_skip rfl rfl ?_ hw701; intro K hK; go_big_quiet_op; go_big_quiet_on)
  (refine wpG_op rfl rfl rfl ?_; intro K hK; go_big_quiet_op; go_big_quiet_on)
  (refine wpG_op rfl rfl rfl ?_; intro K hK; go_big_quiet_op; go_big_quiet_on)
  (refine wpG_skip rfl rfl ?_ hw701; intro K hK; go_big_quiet_op; go_big_quiet_on)
  (refine wpG_skip rfl rfl ?_ hw701; intro K hK; go_big_quiet_op; go_big_quiet_on)
  (refine wpG_skip rfl rfl ?_ hw701; intro K hK; go_big_quiet_op; go_big_quiet_on)
  (refine wpG_skip rfl rfl ?_ hw701; intro K hK; go_big_quiet_op; go_big_quiet_on)
  (refine wpG_skip rfl rfl ?_ hw701; intro K hK; go_big_quiet_op; go_big_quiet_on)
  (refine wpG_skip rfl rfl ?_ hw701; intro K hK; go_big_quiet_op; go_big_quiet_on)
  (refine wpG_skip rfl rfl ?_ hw701; intro K hK; go_big_quiet_op; go_big_quiet_on)
  (refine wpG_skip rfl rfl ?_ hw701; intro K hK; go_big_quiet_op; go_big_quiet_on)
  (refine wpG_skip rfl rfl ?_ hw701; intro K hK; go_big_quiet_op; go_big_quiet_on)
  (refine wpG_op rfl rfl rfl ?_; intro K hK; go_big_quiet_op; go_big_quiet_on)
  clear hone hw701
  refine wpG_nil ?_
  refine anyH_done (by kernel_rfl) ?_
  intro u703 E2'
  have EX702 := Lib.hid E2'
  clear E2'
  have HB1 := Lib.hid (HB1.out.trans ((EnvX.bel EX702.out).mono HB1.out.size))
  have HT1 := Lib.hid (HT1.out.below (EnvX.bel EX702.out))
  have E1 : Hid (EnvX u703 u703 [(w.heap.size, Obj.cells (arrB 32 v) 24 (0, 0))]) := ⟨Below.refl _ _, EX702.out.box⟩
  clear EX702
  go_wp2
  go_ret
  exact ⟨rfl, HB1.out⟩
set_option maxRecDepth 20000 in
set_option maxHeartbeats 8000000 in
theorem law_sums_neg (T : TreeC) (K : LinkC) (l p : List (List Int)) (v : List Int) (i : Int) (A A2 : Option Addr) (m c k d : Nat) (w : World) (hl : l.length = m) (hmc : m ≤ c) (hcm : c ≤ maxLen) (hI : isIds l) (hA : IdsIn w w.heap.size A l) (hp : p.length = k) (hkd : k ≤ d) (hdm : d ≤ maxLen) (hJ : isIds p) (hA2 : IdsIn w w.heap.size A2 p) (hv : isId v) (hi : I64 i) (ht : Tables w) (k1 : ¬ 32 < m) (k2 : ¬ 12 < k) (k3 : i < 0) :
    Calls Tryd.prog 7 #[.slice A m c, .int .i64 i, idv v, .slice A2 k d] w fun e w' => e = .returned (.bool true) ∧ Below w.heap.size w w' := by
  have K5 : Hid (decide (32 < (m : Int)) = false) := decide_eq_false (by omega)
  have K10 : Hid (decide (12 < (k : Int)) = false) := decide_eq_false (by omega)
  have K14 : Hid (decide (i < 0) = true) := decide_eq_true (by omega)
  clear k1
  have E0 : Hid (EnvX w (w.alloc (.cells (arrB 32 v) 24)) [(w.heap.size, Obj.cells (arrB 32 v) 24 (0, 0))]) := (EnvX.start w).new _
  have HAW := Lib.hid (lawake_any T K (w.alloc (.cells (arrB 32 v) 24)) (ht.below (EnvX.bel E0.out)))
  have HT := Lib.hid ht
  have HTR := Lib.hid T
  have HK := Lib.hid K
  clear ht T K
  unfold idv
  go_enter Tryd.func7, Tryd.ntmps7
  go_upto_region 1 with (fail)
  generalize (w.alloc (.cells (arrB 32 v) 24)) = W at *
  go_wp2_with fail
  refine HAW.out.mono ?_
  rintro e w1 ⟨rfl, hb1⟩
  have HB1 := Lib.hid (EnvX.below E0.out hb1).bel
  have E1 : Hid (EnvX w1 w1 [(w.heap.size, Obj.cells (arrB 32 v) 24 (0, 0))]) := ⟨Below.refl _ _, (EnvX.below E0.out hb1).box⟩
  have HT1 := Lib.hid (HT.out.below HB1.out)
  clear hb1 E0 HAW
  go_upto_region 2 with (fail)
  refine wp_region_H (w0 := w1) [(w.heap.size, Obj.cells (arrB 32 v) 24 (0, 0))] (by kernel_rfl) E1.out ?_
  refine anyH_phaseN [0, 1, 2, 3, 4, 5, 6, 7, 8, 9, 10, 11, 12, 13, 14, 15, 16, 17, 18, 19, 20, 21, 22, 23, 24, 25, 26, 27, 28, 29, 30, 31, 32, 33, 34, 35, 36, 37, 38, 39, 40] 0 rfl (by kernel_rfl) ?_
  have hw701 : EnvX w1 _ [] := EnvX.sub (EnvX.drew E1.out) (fun _ h => by cases h)
  have hone := @EnvC.one _ _ _ hw701
  (refine wpG_op rfl rfl rfl ?_; intro K hK; go_big_quiet_op; go_big_quiet_on)
  (refine wpG_op rfl rfl rfl ?_; intro K hK; go_big_quiet_op; go_big_quiet_on)
  (refine wpG_op rfl rfl rfl ?_; intro K hK; go_big_quiet_op; go_big_quiet_on)
  (refine wpG_op rfl rfl rfl ?_; intro K hK; go_big_quiet_op; go_big_quiet_on)
  (refine wpG_val (v := .int .i64 (m : Int)) rfl rfl (fun u hu => lenI_op u rfl) ?_ hw701; intro K hK; go_big_quiet_op; go_big_quiet_on)
  (refine wpG_val (v := .bool false) rfl rfl (fun u hu => gtZ_op u K5.out rfl rfl) ?_ hw701; intro K hK; go_big_quiet_op; go_big_quiet_on)
  (refine wpG_op rfl rfl rfl ?_; intro K hK; go_big_quiet_op; go_big_quiet_on)
  (refine wpG_op rfl rfl rfl ?_; intro K hK; go_big_quiet_op; go_big_quiet_on)
  (refine wpG_op rfl rfl rfl ?_; intro K hK; go_big_quiet_op; go_big_quiet_on)
  (refine wpG_val (v := .int .i64 (k : Int)) rfl rfl (fun u hu => lenI_op u rfl) ?_ hw701; intro K hK; go_big_quiet_op; go_big_quiet_on)
  (refine wpG_val (v := .bool false) rfl rfl (fun u hu => gtZ_op u K10.out rfl rfl) ?_ hw701; intro K hK; go_big_quiet_op; go_big_quiet_on)
  (refine wpG_op rfl rfl rfl ?_; intro K hK; go_big_quiet_op; go_big_quiet_on)
  (refine wpG_op rfl rfl rfl ?_; intro K hK; go_big_quiet_op; go_big_quiet_on)
  (refine wpG_op rfl rfl rfl ?_; intro K hK; go_big_quiet_op; go_big_quiet_on)
  (refine wpG_val (v := .bool true) rfl rfl (fun u hu => ltZ_op u K14.out rfl rfl) ?_ hw701; intro K hK; go_big_quiet_op; go_big_quiet_on)
  (refine wpG_op rfl rfl rfl ?_; intro K hK; go_big_quiet_op; go_big_quiet_on)
  (refine wpG_op rfl rfl rfl ?_; intro K hK; go_big_quiet_op; go_big_quiet_on)
  (refine wpG_skip rfl rfl ?_ hw701; intro K hK; go_big_quiet_op; go_big_quiet_on)
  (refine wpG_skip rfl rfl ?_ hw701; intro K hK; go_big_quiet_op; go_big_quiet_on)
  (refine wpG_skip rfl rfl ?_ hw701; intro K hK; go_big_quiet_op; go_big_quiet_on)
  (refine wpG_skip rfl rfl ?_ hw701; intro K hK; go_big_quiet_op; go_big_quiet_on)
  (refine wpG_op rfl rfl rfl ?_; intro K hK; go_big_quiet_op; go_big_quiet_on)
  (refine wpG_op rfl rfl rfl ?_; intro K hK; go_big_quiet_op; go_big_quiet_on)
  (refine wpG_skip rfl rfl ?_ hw701; intro K hK; go_big_quiet_op; go_big_quiet_on)
  (refine wpG_skip rfl rfl ?_ hw701; intro K hK; go_big_quiet_op; go_big_quiet_on)
  (refine wpG_skip rfl rfl ?_ hw701; intro K hK; go_big_quiet_op; go_big_quiet_on)
  (refine wpG_skip rfl rfl ?_ hw701; intro K hK; go_big_quiet_op; go_big_quiet_on)
  (refine wpG_skip rfl rfl ?_ hw701; intro K hK; go_big_quiet_op; go_big_quiet_on)
  (refine wpG_skip rfl rfl ?_ hw701; intro K hK; go_big_quiet_op; go_big_quiet_on)
  (refine wpG_op rfl rfl rfl ?_; intro K hK; go_big_quiet_op; go_big_quiet_on)
  (refine wpG_op rfl rfl rfl ?_; intro K hK; go_big_quiet_op; go_big_quiet_on)
  (refine wpG_skip rfl rfl ?_ hw701; intro K hK; go_big_quiet_op; go_big_quiet_on)
  (refine wpG_skip rfl rfl ?_ hw701; intro K hK; go_big_quiet_op; go_big_quiet_on)
  (refine wpG_skip rfl rfl ?_ hw701; intro K hK; go_big_quiet_op; go_big_quiet_on)
  (refine wpG_skip rfl rfl ?_ hw701; intro K hK; go_big_quiet_op; go_big_quiet_on)
  (refine wpG_skip rfl rfl ?_ hw701; intro K hK; go_big_quiet_op; go_big_quiet_on)
  (refine wpG_skip rfl rfl ?_ hw701; intro K hK; go_big_quiet_op; go_big_quiet_on)
  (refine wpG_skip rfl rfl ?_ hw701; intro K hK; go_big_quiet_op; go_big_quiet_on)
  (refine wpG_skip rfl rfl ?_ hw701; intro K hK; go_big_quiet_op; go_big_quiet_on)
  (refine wpG_skip rfl rfl ?_ hw701; intro K hK; go_big_quiet_op; go_big_quiet_on)
  (refine wpG_op rfl rfl rfl ?_; intro K hK; go_big_quiet_op; go_big_quiet_on)
  clear hone hw701
  refine wpG_nil ?_
  refine anyH_done (by kernel_rfl) ?_
  intro u703 E2'
  have EX702 := Lib.hid E2'
  clear E2'
  have HB1 := Lib.hid (HB1.out.trans ((EnvX.bel EX702.out).mono HB1.out.size))
  have HT1 := Lib.hid (HT1.out.below (EnvX.bel EX702.out))
  have E1 : Hid (EnvX u703 u703 [(w.heap.size, Obj.cells (arrB 32 v) 24 (0, 0))]) := ⟨Below.refl _ _, EX702.out.box⟩
  clear EX702
  go_wp2
  go_ret
  exact ⟨rfl, HB1.out⟩
set_option maxRecDepth 20000 in
set_option maxHeartbeats 8000000 in
theorem law_sums_over (T : TreeC) (K : LinkC) (l p : List (List Int)) (v : List Int) (i : Int) (A A2 : Option Addr) (m c k d : Nat) (w : World) (hl : l.length = m) (hmc : m ≤ c) (hcm : c ≤ maxLen) (hI : isIds l) (hA : IdsIn w w.heap.size A l) (hp : p.length = k) (hkd : k ≤ d) (hdm : d ≤ maxLen) (hJ : isIds p) (hA2 : IdsIn w w.heap.size A2 p) (hv : isId v) (hi : I64 i) (ht : Tables w) (k1 : ¬ 32 < m) (k2 : ¬ 12 < k) (k3 : ¬ i < 0) (k4 : (m : Int) ≤ i) :
    Calls Tryd.prog 7 #[.slice A m c, .int .i64 i, idv v, .slice A2 k d] w fun e w' => e = .returned (.bool true) ∧ Below w.heap.size w w' := by
  have K5 : Hid (decide (32 < (m : Int)) = false) := decide_eq_false (by omega)
  have K10 : Hid (decide (12 < (k : Int)) = false) := decide_eq_false (by omega)
  have K14 : Hid (decide (i < 0) = false) := decide_eq_false (by omega)
  have K20 : Hid (decide ((m : Int) ≤ i) = true) := decide_eq_true (by omega)
  clear k1
  have E0 : Hid (EnvX w (w.alloc (.cells (arrB 32 v) 24)) [(w.heap.size, Obj.cells (arrB 32 v) 24 (0, 0))]) := (EnvX.start w).new _
  have HAW := Lib.hid (lawake_any T K (w.alloc (.cells (arrB 32 v) 24)) (ht.below (EnvX.bel E0.out)))
  have HT := Lib.hid ht
  have HTR := Lib.hid T
  have HK := Lib.hid K
  clear ht T K
  unfold idv
  go_enter Tryd.func7, Tryd.ntmps7
  go_upto_region 1 with (fail)
  generalize (w.alloc (.cells (arrB 32 v) 24)) = W at *
  go_wp2_with fail
  refine HAW.out.mono ?_
  rintro e w1 ⟨rfl, hb1⟩
  have HB1 := Lib.hid (EnvX.below E0.out hb1).bel
  have E1 : Hid (EnvX w1 w1 [(w.heap.size, Obj.cells (arrB 32 v) 24 (0, 0))]) := ⟨Below.refl _ _, (EnvX.below E0.out hb1).box⟩
  have HT1 := Lib.hid (HT.out.below HB1.out)
  clear hb1 E0 HAW
  go_upto_region 2 with (fail)
  refine wp_region_H (w0 := w1) [(w.heap.size, Obj.cells (arrB 32 v) 24 (0, 0))] (by kernel_rfl) E1.out ?_
  refine anyH_phaseN [0, 1, 2, 3, 4, 5, 6, 7, 8, 9, 10, 11, 12, 13, 14, 15, 16, 17, 18, 19, 20, 21, 22, 23, 24, 25, 26, 27, 28, 29, 30, 31, 32, 33, 34, 35, 36, 37, 38, 39, 40] 0 rfl (by kernel_rfl) ?_
  have hw701 : EnvX w1 _ [] := EnvX.sub (EnvX.drew E1.out) (fun _ h => by cases h)
  have hone := @EnvC.one _ _ _ hw701
  (refine wpG_op rfl rfl rfl ?_; intro K hK; go_big_quiet_op; go_big_quiet_on)
  (refine wpG_op rfl rfl rfl ?_; intro K hK; go_big_quiet_op; go_big_quiet_on)
  (refine wpG_op rfl rfl rfl ?_; intro K hK; go_big_quiet_op; go_big_quiet_on)
  (refine wpG_op rfl rfl rfl ?_; intro K hK; go_big_quiet_op; go_big_quiet_on)
  (refine wpG_val (v := .int .i64 (m : Int)) rfl rfl (fun u hu => lenI_op u rfl) ?_ hw701; intro K hK; go_big_quiet_op; go_big_quiet_on)
  (refine wpG_val (v := .bool false) rfl rfl (fun u hu => gtZ_op u K5.out rfl rfl) ?_ hw701; intro K hK; go_big_quiet_op; go_big_quiet_on)
  (refine wpG_op rfl rfl rfl ?_; intro K hK; go_big_quiet_op; go_big_quiet_on)
  (refine wpG_op rfl rfl rfl ?_; intro K hK; go_big_quiet_op; go_big_quiet_on)
  (refine wpG_op rfl rfl rfl ?_; intro K hK; go_big_quiet_op; go_big_quiet_on)
  (refine wpG_val (v := .int .i64 (k : Int)) rfl rfl (fun u hu => lenI_op u rfl) ?_ hw701; intro K hK; go_big_quiet_op; go_big_quiet_on)
  (refine wpG_val (v := .bool false) rfl rfl (fun u hu => gtZ_op u K10.out rfl rfl) ?_ hw701; intro K hK; go_big_quiet_op; go_big_quiet_on)
  (refine wpG_op rfl rfl rfl ?_; intro K hK; go_big_quiet_op; go_big_quiet_on)
  (refine wpG_op rfl rfl rfl ?_; intro K hK; go_big_quiet_op; go_big_quiet_on)
  (refine wpG_op rfl rfl rfl ?_; intro K hK; go_big_quiet_op; go_big_quiet_on)
  (refine wpG_val (v := .bool false) rfl rfl (fun u hu => ltZ_op u K14.out rfl rfl) ?_ hw701; intro K hK; go_big_quiet_op; go_big_quiet_on)
  (refine wpG_op rfl rfl rfl ?_; intro K hK; go_big_quiet_op; go_big_quiet_on)
  (refine wpG_op rfl rfl rfl ?_; intro K hK; go_big_quiet_op; go_big_quiet_on)
  (refine wpG_op rfl rfl rfl ?_; intro K hK; go_big_quiet_op; go_big_quiet_on)
  (refine wpG_op rfl rfl rfl ?_; intro K hK; go_big_quiet_op; go_big_quiet_on)
  (refine wpG_val (v := .int .i64 (m : Int)) rfl rfl (fun u hu => lenI_op u rfl) ?_ hw701; intro K hK; go_big_quiet_op; go_big_quiet_on)
  (refine wpG_val (v := .bool true) rfl rfl (fun u hu => geq_op u K20.out rfl rfl) ?_ hw701; intro K hK; go_big_quiet_op; go_big_quiet_on)
  (refine wpG_op rfl rfl rfl ?_; intro K hK; go_big_quiet_op; go_big_quiet_on)
  (refine wpG_op rfl rfl rfl ?_; intro K hK; go_big_quiet_op; go_big_quiet_on)
  (refine wpG_skip rfl rfl ?_ hw701; intro K hK; go_big_quiet_op; go_big_quiet_on)
  (refine wpG_skip rfl rfl ?_ hw701; intro K hK; go_big_quiet_op; go_big_quiet_on)
  (refine wpG_skip rfl rfl ?_ hw701; intro K hK; go_big_quiet_op; go_big_quiet_on)
  (refine wpG_skip rfl rfl ?_ hw701; intro K hK; go_big_quiet_op; go_big_quiet_on)
  (refine wpG_skip rfl rfl ?_ hw701; intro K hK; go_big_quiet_op; go_big_quiet_on)
  (refine wpG_skip rfl rfl ?_ hw701; intro K hK; go_big_quiet_op; go_big_quiet_on)
  (refine wpG_op rfl rfl rfl ?_; intro K hK; go_big_quiet_op; go_big_quiet_on)
  (refine wpG_op rfl rfl rfl ?_; intro K hK; go_big_quiet_op; go_big_quiet_on)
  (refine wpG_skip rfl rfl ?_ hw701; intro K hK; go_big_quiet_op; go_big_quiet_on)
  (refine wpG_skip rfl rfl ?_ hw701; intro K hK; go_big_quiet_op; go_big_quiet_on)
  (refine wpG_skip rfl rfl ?_ hw701; intro K hK; go_big_quiet_op; go_big_quiet_on)
  (refine wpG_skip rfl rfl ?_ hw701; intro K hK; go_big_quiet_op; go_big_quiet_on)
  (refine wpG_skip rfl rfl ?_ hw701; intro K hK; go_big_quiet_op; go_big_quiet_on)
  (refine wpG_skip rfl rfl ?_ hw701; intro K hK; go_big_quiet_op; go_big_quiet_on)
  (refine wpG_skip rfl rfl ?_ hw701; intro K hK; go_big_quiet_op; go_big_quiet_on)
  (refine wpG_skip rfl rfl ?_ hw701; intro K hK; go_big_quiet_op; go_big_quiet_on)
  (refine wpG_skip rfl rfl ?_ hw701; intro K hK; go_big_quiet_op; go_big_quiet_on)
  (refine wpG_op rfl rfl rfl ?_; intro K hK; go_big_quiet_op; go_big_quiet_on)
  clear hone hw701
  refine wpG_nil ?_
  refine anyH_done (by kernel_rfl) ?_
  intro u703 E2'
  have EX702 := Lib.hid E2'
  clear E2'
  have HB1 := Lib.hid (HB1.out.trans ((EnvX.bel EX702.out).mono HB1.out.size))
  have HT1 := Lib.hid (HT1.out.below (EnvX.bel EX702.out))
  have E1 : Hid (EnvX u703 u703 [(w.heap.size, Obj.cells (arrB 32 v) 24 (0, 0))]) := ⟨Below.refl _ _, EX702.out.box⟩
  clear EX702
  go_wp2
  go_ret
  exact ⟨rfl, HB1.out⟩
set_option maxRecDepth 20000 in
set_option maxHeartbeats 8000000 in
theorem law_sums_same (T : TreeC) (K : LinkC) (l p : List (List Int)) (v : List Int) (j : Nat) (A A2 : Option Addr) (m c k d : Nat) (w : World) (hl : l.length = m) (hmc : m ≤ c) (hcm : c ≤ maxLen) (hI : isIds l) (hA : IdsIn w w.heap.size A l) (hp : p.length = k) (hkd : k ≤ d) (hdm : d ≤ maxLen) (hJ : isIds p) (hA2 : IdsIn w w.heap.size A2 p) (hv : isId v) (hi : I64 (j : Int)) (ht : Tables w) (k1 : m ≤ 32) (k2 : k ≤ 12) (k3 : j < m) (d0 : v = l.getD j []) :
    Calls Tryd.prog 7 #[.slice A m c, .int .i64 (j : Int), idv v, .slice A2 k d] w fun e w' => e = .returned (.bool true) ∧ Below w.heap.size w w' := by
  have K5 : Hid (decide (32 < (m : Int)) = false) := decide_eq_false (by omega)
  have K10 : Hid (decide (12 < (k : Int)) = false) := decide_eq_false (by omega)
  have K14 : Hid (decide ((j : Int) < 0) = false) := decide_eq_false (by omega)
  have K20 : Hid (decide ((m : Int) ≤ (j : Int)) = false) := decide_eq_false (by omega)
  have HRI : Hid (isId (rootT (leavesL l))) := root_id (leavesL_ids l)
  have HY := Lib.hid (hI.get (i := j) (by omega))
  have HEQ : Hid (eqL v (l.getD j []) = true) := decide_eq_true d0
  clear d0
  have HV := Lib.hid hv
  have HL := Lib.hid (And.intro hl (And.intro hmc hcm))
  have HIA := Lib.hid (And.intro hI hA)
  have HP := Lib.hid (And.intro hp (And.intro hkd hdm))
  have HJA := Lib.hid (And.intro hJ hA2)
  have hm6 : m ≤ 1000000 := by omega
  have hk6 : k ≤ 1000000 := by omega
  have hmI : I64 (m : Int) := ⟨by omega, by omega⟩
  have HM6 := Lib.hid (And.intro hm6 (And.intro hk6 (And.intro hmI hi)))
  have HM32 : Hid (m ≤ 32) := k1
  have HJM := Lib.hid k3
  clear hl hI hv hA hmc hcm hp hkd hdm hJ hA2 hi k1 k2 k3 hm6 hk6 hmI
  have E0 : Hid (EnvX w (w.alloc (.cells (arrB 32 v) 24)) [(w.heap.size, Obj.cells (arrB 32 v) 24 (0, 0))]) := (EnvX.start w).new _
  have HAW := Lib.hid (lawake_any T K (w.alloc (.cells (arrB 32 v) 24)) (ht.below (EnvX.bel E0.out)))
  have HT := Lib.hid ht
  have HTR := Lib.hid T
  have HK := Lib.hid K
  clear ht T K
  unfold idv
  go_enter Tryd.func7, Tryd.ntmps7
  go_upto_region 1 with (fail)
  generalize (w.alloc (.cells (arrB 32 v) 24)) = W at *
  go_wp2_with fail
  refine HAW.out.mono ?_
  rintro e w1 ⟨rfl, hb1⟩
  have HB1 := Lib.hid (EnvX.below E0.out hb1).bel
  have E1 : Hid (EnvX w1 w1 [(w.heap.size, Obj.cells (arrB 32 v) 24 (0, 0))]) := ⟨Below.refl _ _, (EnvX.below E0.out hb1).box⟩
  have HT1 := Lib.hid (HT.out.below HB1.out)
  clear hb1 E0 HAW
  have HLV : Hid (∀ u, EnvX w1 u [] → (loadVar 24 ⟨w.heap.size, 0, none⟩).run Tryd.prog u = .ok (idv v) u) := fun u hu => box_load (EnvX.comb E1.out hu) (List.mem_append_right [] (List.Mem.head _)) HV.out.1
  have HA1 := Lib.hid (HIA.out.2.up HB1.out)
  have HQ1 := Lib.hid (HJA.out.2.up HB1.out)
  obtain ⟨al, rfl, -⟩ := HA1.out.load HIA.out.1 (i := 0) (by have := HJM.out; rw [HL.out.1]; omega)
  have HLL : Hid (∀ k, k < m → ∀ u, EnvX w1 u [] → (loadVar 24 (al.add (k * 32))).run Tryd.prog u = .ok (idv (l.getD k [])) u) := fun k hk u hu => by
    obtain ⟨a2, e, h⟩ := (HA1.out.up (EnvX.bel hu)).load HIA.out.1 (i := k) (by rw [HL.out.1]; exact hk)
    cases e
    exact h
  have HLJ := Lib.hid (HLL.out j HJM.out)
  go_upto_region 2 with (fail)
  refine wp_region_H (w0 := w1) [(w.heap.size, Obj.cells (arrB 32 v) 24 (0, 0))] (by kernel_rfl) E1.out ?_
  refine anyH_phaseN [0, 1, 2, 3, 4, 5, 6, 7, 8, 9, 10, 11, 12, 13, 14, 15, 16, 17, 18, 19, 20, 21, 22, 23, 24, 25, 26, 27, 28, 29, 30, 31, 32, 33, 34, 35, 36, 37, 38, 39, 40] 0 rfl (by kernel_rfl) ?_
  have hw701 : EnvX w1 _ [] := EnvX.sub (EnvX.drew E1.out) (fun _ h => by cases h)
  have hone := @EnvC.one _ _ _ hw701
  (refine wpG_op rfl rfl rfl ?_; intro K hK; go_big_quiet_op; go_big_quiet_on)
  (refine wpG_op rfl rfl rfl ?_; intro K hK; go_big_quiet_op; go_big_quiet_on)
  (refine wpG_op rfl rfl rfl ?_; intro K hK; go_big_quiet_op; go_big_quiet_on)
  (refine wpG_op rfl rfl rfl ?_; intro K hK; go_big_quiet_op; go_big_quiet_on)
  (refine wpG_val (v := .int .i64 (m : Int)) rfl rfl (fun u hu => lenI_op u rfl) ?_ hw701; intro K hK; go_big_quiet_op; go_big_quiet_on)
  (refine wpG_val (v := .bool false) rfl rfl (fun u hu => gtZ_op u K5.out rfl rfl) ?_ hw701; intro K hK; go_big_quiet_op; go_big_quiet_on)
  (refine wpG_op rfl rfl rfl ?_; intro K hK; go_big_quiet_op; go_big_quiet_on)
  (refine wpG_op rfl rfl rfl ?_; intro K hK; go_big_quiet_op; go_big_quiet_on)
  (refine wpG_op rfl rfl rfl ?_; intro K hK; go_big_quiet_op; go_big_quiet_on)
  (refine wpG_val (v := .int .i64 (k : Int)) rfl rfl (fun u hu => lenI_op u rfl) ?_ hw701; intro K hK; go_big_quiet_op; go_big_quiet_on)
  (refine wpG_val (v := .bool false) rfl rfl (fun u hu => gtZ_op u K10.out rfl rfl) ?_ hw701; intro K hK; go_big_quiet_op; go_big_quiet_on)
  (refine wpG_op rfl rfl rfl ?_; intro K hK; go_big_quiet_op; go_big_quiet_on)
  (refine wpG_op rfl rfl rfl ?_; intro K hK; go_big_quiet_op; go_big_quiet_on)
  (refine wpG_op rfl rfl rfl ?_; intro K hK; go_big_quiet_op; go_big_quiet_on)
  (refine wpG_val (v := .bool false) rfl rfl (fun u hu => ltZ_op u K14.out rfl rfl) ?_ hw701; intro K hK; go_big_quiet_op; go_big_quiet_on)
  (refine wpG_op rfl rfl rfl ?_; intro K hK; go_big_quiet_op; go_big_quiet_on)
  (refine wpG_op rfl rfl rfl ?_; intro K hK; go_big_quiet_op; go_big_quiet_on)
  (refine wpG_op rfl rfl rfl ?_; intro K hK; go_big_quiet_op; go_big_quiet_on)
  (refine wpG_op rfl rfl rfl ?_; intro K hK; go_big_quiet_op; go_big_quiet_on)
  (refine wpG_val (v := .int .i64 (m : Int)) rfl rfl (fun u hu => lenI_op u rfl) ?_ hw701; intro K hK; go_big_quiet_op; go_big_quiet_on)
  (refine wpG_val (v := .bool false) rfl rfl (fun u hu => geq_op u K20.out rfl rfl) ?_ hw701; intro K hK; go_big_quiet_op; go_big_quiet_on)
  (refine wpG_op rfl rfl rfl ?_; intro K hK; go_big_quiet_op; go_big_quiet_on)
  (refine wpG_op rfl rfl rfl ?_; intro K hK; go_big_quiet_op; go_big_quiet_on)
  (refine wpG_val (v := idv v) rfl rfl (fun u hu => load_any_op u (HLV.out u (EnvX.sub hu (fun _ h => by cases h))) rfl) ?_ hw701; intro K hK; go_big_quiet_op; go_big_quiet_on)
  (refine wpG_op rfl rfl rfl ?_; intro K hK; go_big_quiet_op; go_big_quiet_on)
  (refine wpG_op rfl rfl rfl ?_; intro K hK; go_big_quiet_op; go_big_quiet_on)
  (refine wpG_val (v := .pointer (some (al.add (j * 32)))) rfl rfl (fun u hu => idxSl_op (i := j) Tryd.underlying22 aggIdT.size HJM.out u rfl rfl) ?_ hw701; intro K hK; go_big_quiet_op; go_big_quiet_on)
  (refine wpG_val (v := idv (l.getD j [])) rfl rfl (fun u hu => load_any_op u (HLJ.out u (EnvX.sub hu (fun _ h => by cases h))) rfl) ?_ hw701; intro K hK; go_big_quiet_op; go_big_quiet_on)
  (refine wpG_val (v := .bool true) rfl rfl (fun u hu => eqlb_op HV.out.1 HY.out.1 HEQ.out u rfl rfl) ?_ hw701; intro K hK; go_big_quiet_op; go_big_quiet_on)
  (refine wpG_op rfl rfl rfl ?_; intro K hK; go_big_quiet_op; go_big_quiet_on)
  (refine wpG_op rfl rfl rfl ?_; intro K hK; go_big_quiet_op; go_big_quiet_on)
  (refine wpG_skip rfl rfl ?_ hw701; intro K hK; go_big_quiet_op; go_big_quiet_on)
  (refine wpG_skip rfl rfl ?_ hw701; intro K hK; go_big_quiet_op; go_big_quiet_on)
  (refine wpG_skip rfl rfl ?_ hw701; intro K hK; go_big_quiet_op; go_big_quiet_on)
  (refine wpG_skip rfl rfl ?_ hw701; intro K hK; go_big_quiet_op; go_big_quiet_on)
  (refine wpG_skip rfl rfl ?_ hw701; intro K hK; go_big_quiet_op; go_big_quiet_on)
  (refine wpG_skip rfl rfl ?_ hw701; intro K hK; go_big_quiet_op; go_big_quiet_on)
  (refine wpG_skip rfl rfl ?_ hw701; intro K hK; go_big_quiet_op; go_big_quiet_on)
  (refine wpG_skip rfl rfl ?_ hw701; intro K hK; go_big_quiet_op; go_big_quiet_on)
  (refine wpG_skip rfl rfl ?_ hw701; intro K hK; go_big_quiet_op; go_big_quiet_on)
  (refine wpG_op rfl rfl rfl ?_; intro K hK; go_big_quiet_op; go_big_quiet_on)
  clear hone hw701
  refine wpG_nil ?_
  refine anyH_done (by kernel_rfl) ?_
  intro u703 E2'
  have EX702 := Lib.hid E2'
  clear E2'
  have HBE := Lib.hid (HB1.out.trans ((EnvX.bel EX702.out).mono HB1.out.size))
  go_wp2
  go_ret
  exact ⟨rfl, HBE.out⟩
set_option maxRecDepth 20000 in
set_option maxHeartbeats 8000000 in
theorem law_sums_nock (T : TreeC) (K : LinkC) (l p : List (List Int)) (v : List Int) (j : Nat) (A A2 : Option Addr) (m c k d : Nat) (w : World) (hl : l.length = m) (hmc : m ≤ c) (hcm : c ≤ maxLen) (hI : isIds l) (hA : IdsIn w w.heap.size A l) (hp : p.length = k) (hkd : k ≤ d) (hdm : d ≤ maxLen) (hJ : isIds p) (hA2 : IdsIn w w.heap.size A2 p) (hv : isId v) (hi : I64 (j : Int)) (ht : Tables w) (k1 : m ≤ 32) (k2 : k ≤ 12) (k3 : j < m) (d0 : v ≠ l.getD j []) (d1 : checkT (rootT (leavesL l)) m j (leafT v) p = false) :
    Calls Tryd.prog 7 #[.slice A m c, .int .i64 (j : Int), idv v, .slice A2 k d] w fun e w' => e = .returned (.bool true) ∧ Below w.heap.size w w' := by
  have K5 : Hid (decide (32 < (m : Int)) = false) := decide_eq_false (by omega)
  have K10 : Hid (decide (12 < (k : Int)) = false) := decide_eq_false (by omega)
  have K14 : Hid (decide ((j : Int) < 0) = false) := decide_eq_false (by omega)
  have K20 : Hid (decide ((m : Int) ≤ (j : Int)) = false) := decide_eq_false (by omega)
  have HRI : Hid (isId (rootT (leavesL l))) := root_id (leavesL_ids l)
  have HY := Lib.hid (hI.get (i := j) (by omega))
  have HEQ : Hid (eqL v (l.getD j []) = false) := decide_eq_false d0
  have HCV := Lib.hid d1
  clear d0 d1
  have HV := Lib.hid hv
  have HL := Lib.hid (And.intro hl (And.intro hmc hcm))
  have HIA := Lib.hid (And.intro hI hA)
  have HP := Lib.hid (And.intro hp (And.intro hkd hdm))
  have HJA := Lib.hid (And.intro hJ hA2)
  have hm6 : m ≤ 1000000 := by omega
  have hk6 : k ≤ 1000000 := by omega
  have hmI : I64 (m : Int) := ⟨by omega, by omega⟩
  have HM6 := Lib.hid (And.intro hm6 (And.intro hk6 (And.intro hmI hi)))
  have HM32 : Hid (m ≤ 32) := k1
  have HJM := Lib.hid k3
  clear hl hI hv hA hmc hcm hp hkd hdm hJ hA2 hi k1 k2 k3 hm6 hk6 hmI
  have E0 : Hid (EnvX w (w.alloc (.cells (arrB 32 v) 24)) [(w.heap.size, Obj.cells (arrB 32 v) 24 (0, 0))]) := (EnvX.start w).new _
  have HAW := Lib.hid (lawake_any T K (w.alloc (.cells (arrB 32 v) 24)) (ht.below (EnvX.bel E0.out)))
  have HT := Lib.hid ht
  have HTR := Lib.hid T
  have HK := Lib.hid K
  clear ht T K
  unfold idv
  go_enter Tryd.func7, Tryd.ntmps7
  go_upto_region 1 with (fail)
  generalize (w.alloc (.cells (arrB 32 v) 24)) = W at *
  go_wp2_with fail
  refine HAW.out.mono ?_
  rintro e w1 ⟨rfl, hb1⟩
  have HB1 := Lib.hid (EnvX.below E0.out hb1).bel
  have E1 : Hid (EnvX w1 w1 [(w.heap.size, Obj.cells (arrB 32 v) 24 (0, 0))]) := ⟨Below.refl _ _, (EnvX.below E0.out hb1).box⟩
  have HT1 := Lib.hid (HT.out.below HB1.out)
  clear hb1 E0 HAW
  have HLV : Hid (∀ u, EnvX w1 u [] → (loadVar 24 ⟨w.heap.size, 0, none⟩).run Tryd.prog u = .ok (idv v) u) := fun u hu => box_load (EnvX.comb E1.out hu) (List.mem_append_right [] (List.Mem.head _)) HV.out.1
  have HA1 := Lib.hid (HIA.out.2.up HB1.out)
  have HQ1 := Lib.hid (HJA.out.2.up HB1.out)
  obtain ⟨al, rfl, -⟩ := HA1.out.load HIA.out.1 (i := 0) (by have := HJM.out; rw [HL.out.1]; omega)
  have HLL : Hid (∀ k, k < m → ∀ u, EnvX w1 u [] → (loadVar 24 (al.add (k * 32))).run Tryd.prog u = .ok (idv (l.getD k [])) u) := fun k hk u hu => by
    obtain ⟨a2, e, h⟩ := (HA1.out.up (EnvX.bel hu)).load HIA.out.1 (i := k) (by rw [HL.out.1]; exact hk)
    cases e
    exact h
  have HLJ := Lib.hid (HLL.out j HJM.out)
  have HRT : Hid (∀ u, EnvX w1 u [] → Calls Tryd.prog 17 #[.slice (some al) m c] u fun e w' => e = .returned (idv (rootT (leavesL l))) ∧ Below u.heap.size u w') := fun u hu => HK.out.root l (some al) m c u HL.out.1 HM6.out.1 HL.out.2.1 HL.out.2.2 HIA.out.1 (HA1.out.up (EnvX.bel hu)) (HT1.out.below (EnvX.bel hu))
  have HCK : Hid (∀ u, EnvX w1 u [] → Calls Tryd.prog 19 #[idv (rootT (leavesL l)), .int .i64 m, .int .i64 j, idv v, .slice A2 k d] u fun e w' => e = .returned (.bool false) ∧ Below u.heap.size u w') := fun u hu => by
    rw [← HCV.out]
    exact HK.out.check (rootT (leavesL l)) v m j p A2 k d u HRI.out HV.out HM6.out.2.2.1 HM6.out.2.2.2 HP.out.1 HM6.out.2.1 HP.out.2.1 HP.out.2.2 HJA.out.1 (HQ1.out.up (EnvX.bel hu)) (HT1.out.below (EnvX.bel hu))
  go_upto_region 2 with (fail)
  refine wp_region_H (w0 := w1) [(w.heap.size, Obj.cells (arrB 32 v) 24 (0, 0))] (by kernel_rfl) E1.out ?_
  refine anyH_phaseN [0, 1, 2, 3, 4, 5, 6, 7, 8, 9, 10, 11, 12, 13, 14, 15, 16, 17, 18, 19, 20, 21, 22, 23, 24, 25, 26, 27, 28, 29, 30, 31, 32, 33, 34, 35, 36, 37, 38, 39, 40] 0 rfl (by kernel_rfl) ?_
  have hw701 : EnvX w1 _ [] := EnvX.sub (EnvX.drew E1.out) (fun _ h => by cases h)
  have hone := @EnvC.one _ _ _ hw701
  (refine wpG_op rfl rfl rfl ?_; intro K hK; go_big_quiet_op; go_big_quiet_on)
  (refine wpG_op rfl rfl rfl ?_; intro K hK; go_big_quiet_op; go_big_quiet_on)
  (refine wpG_op rfl rfl rfl ?_; intro K hK; go_big_quiet_op; go_big_quiet_on)
  (refine wpG_op rfl rfl rfl ?_; intro K hK; go_big_quiet_op; go_big_quiet_on)
  (refine wpG_val (v := .int .i64 (m : Int)) rfl rfl (fun u hu => lenI_op u rfl) ?_ hw701; intro K hK; go_big_quiet_op; go_big_quiet_on)
  (refine wpG_val (v := .bool false) rfl rfl (fun u hu => gtZ_op u K5.out rfl rfl) ?_ hw701; intro K hK; go_big_quiet_op; go_big_quiet_on)
  (refine wpG_op rfl rfl rfl ?_; intro K hK; go_big_quiet_op; go_big_quiet_on)
  (refine wpG_op rfl rfl rfl ?_; intro K hK; go_big_quiet_op; go_big_quiet_on)
  (refine wpG_op rfl rfl rfl ?_; intro K hK; go_big_quiet_op; go_big_quiet_on)
  (refine wpG_val (v := .int .i64 (k : Int)) rfl rfl (fun u hu => lenI_op u rfl) ?_ hw701; intro K hK; go_big_quiet_op; go_big_quiet_on)
  (refine wpG_val (v := .bool false) rfl rfl (fun u hu => gtZ_op u K10.out rfl rfl) ?_ hw701; intro K hK; go_big_quiet_op; go_big_quiet_on)
  (refine wpG_op rfl rfl rfl ?_; intro K hK; go_big_quiet_op; go_big_quiet_on)
  (refine wpG_op rfl rfl rfl ?_; intro K hK; go_big_quiet_op; go_big_quiet_on)
  (refine wpG_op rfl rfl rfl ?_; intro K hK; go_big_quiet_op; go_big_quiet_on)
  (refine wpG_val (v := .bool false) rfl rfl (fun u hu => ltZ_op u K14.out rfl rfl) ?_ hw701; intro K hK; go_big_quiet_op; go_big_quiet_on)
  (refine wpG_op rfl rfl rfl ?_; intro K hK; go_big_quiet_op; go_big_quiet_on)
  (refine wpG_op rfl rfl rfl ?_; intro K hK; go_big_quiet_op; go_big_quiet_on)
  (refine wpG_op rfl rfl rfl ?_; intro K hK; go_big_quiet_op; go_big_quiet_on)
  (refine wpG_op rfl rfl rfl ?_; intro K hK; go_big_quiet_op; go_big_quiet_on)
  (refine wpG_val (v := .int .i64 (m : Int)) rfl rfl (fun u hu => lenI_op u rfl) ?_ hw701; intro K hK; go_big_quiet_op; go_big_quiet_on)
  (refine wpG_val (v := .bool false) rfl rfl (fun u hu => geq_op u K20.out rfl rfl) ?_ hw701; intro K hK; go_big_quiet_op; go_big_quiet_on)
  (refine wpG_op rfl rfl rfl ?_; intro K hK; go_big_quiet_op; go_big_quiet_on)
  (refine wpG_op rfl rfl rfl ?_; intro K hK; go_big_quiet_op; go_big_quiet_on)
  (refine wpG_val (v := idv v) rfl rfl (fun u hu => load_any_op u (HLV.out u (EnvX.sub hu (fun _ h => by cases h))) rfl) ?_ hw701; intro K hK; go_big_quiet_op; go_big_quiet_on)
  (refine wpG_op rfl rfl rfl ?_; intro K hK; go_big_quiet_op; go_big_quiet_on)
  (refine wpG_op rfl rfl rfl ?_; intro K hK; go_big_quiet_op; go_big_quiet_on)
  (refine wpG_val (v := .pointer (some (al.add (j * 32)))) rfl rfl (fun u hu => idxSl_op (i := j) Tryd.underlying22 aggIdT.size HJM.out u rfl rfl) ?_ hw701; intro K hK; go_big_quiet_op; go_big_quiet_on)
  (refine wpG_val (v := idv (l.getD j [])) rfl rfl (fun u hu => load_any_op u (HLJ.out u (EnvX.sub hu (fun _ h => by cases h))) rfl) ?_ hw701; intro K hK; go_big_quiet_op; go_big_quiet_on)
  (refine wpG_val (v := .bool false) rfl rfl (fun u hu => eqlb_op HV.out.1 HY.out.1 HEQ.out u rfl rfl) ?_ hw701; intro K hK; go_big_quiet_op; go_big_quiet_on)
  (refine wpG_op rfl rfl rfl ?_; intro K hK; go_big_quiet_op; go_big_quiet_on)
  (refine wpG_op rfl rfl rfl ?_; intro K hK; go_big_quiet_op; go_big_quiet_on)
  (refine wpG_op rfl rfl rfl ?_; intro K hK; go_big_quiet_op; go_big_quiet_on)
  (refine wpG_call (f := 17) (args := #[.slice (some al) m c]) (v := idv (rootT (leavesL l))) rfl rfl rfl Tryd.func17 rfl rfl (fun u hu => HRT.out u (EnvX.sub hu (fun _ h => by cases h))) ?_ hw701; intro K hK; go_big_quiet_op; go_big_quiet_on)
  (refine wpG_op rfl rfl rfl ?_; intro K hK; go_big_quiet_op; go_big_quiet_on)
  (refine wpG_val (v := .int .i64 (m : Int)) rfl rfl (fun u hu => lenI_op u rfl) ?_ hw701; intro K hK; go_big_quiet_op; go_big_quiet_on)
  (refine wpG_op rfl rfl rfl ?_; intro K hK; go_big_quiet_op; go_big_quiet_on)
  (refine wpG_val (v := idv v) rfl rfl (fun u hu => load_any_op u (HLV.out u (EnvX.sub hu (fun _ h => by cases h))) rfl) ?_ hw701; intro K hK; go_big_quiet_op; go_big_quiet_on)
  (refine wpG_op rfl rfl rfl ?_; intro K hK; go_big_quiet_op; go_big_quiet_on)
  (refine wpG_call (f := 19) (args := #[idv (rootT (leavesL l)), .int .i64 m, .int .i64 j, idv v, .slice A2 k d]) (v := .bool false) rfl rfl rfl Tryd.func19 rfl rfl (fun u hu => HCK.out u (EnvX.sub hu (fun _ h => by cases h))) ?_ hw701; intro K hK; go_big_quiet_op; go_big_quiet_on)
  (refine wpG_op rfl rfl rfl ?_; intro K hK; go_big_quiet_op; go_big_quiet_on)
  (refine wpG_op rfl rfl rfl ?_; intro K hK; go_big_quiet_op; go_big_quiet_on)
  clear hone hw701
  refine wpG_nil ?_
  refine anyH_done (by kernel_rfl) ?_
  intro u703 E2'
  have EX702 := Lib.hid E2'
  clear E2'
  have HBE := Lib.hid (HB1.out.trans ((EnvX.bel EX702.out).mono HB1.out.size))
  go_wp2
  go_ret
  exact ⟨rfl, HBE.out⟩
set_option maxRecDepth 20000 in
set_option maxHeartbeats 8000000 in
theorem law_sums_yes (T : TreeC) (K : LinkC) (l p : List (List Int)) (v : List Int) (j : Nat) (A A2 : Option Addr) (m c kp d : Nat) (w : World) (hl : l.length = m) (hmc : m ≤ c) (hcm : c ≤ maxLen) (hI : isIds l) (hA : IdsIn w w.heap.size A l) (hp : p.length = kp) (hkd : kp ≤ d) (hdm : d ≤ maxLen) (hJ : isIds p) (hA2 : IdsIn w w.heap.size A2 p) (hv : isId v) (hi : I64 (j : Int)) (ht : Tables w) (k1 : m ≤ 32) (k2 : kp ≤ 12) (k3 : j < m) (d0 : v ≠ l.getD j []) (d1 : checkT (rootT (leavesL l)) m j (leafT v) p = true) (d2 : leafT v ≠ leafT (l.getD j [])) :
    Calls Tryd.prog 7 #[.slice A m c, .int .i64 (j : Int), idv v, .slice A2 kp d] w fun e w' => e = .returned (.bool true) ∧ Below w.heap.size w w' := by
  have K5 : Hid (decide (32 < (m : Int)) = false) := decide_eq_false (by omega)
  have K10 : Hid (decide (12 < (kp : Int)) = false) := decide_eq_false (by omega)
  have K14 : Hid (decide ((j : Int) < 0) = false) := decide_eq_false (by omega)
  have K20 : Hid (decide ((m : Int) ≤ (j : Int)) = false) := decide_eq_false (by omega)
  have HRI : Hid (isId (rootT (leavesL l))) := root_id (leavesL_ids l)
  have HY := Lib.hid (hI.get (i := j) (by omega))
  have HEQ : Hid (eqL v (l.getD j []) = false) := decide_eq_false d0
  have HCV := Lib.hid d1
  have hll0 : (leavesL l).length = m := by rw [leavesL_len]; exact hl
  have hg : (leavesL l).getD j [] = leafT (l.getD j []) := map_getD l leafT [] [] (by omega)
  obtain ⟨ta, tb, htx, htn, hts, hta, htb, hba, hbb⟩ := clash_texts (l := leavesL l) (p := p) (i := j) (leaf := leafT v) (leavesL_ids l) hJ ⟨sumL_len _, sumL_byte _⟩ (by omega) (by omega) (by rw [hll0]; exact d1) (by rw [hg]; exact d2)
  have HTX := Lib.hid htx
  have HTN := Lib.hid htn
  have HTS := Lib.hid hts
  have HTL := Lib.hid (And.intro hta htb)
  have HTB := Lib.hid (And.intro hba hbb)
  clear htx htn hts hta htb hba hbb d0 d1 d2 hll0 hg
  have HV := Lib.hid hv
  have HL := Lib.hid (And.intro hl (And.intro hmc hcm))
  have HIA := Lib.hid (And.intro hI hA)
  have HP := Lib.hid (And.intro hp (And.intro hkd hdm))
  have HJA := Lib.hid (And.intro hJ hA2)
  have hm6 : m ≤ 1000000 := by omega
  have hk6 : kp ≤ 1000000 := by omega
  have hmI : I64 (m : Int) := ⟨by omega, by omega⟩
  have HM6 := Lib.hid (And.intro hm6 (And.intro hk6 (And.intro hmI hi)))
  have HM32 : Hid (m ≤ 32) := k1
  have HJM := Lib.hid k3
  clear hl hI hv hA hmc hcm hp hkd hdm hJ hA2 hi k1 k2 k3 hm6 hk6 hmI
  have E0 : Hid (EnvX w (w.alloc (.cells (arrB 32 v) 24)) [(w.heap.size, Obj.cells (arrB 32 v) 24 (0, 0))]) := (EnvX.start w).new _
  have HAW := Lib.hid (lawake_any T K (w.alloc (.cells (arrB 32 v) 24)) (ht.below (EnvX.bel E0.out)))
  have HT := Lib.hid ht
  have HTR := Lib.hid T
  have HK := Lib.hid K
  clear ht T K
  unfold idv
  go_enter Tryd.func7, Tryd.ntmps7
  go_upto_region 1 with (fail)
  generalize (w.alloc (.cells (arrB 32 v) 24)) = W at *
  go_wp2_with fail
  refine HAW.out.mono ?_
  rintro e w1 ⟨rfl, hb1⟩
  have HB1 := Lib.hid (EnvX.below E0.out hb1).bel
  have E1 : Hid (EnvX w1 w1 [(w.heap.size, Obj.cells (arrB 32 v) 24 (0, 0))]) := ⟨Below.refl _ _, (EnvX.below E0.out hb1).box⟩
  have HT1 := Lib.hid (HT.out.below HB1.out)
  clear hb1 E0 HAW
  have HLV : Hid (∀ u, EnvX w1 u [] → (loadVar 24 ⟨w.heap.size, 0, none⟩).run Tryd.prog u = .ok (idv v) u) := fun u hu => box_load (EnvX.comb E1.out hu) (List.mem_append_right [] (List.Mem.head _)) HV.out.1
  have HA1 := Lib.hid (HIA.out.2.up HB1.out)
  have HQ1 := Lib.hid (HJA.out.2.up HB1.out)
  obtain ⟨al, rfl, -⟩ := HA1.out.load HIA.out.1 (i := 0) (by have := HJM.out; rw [HL.out.1]; omega)
  have HLL : Hid (∀ kp, kp < m → ∀ u, EnvX w1 u [] → (loadVar 24 (al.add (kp * 32))).run Tryd.prog u = .ok (idv (l.getD kp [])) u) := fun kp hk u hu => by
    obtain ⟨a2, e, h⟩ := (HA1.out.up (EnvX.bel hu)).load HIA.out.1 (i := kp) (by rw [HL.out.1]; exact hk)
    cases e
    exact h
  have HLJ := Lib.hid (HLL.out j HJM.out)
  have HRT : Hid (∀ u, EnvX w1 u [] → Calls Tryd.prog 17 #[.slice (some al) m c] u fun e w' => e = .returned (idv (rootT (leavesL l))) ∧ Below u.heap.size u w') := fun u hu => HK.out.root l (some al) m c u HL.out.1 HM6.out.1 HL.out.2.1 HL.out.2.2 HIA.out.1 (HA1.out.up (EnvX.bel hu)) (HT1.out.below (EnvX.bel hu))
  have HCK : Hid (∀ u, EnvX w1 u [] → Calls Tryd.prog 19 #[idv (rootT (leavesL l)), .int .i64 m, .int .i64 j, idv v, .slice A2 kp d] u fun e w' => e = .returned (.bool true) ∧ Below u.heap.size u w') := fun u hu => by
    rw [← HCV.out]
    exact HK.out.check (rootT (leavesL l)) v m j p A2 kp d u HRI.out HV.out HM6.out.2.2.1 HM6.out.2.2.2 HP.out.1 HM6.out.2.1 HP.out.2.1 HP.out.2.2 HJA.out.1 (HQ1.out.up (EnvX.bel hu)) (HT1.out.below (EnvX.bel hu))
  go_upto_region 2 with (fail)
  refine wp_region_H (w0 := w1) [(w.heap.size, Obj.cells (arrB 32 v) 24 (0, 0))] (by kernel_rfl) E1.out ?_
  refine anyH_phaseN [0, 1, 2, 3, 4, 5, 6, 7, 8, 9, 10, 11, 12, 13, 14, 15, 16, 17, 18, 19, 20, 21, 22, 23, 24, 25, 26, 27, 28, 29, 30, 31, 32, 33, 34, 35, 36, 37, 38, 39, 40] 0 rfl (by kernel_rfl) ?_
  have hw701 : EnvX w1 _ [] := EnvX.sub (EnvX.drew E1.out) (fun _ h => by cases h)
  have hone := @EnvC.one _ _ _ hw701
  (refine wpG_op rfl rfl rfl ?_; intro K hK; go_big_quiet_op; go_big_quiet_on)
  (refine wpG_op rfl rfl rfl ?_; intro K hK; go_big_quiet_op; go_big_quiet_on)
  (refine wpG_op rfl rfl rfl ?_; intro K hK; go_big_quiet_op; go_big_quiet_on)
  (refine wpG_op rfl rfl rfl ?_; intro K hK; go_big_quiet_op; go_big_quiet_on)
  (refine wpG_val (v := .int .i64 (m : Int)) rfl rfl (fun u hu => lenI_op u rfl) ?_ hw701; intro K hK; go_big_quiet_op; go_big_quiet_on)
  (refine wpG_val (v := .bool false) rfl rfl (fun u hu => gtZ_op u K5.out rfl rfl) ?_ hw701; intro K hK; go_big_quiet_op; go_big_quiet_on)
  (refine wpG_op rfl rfl rfl ?_; intro K hK; go_big_quiet_op; go_big_quiet_on)
  (refine wpG_op rfl rfl rfl ?_; intro K hK; go_big_quiet_op; go_big_quiet_on)
  (refine wpG_op rfl rfl rfl ?_; intro K hK; go_big_quiet_op; go_big_quiet_on)
  (refine wpG_val (v := .int .i64 (kp : Int)) rfl rfl (fun u hu => lenI_op u rfl) ?_ hw701; intro K hK; go_big_quiet_op; go_big_quiet_on)
  (refine wpG_val (v := .bool false) rfl rfl (fun u hu => gtZ_op u K10.out rfl rfl) ?_ hw701; intro K hK; go_big_quiet_op; go_big_quiet_on)
  (refine wpG_op rfl rfl rfl ?_; intro K hK; go_big_quiet_op; go_big_quiet_on)
  (refine wpG_op rfl rfl rfl ?_; intro K hK; go_big_quiet_op; go_big_quiet_on)
  (refine wpG_op rfl rfl rfl ?_; intro K hK; go_big_quiet_op; go_big_quiet_on)
  (refine wpG_val (v := .bool false) rfl rfl (fun u hu => ltZ_op u K14.out rfl rfl) ?_ hw701; intro K hK; go_big_quiet_op; go_big_quiet_on)
  (refine wpG_op rfl rfl rfl ?_; intro K hK; go_big_quiet_op; go_big_quiet_on)
  (refine wpG_op rfl rfl rfl ?_; intro K hK; go_big_quiet_op; go_big_quiet_on)
  (refine wpG_op rfl rfl rfl ?_; intro K hK; go_big_quiet_op; go_big_quiet_on)
  (refine wpG_op rfl rfl rfl ?_; intro K hK; go_big_quiet_op; go_big_quiet_on)
  (refine wpG_val (v := .int .i64 (m : Int)) rfl rfl (fun u hu => lenI_op u rfl) ?_ hw701; intro K hK; go_big_quiet_op; go_big_quiet_on)
  (refine wpG_val (v := .bool false) rfl rfl (fun u hu => geq_op u K20.out rfl rfl) ?_ hw701; intro K hK; go_big_quiet_op; go_big_quiet_on)
  (refine wpG_op rfl rfl rfl ?_; intro K hK; go_big_quiet_op; go_big_quiet_on)
  (refine wpG_op rfl rfl rfl ?_; intro K hK; go_big_quiet_op; go_big_quiet_on)
  (refine wpG_val (v := idv v) rfl rfl (fun u hu => load_any_op u (HLV.out u (EnvX.sub hu (fun _ h => by cases h))) rfl) ?_ hw701; intro K hK; go_big_quiet_op; go_big_quiet_on)
  (refine wpG_op rfl rfl rfl ?_; intro K hK; go_big_quiet_op; go_big_quiet_on)
  (refine wpG_op rfl rfl rfl ?_; intro K hK; go_big_quiet_op; go_big_quiet_on)
  (refine wpG_val (v := .pointer (some (al.add (j * 32)))) rfl rfl (fun u hu => idxSl_op (i := j) Tryd.underlying22 aggIdT.size HJM.out u rfl rfl) ?_ hw701; intro K hK; go_big_quiet_op; go_big_quiet_on)
  (refine wpG_val (v := idv (l.getD j [])) rfl rfl (fun u hu => load_any_op u (HLJ.out u (EnvX.sub hu (fun _ h => by cases h))) rfl) ?_ hw701; intro K hK; go_big_quiet_op; go_big_quiet_on)
  (refine wpG_val (v := .bool false) rfl rfl (fun u hu => eqlb_op HV.out.1 HY.out.1 HEQ.out u rfl rfl) ?_ hw701; intro K hK; go_big_quiet_op; go_big_quiet_on)
  (refine wpG_op rfl rfl rfl ?_; intro K hK; go_big_quiet_op; go_big_quiet_on)
  (refine wpG_op rfl rfl rfl ?_; intro K hK; go_big_quiet_op; go_big_quiet_on)
  (refine wpG_op rfl rfl rfl ?_; intro K hK; go_big_quiet_op; go_big_quiet_on)
  (refine wpG_call (f := 17) (args := #[.slice (some al) m c]) (v := idv (rootT (leavesL l))) rfl rfl rfl Tryd.func17 rfl rfl (fun u hu => HRT.out u (EnvX.sub hu (fun _ h => by cases h))) ?_ hw701; intro K hK; go_big_quiet_op; go_big_quiet_on)
  (refine wpG_op rfl rfl rfl ?_; intro K hK; go_big_quiet_op; go_big_quiet_on)
  (refine wpG_val (v := .int .i64 (m : Int)) rfl rfl (fun u hu => lenI_op u rfl) ?_ hw701; intro K hK; go_big_quiet_op; go_big_quiet_on)
  (refine wpG_op rfl rfl rfl ?_; intro K hK; go_big_quiet_op; go_big_quiet_on)
  (refine wpG_val (v := idv v) rfl rfl (fun u hu => load_any_op u (HLV.out u (EnvX.sub hu (fun _ h => by cases h))) rfl) ?_ hw701; intro K hK; go_big_quiet_op; go_big_quiet_on)
  (refine wpG_op rfl rfl rfl ?_; intro K hK; go_big_quiet_op; go_big_quiet_on)
  (refine wpG_call (f := 19) (args := #[idv (rootT (leavesL l)), .int .i64 m, .int .i64 j, idv v, .slice A2 kp d]) (v := .bool true) rfl rfl rfl Tryd.func19 rfl rfl (fun u hu => HCK.out u (EnvX.sub hu (fun _ h => by cases h))) ?_ hw701; intro K hK; go_big_quiet_op; go_big_quiet_on)
  (refine wpG_op rfl rfl rfl ?_; intro K hK; go_big_quiet_op; go_big_quiet_on)
  (refine wpG_op rfl rfl rfl ?_; intro K hK; go_big_quiet_op; go_big_quiet_on)
  clear hone hw701
  refine wpG_nil ?_
  refine anyH_done (by kernel_rfl) ?_
  intro u703 E2'
  have EX702 := Lib.hid E2'
  clear E2'
  have HB2 := Lib.hid (HB1.out.trans ((EnvX.bel EX702.out).mono HB1.out.size))
  have HVB0 : Hid (Bytes u703 u703.heap.size (some ⟨w.heap.size, 0, none⟩) v) := bytes_srcI (EnvX.lt (EnvX.comb E1.out EX702.out) (List.mem_append_right [] (List.Mem.head _))) (src_box (EnvX.comb E1.out EX702.out) (List.mem_append_right [] (List.Mem.head _)) (id_src HV.out.1))
  clear EX702 E1 HLV HLL HLJ HRT HCK HA1 HQ1
  generalize u703 = w2 at *
  have HT2 := Lib.hid (HT.out.below HB2.out)
  have HA2 := Lib.hid (HIA.out.2.up HB2.out)
  have HQ2 := Lib.hid (HJA.out.2.up HB2.out)
  go_upto_region 6 with (fail)
  go_loopw [10, 11] (fun lv iv u => ∃ k : Nat, k ≤ m ∧ iv = .int .i64 (k : Int) ∧ Hid (OwnI u w2.heap.size lv (leavesL (l.take k)) ∧ Below w2.heap.size w2 u)) (fun _ iv _ => m - (intOf iv).toNat)
  case atStart => exact ⟨0, by omega, rfl, OwnI.nil _ _, Below.refl _ _⟩
  case round =>
    obtain ⟨k, hk, rfl, hinv⟩ := hrel
    obtain ⟨hO, hB⟩ := hinv.out
    clear hinv
    have hm32 := HM32.out
    by_cases hlt : k < m
    · have hlt2 : (k : Int) < (m : Int) := by omega
      have hkl : k < l.length := by rw [HL.out.1]; exact hlt
      obtain ⟨N, hF, hN⟩ := hO.fresh
      have HF := Lib.hid hF
      have HNB : Hid (∀ y ∈ N, w2.heap.size ≤ y.1) := fun y hy => (hN y hy).1
      have EK : Hid (EnvX w2 wr (N ++ [])) := ⟨hB, fun g o hm => (hN (g, o) (by rwa [List.append_nil] at hm)).2.1⟩
      have hst := lleaves_step hkl
      have hQl : (leavesL (l.take k)).length = k := by rw [leavesL_len, List.length_take]; omega
      have HLF : Hid (∀ u, Below w2.heap.size w2 u → Calls Tryd.prog 21 #[.slice (some (al.add (k * 32))) 32 32] u fun e w' => e = .returned (idv (leafT (l.getD k []))) ∧ Below u.heap.size u w') := fun u hu => by
        obtain ⟨ad2, e, hb⟩ := (HA2.out.up hu).at HIA.out.1 hkl
        cases e
        have h32 := HIA.out.1.get hkl
        exact HTR.out.leaf _ 32 32 _ u h32.1 (by omega) hb h32.2 (HT2.out.below hu)
      have HQ : Hid (isIds (leavesL (l.take k)) ∧ (leavesL (l.take k)).length ≤ 1000000) := ⟨leavesL_ids _, by have := HM32.out; omega⟩
      have HKN := Lib.hid hlt
      have HST := Lib.hid hst
      clear hO hB hF hN hst hQl hkl hlt
      generalize leavesL (l.take k) = Q at *
      generalize l.getD k [] = x at *
      have HLX : Hid ((leafT x).length = 32) := sumL_len _
      go_upto_region 8 with (fail)
      refine wp_region_Hx (w0 := w2) [0, 1, 2, 3, 4, 5, 6, 7, 8] (N ++ []) rfl EK.out ?_
      refine lexH_phase [0, 1, 2, 3, 4, 5] [6, 7, 8] ?_
      have hw1 : EnvX w2 _ (N ++ []) := EK.out
      have hone := @EnvC.one _ _ _ hw1
      (refine wpG_op rfl rfl rfl ?_; intro K hK; go_big_quiet_op; go_big_quiet_on)
      (refine wpG_op rfl rfl rfl ?_; intro K hK; go_big_quiet_op; go_big_quiet_on)
      (refine wpG_op rfl rfl rfl ?_; intro K hK; go_big_quiet_op; go_big_quiet_on)
      (refine wpG_val (v := .pointer (some (al.add (k * 32)))) rfl rfl (fun u hu => idxSl_op Tryd.underlying22 aggIdT.size HKN.out u rfl rfl) ?_ hw1; intro K hK; go_big_quiet_op; go_big_quiet_on)
      (refine wpG_val (v := .slice (some (al.add (k * 32))) 32 32) rfl rfl (fun u hu => sliceArr_op u rfl) ?_ hw1; intro K hK; go_big_quiet_op; go_big_quiet_on)
      (refine wpG_call (f := 21) (args := #[.slice (some (al.add (k * 32))) 32 32]) (v := idv (leafT x)) rfl rfl rfl Tryd.func21 rfl rfl (fun u hu => HLF.out u (EnvX.bel hu)) ?_ hw1; intro K hK; go_big_quiet_op; go_big_quiet_on)
      clear hone hw1
      refine wpG_nil ?_
      refine (hOp_fresh (R := BuiltI (leafT x)) (M0 := (N ++ [])) rfl rfl (fun _ h => h) (fun u hu => FAt_buildI HLX.out rfl u) ?_)
      rintro _ _ ⟨gq, rfl, rfl⟩ hf he2; intro K' hK'; go_big_quiet_op; go_big_quiet_on
      clear hf
      change lexH _ _ _ _ _ _ ((gq, Obj.cells (arrB 32 (leafT x)) 24 (0, 0)) :: (N ++ []))
      refine (hOp_own (gd := none) (R := GrownI w2 (Q ++ [leafT x]) []) rfl rfl rfl rfl (fun u hu => appI_op [] hu HQ.out.1 HLX.out HF.out (fun y hy => ⟨List.mem_cons_of_mem _ (List.mem_append_left _ hy), HNB.out y hy⟩) (List.Mem.head _) (fun _ h => by cases h) HQ.out.2 rfl rfl) ?_)
      rintro x9 M' ⟨N9, rfl, hF9, hn9⟩ he3; intro K' hK'; go_big_quiet_op; go_big_quiet_on
      have HF9 := Lib.hid (And.intro hF9 hn9)
      clear hF9 hn9
      change lexH _ _ _ _ _ _ (N9 ++ [])
      refine lexH_phase [8] [] ?_
      have hw4 : EnvX w2 _ (N9 ++ []) := he3.choose_spec
      have hone := @EnvC.one _ _ _ hw4
      (refine wpG_op rfl rfl rfl ?_; intro K hK; go_big_quiet_op; go_big_quiet_on)
      clear hone hw4
      refine wpG_nil ?_
      intro u6 E2'
      have EX5 := Lib.hid E2'
      clear E2'
      have HNX : Hid (OwnI u6 w2.heap.size x9 (leavesL (l.take (k + 1))) ∧ Below w2.heap.size w2 u6) := by
        refine ⟨?_, EnvX.bel EX5.out⟩
        rw [HST.out]
        refine HF9.out.1.own (fun y hy => ?_) (fun y hy => ⟨(HF9.out.2 y hy).1, EnvX.box EX5.out _ _ (List.mem_append_left _ hy)⟩)
        rcases List.mem_append.1 hy with h | h
        · exact HQ.out.1 y h
        · cases List.mem_singleton.1 h; exact ⟨sumL_len _, sumL_byte _⟩
      go_wp2
      go_roundw
      case rel => exact ⟨k + 1, by omega, by go_num, HNX⟩
      case measure => simp [intOf]; omega
    · obtain rfl : k = m := by omega
      have hge : ¬ (k : Int) < (k : Int) := by omega
      rw [List.take_of_length_le (by rw [HL.out.1]; exact Nat.le_refl _)] at hO
      obtain ⟨A9, c9, rfl, h91, h92⟩ := hO.form
      have hll : (leavesL l).length = k := by rw [leavesL_len]; exact HL.out.1
      rw [hll] at h91 ⊢
      have HS9 := Lib.hid (And.intro h91 (And.intro h92 hO.ids))
      have HLN := Lib.hid hll
      have HB3 := Lib.hid (HB2.out.trans (hB.mono HB2.out.size))
      have HVB := Lib.hid (HVB0.out.up hB)
      have HT3 := Lib.hid (HT.out.below HB3.out)
      have HLFV : Hid (∀ u, Below wr.heap.size wr u → Calls Tryd.prog 21 #[.slice (some ⟨w.heap.size, 0, none⟩) 32 32] u fun e w' => e = .returned (idv (leafT v)) ∧ Below u.heap.size u w') := fun u hu => HTR.out.leaf _ 32 32 v u HV.out.1 (by omega) (HVB.out.up hu) HV.out.2 (HT3.out.below hu)
      have HCL : Hid (∀ u, Below wr.heap.size wr u → Calls Tryd.prog 22 #[.slice A9 k c9, .int .i64 j, idv (leafT v), .slice A2 kp d] u fun e w' => (∃ va vb, e = .returned (.tuple #[va, vb, .bool true]) ∧ OwnB w' u.heap.size va ta ∧ OwnB w' u.heap.size vb tb) ∧ Below u.heap.size u w') := fun u hu => by
        have h := HTR.out.clash (leavesL l) j (leafT v) p A9 A2 k c9 kp d u HLN.out (by have := HM32.out; omega) HS9.out.1 HS9.out.2.1 HM6.out.2.2.2 HP.out.1 HM6.out.2.1 HP.out.2.1 HP.out.2.2 (leavesL_ids l) (HS9.out.2.2.up hu) HJA.out.1 ((HJA.out.2.up HB3.out).up hu) ⟨sumL_len _, sumL_byte _⟩ (HT3.out.below hu)
        rw [HTX.out] at h
        exact h
      clear hO hB h91 h92 hll
      go_upto_region 9 with (fail)
      go_wp2_with fail
      refine (HLFV.out wr (Below.refl _ _)).mono ?_
      rintro e w4 ⟨rfl, hb4⟩
      go_wp2_with fail
      refine (HCL.out w4 hb4).mono ?_
      rintro e w5 ⟨⟨va, vb, rfl, hoa, hob⟩, hb5⟩
      have hb35 := hb4.trans (hb5.mono hb4.size)
      obtain ⟨Aa, ca, rfl⟩ := hoa.form
      obtain ⟨Ab, cb, rfl⟩ := hob.form
      have HOA := Lib.hid hoa.up
      have HOB := Lib.hid hob.up
      rw [HTL.out.1, HTL.out.2]
      have HB5 := Lib.hid (HB3.out.trans (hb35.mono HB3.out.size))
      have HT5 := Lib.hid (HT.out.below HB5.out)
      have HVB5 := Lib.hid (HVB.out.up hb35)
      have HA5 := Lib.hid (HIA.out.2.up HB5.out)
      have E5 : Hid (EnvX w5 w5 []) := EnvX.start _
      clear hoa hob hb4 hb5 hb35 HCL HLFV
      obtain ⟨s0, hs0⟩ : ∃ s, strOfNums ta = s := ⟨_, rfl⟩
      obtain ⟨s1, hs1⟩ : ∃ s, strOfNums tb = s := ⟨_, rfl⟩
      have HS0 := Lib.hid hs0
      have HS1 := Lib.hid hs1
      have HNS : Hid ((!(s0.toList == s1.toList)) = true) := by
        show _ = _
        rw [← hs0, ← hs1, strOf_beq HTB.out.1 HTB.out.2]
        simp [HTN.out]
      clear hs0 hs1
      have HSA : Hid (∀ u, EnvX w5 u [] → Calls Tryd.prog 23 #[.slice Aa 65 ca] u fun e w' => e = .returned (idv (sumL ta)) ∧ Below u.heap.size u w') := fun u hu => sum_any Aa 65 ca ta u HTL.out.1 (by omega) (HOA.out.up (EnvX.bel hu)) HTB.out.1 (HT5.out.below (EnvX.bel hu))
      have HSB : Hid (∀ u, EnvX w5 u [] → Calls Tryd.prog 23 #[.slice Ab 65 cb] u fun e w' => e = .returned (idv (sumL tb)) ∧ Below u.heap.size u w') := fun u hu => sum_any Ab 65 cb tb u HTL.out.2 (by omega) (HOB.out.up (EnvX.bel hu)) HTB.out.2 (HT5.out.below (EnvX.bel hu))
      have HLA : Hid ((sumL ta).length = 32) := sumL_len _
      have HLB : Hid ((sumL tb).length = 32) := sumL_len _
      have HSE : Hid (eqL (sumL ta) (sumL tb) = true) := decide_eq_true HTS.out
      go_upto_region 11 with (fail)
      refine wp_region_Hx (w0 := w5) [0, 1, 2, 3, 4, 5, 6, 7, 8, 9, 10, 11, 12] [] rfl E5.out ?_
      refine lexH_phase [0, 1, 2, 3, 4, 5, 6, 7, 8, 9, 10, 11, 12] [] ?_
      have hw301 : EnvX w5 _ [] := E5.out
      have hone := @EnvC.one _ _ _ hw301
      (refine wpG_op rfl rfl rfl ?_; intro K hK; go_big_quiet_op; go_big_quiet_on)
      (refine wpG_val (v := .string s0) rfl rfl (fun u hu => conv_op u HTL.out.1 (HOA.out.up (EnvX.bel hu)) HS0.out rfl) ?_ hw301; intro K hK; go_big_quiet_op; go_big_quiet_on)
      (refine wpG_op rfl rfl rfl ?_; intro K hK; go_big_quiet_op; go_big_quiet_on)
      (refine wpG_val (v := .string s1) rfl rfl (fun u hu => conv_op u HTL.out.2 (HOB.out.up (EnvX.bel hu)) HS1.out rfl) ?_ hw301; intro K hK; go_big_quiet_op; go_big_quiet_on)
      (refine wpG_val (v := .bool true) rfl rfl (fun u hu => nes_op u HNS.out rfl rfl) ?_ hw301; intro K hK; go_big_quiet_op; go_big_quiet_on)
      (refine wpG_op rfl rfl rfl ?_; intro K hK; go_big_quiet_op; go_big_quiet_on)
      (refine wpG_op rfl rfl rfl ?_; intro K hK; go_big_quiet_op; go_big_quiet_on)
      (refine wpG_call (f := 23) (args := #[.slice Aa 65 ca]) (v := idv (sumL ta)) rfl rfl rfl Tryd.func23 rfl rfl (fun u hu => HSA.out u (EnvX.sub hu (fun _ h => by cases h))) ?_ hw301; intro K hK; go_big_quiet_op; go_big_quiet_on)
      (refine wpG_op rfl rfl rfl ?_; intro K hK; go_big_quiet_op; go_big_quiet_on)
      (refine wpG_call (f := 23) (args := #[.slice Ab 65 cb]) (v := idv (sumL tb)) rfl rfl rfl Tryd.func23 rfl rfl (fun u hu => HSB.out u (EnvX.sub hu (fun _ h => by cases h))) ?_ hw301; intro K hK; go_big_quiet_op; go_big_quiet_on)
      (refine wpG_val (v := .bool true) rfl rfl (fun u hu => eqlb_op HLA.out HLB.out HSE.out u rfl rfl) ?_ hw301; intro K hK; go_big_quiet_op; go_big_quiet_on)
      (refine wpG_op rfl rfl rfl ?_; intro K hK; go_big_quiet_op; go_big_quiet_on)
      (refine wpG_op rfl rfl rfl ?_; intro K hK; go_big_quiet_op; go_big_quiet_on)
      clear hone hw301
      refine wpG_nil ?_
      intro u303 E2'
      have EX302 := Lib.hid E2'
      clear E2'
      have HBE := Lib.hid (HB5.out.trans ((EnvX.bel EX302.out).mono HB5.out.size))
      go_wp2
      go_ret
      exact ⟨rfl, HBE.out⟩
set_option maxRecDepth 20000 in
set_option maxHeartbeats 8000000 in
theorem law_sums_no (T : TreeC) (K : LinkC) (l p : List (List Int)) (v : List Int) (j : Nat) (A A2 : Option Addr) (m c kp d : Nat) (w : World) (hl : l.length = m) (hmc : m ≤ c) (hcm : c ≤ maxLen) (hI : isIds l) (hA : IdsIn w w.heap.size A l) (hp : p.length = kp) (hkd : kp ≤ d) (hdm : d ≤ maxLen) (hJ : isIds p) (hA2 : IdsIn w w.heap.size A2 p) (hv : isId v) (hi : I64 (j : Int)) (ht : Tables w) (k1 : m ≤ 32) (k2 : kp ≤ 12) (k3 : j < m) (d0 : v ≠ l.getD j []) (d1 : checkT (rootT (leavesL l)) m j (leafT v) p = true) (d2 : leafT v = leafT (l.getD j [])) :
    Calls Tryd.prog 7 #[.slice A m c, .int .i64 (j : Int), idv v, .slice A2 kp d] w fun e w' => e = .returned (.bool true) ∧ Below w.heap.size w w' := by
  have K5 : Hid (decide (32 < (m : Int)) = false) := decide_eq_false (by omega)
  have K10 : Hid (decide (12 < (kp : Int)) = false) := decide_eq_false (by omega)
  have K14 : Hid (decide ((j : Int) < 0) = false) := decide_eq_false (by omega)
  have K20 : Hid (decide ((m : Int) ≤ (j : Int)) = false) := decide_eq_false (by omega)
  have HRI : Hid (isId (rootT (leavesL l))) := root_id (leavesL_ids l)
  have HY := Lib.hid (hI.get (i := j) (by omega))
  have HEQ : Hid (eqL v (l.getD j []) = false) := decide_eq_false d0
  have HCV := Lib.hid d1
  have hll0 : (leavesL l).length = m := by rw [leavesL_len]; exact hl
  have hg : (leavesL l).getD j [] = leafT (l.getD j []) := map_getD l leafT [] [] (by omega)
  obtain ⟨ta, tb, htx, htl⟩ : ∃ ta tb, clashP (leavesL l) j (leafT v) p = (ta, tb, false) ∧ ta.length = 0 ∧ tb.length = 0 := ⟨[], [], clash_no (by rw [Int.toNat_natCast, hg]; exact fun h => h.2 d2), rfl, rfl⟩
  have HTX := Lib.hid htx
  have HTL := Lib.hid htl
  have HLE := Lib.hid d2
  clear htx htl d0 d1 d2 hll0 hg
  have HV := Lib.hid hv
  have HL := Lib.hid (And.intro hl (And.intro hmc hcm))
  have HIA := Lib.hid (And.intro hI hA)
  have HP := Lib.hid (And.intro hp (And.intro hkd hdm))
  have HJA := Lib.hid (And.intro hJ hA2)
  have hm6 : m ≤ 1000000 := by omega
  have hk6 : kp ≤ 1000000 := by omega
  have hmI : I64 (m : Int) := ⟨by omega, by omega⟩
  have HM6 := Lib.hid (And.intro hm6 (And.intro hk6 (And.intro hmI hi)))
  have HM32 : Hid (m ≤ 32) := k1
  have HJM := Lib.hid k3
  clear hl hI hv hA hmc hcm hp hkd hdm hJ hA2 hi k1 k2 k3 hm6 hk6 hmI
  have E0 : Hid (EnvX w (w.alloc (.cells (arrB 32 v) 24)) [(w.heap.size, Obj.cells (arrB 32 v) 24 (0, 0))]) := (EnvX.start w).new _
  have HAW := Lib.hid (lawake_any T K (w.alloc (.cells (arrB 32 v) 24)) (ht.below (EnvX.bel E0.out)))
  have HT := Lib.hid ht
  have HTR := Lib.hid T
  have HK := Lib.hid K
  clear ht T K
  unfold idv
  go_enter Tryd.func7, Tryd.ntmps7
  go_upto_region 1 with (fail)
  generalize (w.alloc (.cells (arrB 32 v) 24)) = W at *
  go_wp2_with fail
  refine HAW.out.mono ?_
  rintro e w1 ⟨rfl, hb1⟩
  have HB1 := Lib.hid (EnvX.below E0.out hb1).bel
  have E1 : Hid (EnvX w1 w1 [(w.heap.size, Obj.cells (arrB 32 v) 24 (0, 0))]) := ⟨Below.refl _ _, (EnvX.below E0.out hb1).box⟩
  have HT1 := Lib.hid (HT.out.below HB1.out)
  clear hb1 E0 HAW
  have HLV : Hid (∀ u, EnvX w1 u [] → (loadVar 24 ⟨w.heap.size, 0, none⟩).run Tryd.prog u = .ok (idv v) u) := fun u hu => box_load (EnvX.comb E1.out hu) (List.mem_append_right [] (List.Mem.head _)) HV.out.1
  have HA1 := Lib.hid (HIA.out.2.up HB1.out)
  have HQ1 := Lib.hid (HJA.out.2.up HB1.out)
  obtain ⟨al, rfl, -⟩ := HA1.out.load HIA.out.1 (i := 0) (by have := HJM.out; rw [HL.out.1]; omega)
  have HLL : Hid (∀ kp, kp < m → ∀ u, EnvX w1 u [] → (loadVar 24 (al.add (kp * 32))).run Tryd.prog u = .ok (idv (l.getD kp [])) u) := fun kp hk u hu => by
    obtain ⟨a2, e, h⟩ := (HA1.out.up (EnvX.bel hu)).load HIA.out.1 (i := kp) (by rw [HL.out.1]; exact hk)
    cases e
    exact h
  have HLJ := Lib.hid (HLL.out j HJM.out)
  have HRT : Hid (∀ u, EnvX w1 u [] → Calls Tryd.prog 17 #[.slice (some al) m c] u fun e w' => e = .returned (idv (rootT (leavesL l))) ∧ Below u.heap.size u w') := fun u hu => HK.out.root l (some al) m c u HL.out.1 HM6.out.1 HL.out.2.1 HL.out.2.2 HIA.out.1 (HA1.out.up (EnvX.bel hu)) (HT1.out.below (EnvX.bel hu))
  have HCK : Hid (∀ u, EnvX w1 u [] → Calls Tryd.prog 19 #[idv (rootT (leavesL l)), .int .i64 m, .int .i64 j, idv v, .slice A2 kp d] u fun e w' => e = .returned (.bool true) ∧ Below u.heap.size u w') := fun u hu => by
    rw [← HCV.out]
    exact HK.out.check (rootT (leavesL l)) v m j p A2 kp d u HRI.out HV.out HM6.out.2.2.1 HM6.out.2.2.2 HP.out.1 HM6.out.2.1 HP.out.2.1 HP.out.2.2 HJA.out.1 (HQ1.out.up (EnvX.bel hu)) (HT1.out.below (EnvX.bel hu))
  go_upto_region 2 with (fail)
  refine wp_region_H (w0 := w1) [(w.heap.size, Obj.cells (arrB 32 v) 24 (0, 0))] (by kernel_rfl) E1.out ?_
  refine anyH_phaseN [0, 1, 2, 3, 4, 5, 6, 7, 8, 9, 10, 11, 12, 13, 14, 15, 16, 17, 18, 19, 20, 21, 22, 23, 24, 25, 26, 27, 28, 29, 30, 31, 32, 33, 34, 35, 36, 37, 38, 39, 40] 0 rfl (by kernel_rfl) ?_
  have hw701 : EnvX w1 _ [] := EnvX.sub (EnvX.drew E1.out) (fun _ h => by cases h)
  have hone := @EnvC.one _ _ _ hw701
  (refine wpG_op rfl rfl rfl ?_; intro K hK; go_big_quiet_op; go_big_quiet_on)
  (refine wpG_op rfl rfl rfl ?_; intro K hK; go_big_quiet_op; go_big_quiet_on)
  (refine wpG_op rfl rfl rfl ?_; intro K hK; go_big_quiet_op; go_big_quiet_on)
  (refine wpG_op rfl rfl rfl ?_; intro K hK; go_big_quiet_op; go_big_quiet_on)
  (refine wpG_val (v := .int .i64 (m : Int)) rfl rfl (fun u hu => lenI_op u rfl) ?_ hw701; intro K hK; go_big_quiet_op; go_big_quiet_on)
  (refine wpG_val (v := .bool false) rfl rfl (fun u hu => gtZ_op u K5.out rfl rfl) ?_ hw701; intro K hK; go_big_quiet_op; go_big_quiet_on)
  (refine wpG_op rfl rfl rfl ?_; intro K hK; go_big_quiet_op; go_big_quiet_on)
  (refine wpG_op rfl rfl rfl ?_; intro K hK; go_big_quiet_op; go_big_quiet_on)
  (refine wpG_op rfl rfl rfl ?_; intro K hK; go_big_quiet_op; go_big_quiet_on)
  (refine wpG_val (v := .int .i64 (kp : Int)) rfl rfl (fun u hu => lenI_op u rfl) ?_ hw701; intro K hK; go_big_quiet_op; go_big_quiet_on)
  (refine wpG_val (v := .bool false) rfl rfl (fun u hu => gtZ_op u K10.out rfl rfl) ?_ hw701; intro K hK; go_big_quiet_op; go_big_quiet_on)
  (refine wpG_op rfl rfl rfl ?_; intro K hK; go_big_quiet_op; go_big_quiet_on)
  (refine wpG_op rfl rfl rfl ?_; intro K hK; go_big_quiet_op; go_big_quiet_on)
  (refine wpG_op rfl rfl rfl ?_; intro K hK; go_big_quiet_op; go_big_quiet_on)
  (refine wpG_val (v := .bool false) rfl rfl (fun u hu => ltZ_op u K14.out rfl rfl) ?_ hw701; intro K hK; go_big_quiet_op; go_big_quiet_on)
  (refine wpG_op rfl rfl rfl ?_; intro K hK; go_big_quiet_op; go_big_quiet_on)
  (refine wpG_op rfl rfl rfl ?_; intro K hK; go_big_quiet_op; go_big_quiet_on)
  (refine wpG_op rfl rfl rfl ?_; intro K hK; go_big_quiet_op; go_big_quiet_on)
  (refine wpG_op rfl rfl rfl ?_; intro K hK; go_big_quiet_op; go_big_quiet_on)
  (refine wpG_val (v := .int .i64 (m : Int)) rfl rfl (fun u hu => lenI_op u rfl) ?_ hw701; intro K hK; go_big_quiet_op; go_big_quiet_on)
  (refine wpG_val (v := .bool false) rfl rfl (fun u hu => geq_op u K20.out rfl rfl) ?_ hw701; intro K hK; go_big_quiet_op; go_big_quiet_on)
  (refine wpG_op rfl rfl rfl ?_; intro K hK; go_big_quiet_op; go_big_quiet_on)
  (refine wpG_op rfl rfl rfl ?_; intro K hK; go_big_quiet_op; go_big_quiet_on)
  (refine wpG_val (v := idv v) rfl rfl (fun u hu => load_any_op u (HLV.out u (EnvX.sub hu (fun _ h => by cases h))) rfl) ?_ hw701; intro K hK; go_big_quiet_op; go_big_quiet_on)
  (refine wpG_op rfl rfl rfl ?_; intro K hK; go_big_quiet_op; go_big_quiet_on)
  (refine wpG_op rfl rfl rfl ?_; intro K hK; go_big_quiet_op; go_big_quiet_on)
  (refine wpG_val (v := .pointer (some (al.add (j * 32)))) rfl rfl (fun u hu => idxSl_op (i := j) Tryd.underlying22 aggIdT.size HJM.out u rfl rfl) ?_ hw701; intro K hK; go_big_quiet_op; go_big_quiet_on)
  (refine wpG_val (v := idv (l.getD j [])) rfl rfl (fun u hu => load_any_op u (HLJ.out u (EnvX.sub hu (fun _ h => by cases h))) rfl) ?_ hw701; intro K hK; go_big_quiet_op; go_big_quiet_on)
  (refine wpG_val (v := .bool false) rfl rfl (fun u hu => eqlb_op HV.out.1 HY.out.1 HEQ.out u rfl rfl) ?_ hw701; intro K hK; go_big_quiet_op; go_big_quiet_on)
  (refine wpG_op rfl rfl rfl ?_; intro K hK; go_big_quiet_op; go_big_quiet_on)
  (refine wpG_op rfl rfl rfl ?_; intro K hK; go_big_quiet_op; go_big_quiet_on)
  (refine wpG_op rfl rfl rfl ?_; intro K hK; go_big_quiet_op; go_big_quiet_on)
  (refine wpG_call (f := 17) (args := #[.slice (some al) m c]) (v := idv (rootT (leavesL l))) rfl rfl rfl Tryd.func17 rfl rfl (fun u hu => HRT.out u (EnvX.sub hu (fun _ h => by cases h))) ?_ hw701; intro K hK; go_big_quiet_op; go_big_quiet_on)
  (refine wpG_op rfl rfl rfl ?_; intro K hK; go_big_quiet_op; go_big_quiet_on)
  (refine wpG_val (v := .int .i64 (m : Int)) rfl rfl (fun u hu => lenI_op u rfl) ?_ hw701; intro K hK; go_big_quiet_op; go_big_quiet_on)
  (refine wpG_op rfl rfl rfl ?_; intro K hK; go_big_quiet_op; go_big_quiet_on)
  (refine wpG_val (v := idv v) rfl rfl (fun u hu => load_any_op u (HLV.out u (EnvX.sub hu (fun _ h => by cases h))) rfl) ?_ hw701; intro K hK; go_big_quiet_op; go_big_quiet_on)
  (refine wpG_op rfl rfl rfl ?_; intro K hK; go_big_quiet_op; go_big_quiet_on)
  (refine wpG_call (f := 19) (args := #[idv (rootT (leavesL l)), .int .i64 m, .int .i64 j, idv v, .slice A2 kp d]) (v := .bool true) rfl rfl rfl Tryd.func19 rfl rfl (fun u hu => HCK.out u (EnvX.sub hu (fun _ h => by cases h))) ?_ hw701; intro K hK; go_big_quiet_op; go_big_quiet_on)
  (refine wpG_op rfl rfl rfl ?_; intro K hK; go_big_quiet_op; go_big_quiet_on)
  (refine wpG_op rfl rfl rfl ?_; intro K hK; go_big_quiet_op; go_big_quiet_on)
  clear hone hw701
  refine wpG_nil ?_
  refine anyH_done (by kernel_rfl) ?_
  intro u703 E2'
  have EX702 := Lib.hid E2'
  clear E2'
  have HB2 := Lib.hid (HB1.out.trans ((EnvX.bel EX702.out).mono HB1.out.size))
  have HVB0 : Hid (Bytes u703 u703.heap.size (some ⟨w.heap.size, 0, none⟩) v) := bytes_srcI (EnvX.lt (EnvX.comb E1.out EX702.out) (List.mem_append_right [] (List.Mem.head _))) (src_box (EnvX.comb E1.out EX702.out) (List.mem_append_right [] (List.Mem.head _)) (id_src HV.out.1))
  clear EX702 E1 HLV HLL HLJ HRT HCK HA1 HQ1
  generalize u703 = w2 at *
  have HT2 := Lib.hid (HT.out.below HB2.out)
  have HA2 := Lib.hid (HIA.out.2.up HB2.out)
  have HQ2 := Lib.hid (HJA.out.2.up HB2.out)
  go_upto_region 6 with (fail)
  go_loopw [10, 11] (fun lv iv u => ∃ k : Nat, k ≤ m ∧ iv = .int .i64 (k : Int) ∧ Hid (OwnI u w2.heap.size lv (leavesL (l.take k)) ∧ Below w2.heap.size w2 u)) (fun _ iv _ => m - (intOf iv).toNat)
  case atStart => exact ⟨0, by omega, rfl, OwnI.nil _ _, Below.refl _ _⟩
  case round =>
    obtain ⟨k, hk, rfl, hinv⟩ := hrel
    obtain ⟨hO, hB⟩ := hinv.out
    clear hinv
    have hm32 := HM32.out
    by_cases hlt : k < m
    · have hlt2 : (k : Int) < (m : Int) := by omega
      have hkl : k < l.length := by rw [HL.out.1]; exact hlt
      obtain ⟨N, hF, hN⟩ := hO.fresh
      have HF := Lib.hid hF
      have HNB : Hid (∀ y ∈ N, w2.heap.size ≤ y.1) := fun y hy => (hN y hy).1
      have EK : Hid (EnvX w2 wr (N ++ [])) := ⟨hB, fun g o hm => (hN (g, o) (by rwa [List.append_nil] at hm)).2.1⟩
      have hst := lleaves_step hkl
      have hQl : (leavesL (l.take k)).length = k := by rw [leavesL_len, List.length_take]; omega
      have HLF : Hid (∀ u, Below w2.heap.size w2 u → Calls Tryd.prog 21 #[.slice (some (al.add (k * 32))) 32 32] u fun e w' => e = .returned (idv (leafT (l.getD k []))) ∧ Below u.heap.size u w') := fun u hu => by
        obtain ⟨ad2, e, hb⟩ := (HA2.out.up hu).at HIA.out.1 hkl
        cases e
        have h32 := HIA.out.1.get hkl
        exact HTR.out.leaf _ 32 32 _ u h32.1 (by omega) hb h32.2 (HT2.out.below hu)
      have HQ : Hid (isIds (leavesL (l.take k)) ∧ (leavesL (l.take k)).length ≤ 1000000) := ⟨leavesL_ids _, by have := HM32.out; omega⟩
      have HKN := Lib.hid hlt
      have HST := Lib.hid hst
      clear hO hB hF hN hst hQl hkl hlt
      generalize leavesL (l.take k) = Q at *
      generalize l.getD k [] = x at *
      have HLX : Hid ((leafT x).length = 32) := sumL_len _
      go_upto_region 8 with (fail)
      refine wp_region_Hx (w0 := w2) [0, 1, 2, 3, 4, 5, 6, 7, 8] (N ++ []) rfl EK.out ?_
      refine lexH_phase [0, 1, 2, 3, 4, 5] [6, 7, 8] ?_
      have hw1 : EnvX w2 _ (N ++ []) := EK.out
      have hone := @EnvC.one _ _ _ hw1
      (refine wpG_op rfl rfl rfl ?_; intro K hK; go_big_quiet_op; go_big_quiet_on)
      (refine wpG_op rfl rfl rfl ?_; intro K hK; go_big_quiet_op; go_big_quiet_on)
      (refine wpG_op rfl rfl rfl ?_; intro K hK; go_big_quiet_op; go_big_quiet_on)
      (refine wpG_val (v := .pointer (some (al.add (k * 32)))) rfl rfl (fun u hu => idxSl_op Tryd.underlying22 aggIdT.size HKN.out u rfl rfl) ?_ hw1; intro K hK; go_big_quiet_op; go_big_quiet_on)
      (refine wpG_val (v := .slice (some (al.add (k * 32))) 32 32) rfl rfl (fun u hu => sliceArr_op u rfl) ?_ hw1; intro K hK; go_big_quiet_op; go_big_quiet_on)
      (refine wpG_call (f := 21) (args := #[.slice (some (al.add (k * 32))) 32 32]) (v := idv (leafT x)) rfl rfl rfl Tryd.func21 rfl rfl (fun u hu => HLF.out u (EnvX.bel hu)) ?_ hw1; intro K hK; go_big_quiet_op; go_big_quiet_on)
      clear hone hw1
      refine wpG_nil ?_
      refine (hOp_fresh (R := BuiltI (leafT x)) (M0 := (N ++ [])) rfl rfl (fun _ h => h) (fun u hu => FAt_buildI HLX.out rfl u) ?_)
      rintro _ _ ⟨gq, rfl, rfl⟩ hf he2; intro K' hK'; go_big_quiet_op; go_big_quiet_on
      clear hf
      change lexH _ _ _ _ _ _ ((gq, Obj.cells (arrB 32 (leafT x)) 24 (0, 0)) :: (N ++ []))
      refine (hOp_own (gd := none) (R := GrownI w2 (Q ++ [leafT x]) []) rfl rfl rfl rfl (fun u hu => appI_op [] hu HQ.out.1 HLX.out HF.out (fun y hy => ⟨List.mem_cons_of_mem _ (List.mem_append_left _ hy), HNB.out y hy⟩) (List.Mem.head _) (fun _ h => by cases h) HQ.out.2 rfl rfl) ?_)
      rintro x9 M' ⟨N9, rfl, hF9, hn9⟩ he3; intro K' hK'; go_big_quiet_op; go_big_quiet_on
      have HF9 := Lib.hid (And.intro hF9 hn9)
      clear hF9 hn9
      change lexH _ _ _ _ _ _ (N9 ++ [])
      refine lexH_phase [8] [] ?_
      have hw4 : EnvX w2 _ (N9 ++ []) := he3.choose_spec
      have hone := @EnvC.one _ _ _ hw4
      (refine wpG_op rfl rfl rfl ?_; intro K hK; go_big_quiet_op; go_big_quiet_on)
      clear hone hw4
      refine wpG_nil ?_
      intro u6 E2'
      have EX5 := Lib.hid E2'
      clear E2'
      have HNX : Hid (OwnI u6 w2.heap.size x9 (leavesL (l.take (k + 1))) ∧ Below w2.heap.size w2 u6) := by
        refine ⟨?_, EnvX.bel EX5.out⟩
        rw [HST.out]
        refine HF9.out.1.own (fun y hy => ?_) (fun y hy => ⟨(HF9.out.2 y hy).1, EnvX.box EX5.out _ _ (List.mem_append_left _ hy)⟩)
        rcases List.mem_append.1 hy with h | h
        · exact HQ.out.1 y h
        · cases List.mem_singleton.1 h; exact ⟨sumL_len _, sumL_byte _⟩
      go_wp2
      go_roundw
      case rel => exact ⟨k + 1, by omega, by go_num, HNX⟩
      case measure => simp [intOf]; omega
    · obtain rfl : k = m := by omega
      have hge : ¬ (k : Int) < (k : Int) := by omega
      rw [List.take_of_length_le (by rw [HL.out.1]; exact Nat.le_refl _)] at hO
      obtain ⟨A9, c9, rfl, h91, h92⟩ := hO.form
      have hll : (leavesL l).length = k := by rw [leavesL_len]; exact HL.out.1
      rw [hll] at h91 ⊢
      have HS9 := Lib.hid (And.intro h91 (And.intro h92 hO.ids))
      have HLN := Lib.hid hll
      have HB3 := Lib.hid (HB2.out.trans (hB.mono HB2.out.size))
      have HVB := Lib.hid (HVB0.out.up hB)
      have HT3 := Lib.hid (HT.out.below HB3.out)
      have HLFV : Hid (∀ u, Below wr.heap.size wr u → Calls Tryd.prog 21 #[.slice (some ⟨w.heap.size, 0, none⟩) 32 32] u fun e w' => e = .returned (idv (leafT v)) ∧ Below u.heap.size u w') := fun u hu => HTR.out.leaf _ 32 32 v u HV.out.1 (by omega) (HVB.out.up hu) HV.out.2 (HT3.out.below hu)
      have HCL : Hid (∀ u, Below wr.heap.size wr u → Calls Tryd.prog 22 #[.slice A9 k c9, .int .i64 j, idv (leafT v), .slice A2 kp d] u fun e w' => (∃ va vb, e = .returned (.tuple #[va, vb, .bool false]) ∧ OwnB w' u.heap.size va ta ∧ OwnB w' u.heap.size vb tb) ∧ Below u.heap.size u w') := fun u hu => by
        have h := HTR.out.clash (leavesL l) j (leafT v) p A9 A2 k c9 kp d u HLN.out (by have := HM32.out; omega) HS9.out.1 HS9.out.2.1 HM6.out.2.2.2 HP.out.1 HM6.out.2.1 HP.out.2.1 HP.out.2.2 (leavesL_ids l) (HS9.out.2.2.up hu) HJA.out.1 ((HJA.out.2.up HB3.out).up hu) ⟨sumL_len _, sumL_byte _⟩ (HT3.out.below hu)
        rw [HTX.out] at h
        exact h
      clear hO hB h91 h92 hll
      go_upto_region 9 with (fail)
      go_wp2_with fail
      refine (HLFV.out wr (Below.refl _ _)).mono ?_
      rintro e w4 ⟨rfl, hb4⟩
      go_wp2_with fail
      refine (HCL.out w4 hb4).mono ?_
      rintro e w5 ⟨⟨va, vb, rfl, hoa, hob⟩, hb5⟩
      have hb35 := hb4.trans (hb5.mono hb4.size)
      obtain ⟨Aa, ca, rfl⟩ := hoa.form
      obtain ⟨Ab, cb, rfl⟩ := hob.form
      have HOA := Lib.hid hoa.up
      have HOB := Lib.hid hob.up
      rw [HTL.out.1, HTL.out.2]
      have HB5 := Lib.hid (HB3.out.trans (hb35.mono HB3.out.size))
      have HT5 := Lib.hid (HT.out.below HB5.out)
      have HVB5 := Lib.hid (HVB.out.up hb35)
      have HA5 := Lib.hid (HIA.out.2.up HB5.out)
      have E5 : Hid (EnvX w5 w5 []) := EnvX.start _
      clear hoa hob hb4 hb5 hb35 HCL HLFV
      have HC1 : Hid (∀ u, EnvX w5 u [] → Calls Tryd.prog 21 #[.slice (some ⟨w.heap.size, 0, none⟩) 32 32] u fun e w' => e = .returned (idv (leafT v)) ∧ Below u.heap.size u w') := fun u hu => HTR.out.leaf _ 32 32 v u HV.out.1 (by omega) (HVB5.out.up (EnvX.bel hu)) HV.out.2 (HT5.out.below (EnvX.bel hu))
      have HC2 : Hid (∀ u, EnvX w5 u [] → Calls Tryd.prog 21 #[.slice (some (al.add (j * 32))) 32 32] u fun e w' => e = .returned (idv (leafT v)) ∧ Below u.heap.size u w') := fun u hu => by
        obtain ⟨ad2, e, hb⟩ := (HA5.out.up (EnvX.bel hu)).at HIA.out.1 (i := j) (by rw [HL.out.1]; exact HJM.out)
        cases e
        rw [HLE.out]
        exact HTR.out.leaf _ 32 32 _ u HY.out.1 (by omega) hb HY.out.2 (HT5.out.below (EnvX.bel hu))
      have HLA : Hid ((leafT v).length = 32) := sumL_len _
      have HER : Hid (eqL (leafT v) (leafT v) = true) := by show _ = _; simp [eqL]
      go_upto_region 12 with (fail)
      refine wp_region_H (w0 := w5) [] (by kernel_rfl) E5.out ?_
      refine anyH_phaseN [0, 1, 2, 3, 4, 5, 6, 7, 8] 0 rfl (by kernel_rfl) ?_
      have hw301 : EnvX w5 _ [] := EnvX.sub (EnvX.drew E5.out) (fun _ h => by cases h)
      have hone := @EnvC.one _ _ _ hw301
      (refine wpG_val (v := .slice (some ⟨w.heap.size, 0, none⟩) 32 32) rfl rfl (fun u hu => sliceArr_op u rfl) ?_ hw301; intro K hK; go_big_quiet_op; go_big_quiet_on)
      (refine wpG_call (f := 21) (args := #[.slice (some ⟨w.heap.size, 0, none⟩) 32 32]) (v := idv (leafT v)) rfl rfl rfl Tryd.func21 rfl rfl (fun u hu => HC1.out u (EnvX.sub hu (fun _ h => by cases h))) ?_ hw301; intro K hK; go_big_quiet_op; go_big_quiet_on)
      (refine wpG_op rfl rfl rfl ?_; intro K hK; go_big_quiet_op; go_big_quiet_on)
      (refine wpG_op rfl rfl rfl ?_; intro K hK; go_big_quiet_op; go_big_quiet_on)
      (refine wpG_val (v := .pointer (some (al.add (j * 32)))) rfl rfl (fun u hu => idxSl_op Tryd.underlying22 aggIdT.size HJM.out u rfl rfl) ?_ hw301; intro K hK; go_big_quiet_op; go_big_quiet_on)
      (refine wpG_val (v := .slice (some (al.add (j * 32))) 32 32) rfl rfl (fun u hu => sliceArr_op u rfl) ?_ hw301; intro K hK; go_big_quiet_op; go_big_quiet_on)
      (refine wpG_call (f := 21) (args := #[.slice (some (al.add (j * 32))) 32 32]) (v := idv (leafT v)) rfl rfl rfl Tryd.func21 rfl rfl (fun u hu => HC2.out u (EnvX.sub hu (fun _ h => by cases h))) ?_ hw301; intro K hK; go_big_quiet_op; go_big_quiet_on)
      (refine wpG_val (v := .bool true) rfl rfl (fun u hu => eqlb_op HLA.out HLA.out HER.out u rfl rfl) ?_ hw301; intro K hK; go_big_quiet_op; go_big_quiet_on)
      (refine wpG_op rfl rfl rfl ?_; intro K hK; go_big_quiet_op; go_big_quiet_on)
      clear hone hw301
      refine wpG_nil ?_
      refine anyH_done (by kernel_rfl) ?_
      intro u303 E2'
      have EX302 := Lib.hid E2'
      clear E2'
      have HBE := Lib.hid (HB5.out.trans ((EnvX.bel EX302.out).mono HB5.out.size))
      go_wp2
      go_ret
      exact ⟨rfl, HBE.out⟩
theorem law_sums (T : TreeC) (K : LinkC) (l p : List (List Int)) (v : List Int) (i : Int) (A A2 : Option Addr) (m c k d : Nat) (w : World) (hl : l.length = m) (hmc : m ≤ c) (hcm : c ≤ maxLen) (hI : isIds l) (hA : IdsIn w w.heap.size A l) (hp : p.length = k) (hkd : k ≤ d) (hdm : d ≤ maxLen) (hJ : isIds p) (hA2 : IdsIn w w.heap.size A2 p) (hv : isId v) (hi : I64 i) (ht : Tables w) :
    Calls Tryd.prog 7 #[.slice A m c, .int .i64 i, idv v, .slice A2 k d] w fun e w' => e = .returned (.bool true) ∧ Below w.heap.size w w' := by
  by_cases k1 : 32 < m
  · exact law_sums_many T K l p v i A A2 m c k d w hl hmc hcm hI hA hp hkd hdm hJ hA2 hv hi ht k1
  · by_cases k2 : 12 < k
    · exact law_sums_long T K l p v i A A2 m c k d w hl hmc hcm hI hA hp hkd hdm hJ hA2 hv hi ht k1 k2
    · by_cases k3 : i < 0
      · exact law_sums_neg T K l p v i A A2 m c k d w hl hmc hcm hI hA hp hkd hdm hJ hA2 hv hi ht k1 k2 k3
      · by_cases k4 : (m : Int) ≤ i
        · exact law_sums_over T K l p v i A A2 m c k d w hl hmc hcm hI hA hp hkd hdm hJ hA2 hv hi ht k1 k2 k3 k4
        · obtain ⟨j, rfl⟩ := Int.eq_ofNat_of_zero_le (by omega : 0 ≤ i)
          by_cases d0 : v = l.getD j []
          · exact law_sums_same T K l p v j A A2 m c k d w hl hmc hcm hI hA hp hkd hdm hJ hA2 hv hi ht (by omega) (by omega) (by omega) d0
          · cases d1 : checkT (rootT (leavesL l)) m j (leafT v) p with
            | false => exact law_sums_nock T K l p v j A A2 m c k d w hl hmc hcm hI hA hp hkd hdm hJ hA2 hv hi ht (by omega) (by omega) (by omega) d0 d1
            | true =>
              by_cases d2 : leafT v = leafT (l.getD j [])
              · exact law_sums_no T K l p v j A A2 m c k d w hl hmc hcm hI hA hp hkd hdm hJ hA2 hv hi ht (by omega) (by omega) (by omega) d0 d1 d2
              · exact law_sums_yes T K l p v j A A2 m c k d w hl hmc hcm hI hA hp hkd hdm hJ hA2 hv hi ht (by omega) (by omega) (by omega) d0 d1 d2
end Go.Proofs.YtbjojpgedcikiaaDoor

namespace Go.Proofs.YtbjojpgedcikiaaDoor.linkSums
set_option maxRecDepth 8000
open Go.ChangeShapes Go.WideShapes Go.ChangeAt Go.RowKit

theorem contract (H : Type) (enc : TypeId × Value → H) (W : World) (base : Nat) (args : Array Value) (ds gs : List (DataW H)) (before : List MemPlace)
    (hval : ∀ (j : Nat) t v, Tryd.f7.params[j]? = some t → args[j]? = some v → Value.okWide Tryd.prog W .any base t v)
    (hW : DataW.Whole enc Tryd.prog Tryd.f7.params.toList Rows.linkSumsSpec.vars false W args.toList ds gs before) (hL : laidMetH Tryd.prog Rows.linkSumsRow.laid W) :
    Calls Tryd.prog 7 args W fun e W' => ∃ v, e = .returned v ∧ Rows.linkSumsSpec.post enc Tryd.prog Tryd.f7 false true false false W args v W' := by
  have hW' := hW
  obtain ⟨p, q, hA0, hV, rfl, hfz, hnd⟩ := hW
  have hA : DataW.TrodAll enc Tryd.prog W 0 (fun _ => true) true Tryd.f7.params.toList args.toList ds p := hA0
  rw [Tryd.params7] at hA hval
  obtain ⟨v0, vs0, d0, ds0, p0, q0, hargs, rfl, rfl, h0, r0⟩ := trodAll_cons hA
  obtain ⟨v1, vs1, d1, ds1, p1, q1, rfl, rfl, rfl, h1, r1⟩ := trodAll_cons r0
  obtain ⟨v2, vs2, d2, ds2, p2, q2, rfl, rfl, rfl, h2, r2⟩ := trodAll_cons r1
  obtain ⟨v3, vs3, d3, ds3, p3, q3, rfl, rfl, rfl, h3, r3⟩ := trodAll_cons r2
  obtain ⟨rfl, rfl, rfl⟩ := trodAll_nil r3
  obtain rfl : args = #[v0, v1, v2, v3] := by cases args; simp_all
  obtain ⟨rfl, rfl⟩ := trodVars_none hV
  have lt0 : ∀ x ∈ p0, x.block < W.heap.size := by obtain ⟨m, hm⟩ := h0; exact DataW.trod_lt m _ _ _ hm
  obtain ⟨a0, n0, c0, x0, rfl, lx0, nc0, cm0, ix0, px0⟩ := open_ids (hval 0 22 v0 rfl rfl) h0
  obtain ⟨x1, rfl, rfl, rfl, wx1⟩ := open_int Tryd.underlying3 (hval 1 3 v1 rfl rfl) h1
  have lt2 : ∀ x ∈ p2, x.block < W.heap.size := by obtain ⟨m, hm⟩ := h2; exact DataW.trod_lt m _ _ _ hm
  obtain ⟨x2, rfl, lx2, rx2⟩ := open_id (hval 2 24 v2 rfl rfl) h2
  have lt3 : ∀ x ∈ p3, x.block < W.heap.size := by obtain ⟨m, hm⟩ := h3; exact DataW.trod_lt m _ _ _ hm
  obtain ⟨a3, n3, c3, x3, rfl, lx3, nc3, cm3, ix3, px3⟩ := open_ids (hval 3 22 v3 rfl rfl) h3
  clear hA0
  refine (law_sums treeC linkC x0 x3 x2 x1 a0 a3 n0 c0 n3 c3 W lx0 nc0 cm0 ix0 px0 lx3 nc3 cm3 ix3 px3 ⟨lx2, rx2⟩ (bounds_i64 wx1) (tables_of_laid hL)).mono fun e W' ⟨he, bel⟩ => ?_
  subst he
  exact ⟨_, rfl, _, _, _, [], _, [], hW', trodAll_mk1 (shut_bool Tryd.underlying4 _), (trodAll_cons_mk (Below.trod laidOut (by kernel_rfl) (of_decide_eq_true (by kernel_rfl)) h0 bel lt0) (trodAll_cons_mk (shut_int Tryd.underlying3 wx1) (trodAll_cons_mk (Below.trod laidOut (by kernel_rfl) (of_decide_eq_true (by kernel_rfl)) h2 bel lt2) (trodAll_cons_mk (Below.trod laidOut (by kernel_rfl) (of_decide_eq_true (by kernel_rfl)) h3 bel lt3) trodAll_mk0)))), rfl, bel.frame _, fun h => by cases h⟩

def start : Array Value := #[.slice none 0 0, .int .i64 0, zeroId, .slice none 0 0]
theorem reads (os : Os) {H : Type} (enc : TypeId × Value → H) : ∃ places, DataW.whole enc Tryd.prog ((laidWorld os).forCall (fun _ _ => 0) ⟨#[], start, []⟩).memory Tryd.f7.params.toList Rows.linkSumsSpec.vars false start.toList 8 = some ([.nil, .lit (.int .i64 0), zeroD, .nil], [], places) :=
  ⟨[], by kernel_rfl⟩

set_option maxRecDepth 100000 in
theorem lifted (os : Os) (started : os.Started) (H : Type) (enc : TypeId × Value → H) (F : Stop.Interp) :
    ReturnsInHanded {} Tryd.checked os 7 .any ((OpenSpec.ofChange Rows.linkSumsSpec).preRow enc Tryd.prog Tryd.f7 Rows.linkSumsRow.domain false Rows.linkSumsRow.laid) (((OpenSpec.ofChange Rows.linkSumsSpec).at F).post enc Tryd.prog Tryd.f7 false true false false) := by
  obtain ⟨places, hx⟩ := reads os enc
  refine returnsInHanded_of_row (C := Tryd.checked) (s := OpenSpec.ofChange Rows.linkSumsSpec) own started (by kernel_rfl) Tryd.func7
    (witness_row_at (enc := enc) (C := Tryd.checked) false (laidWorld os) start rfl (by kernel_rfl) (by kernel_rfl) (by kernel_rfl)
      (OpenSpec.preRow_of_cond 8 hx (by kernel_rfl) (fun k hk => by cases hk) (by kernel_rfl) (laidMet_of_run' 8 (by kernel_rfl) (by kernel_rfl)))) ?_
  intro W base args ds gs before hval hW _ _ _ hL _ _
  exact contract H enc W base args ds gs before hval hW hL

theorem said : Rows.LinkSumsSaid :=
  OpenClaim.holds_of_cond 7 Tryd.f7 rfl rfl rfl rfl rfl rfl rfl ⟨rfl, rfl, rfl, rfl, rfl⟩ rfl rfl rfl rfl rfl (by kernel_rfl) Tryd.func7 (by kernel_rfl)
    (of_decide_eq_true (by kernel_rfl)) (by unfold Func.isWrapper; first | (rw [if_pos (by decide +kernel)]; kernel_rfl) | (rw [if_neg (by decide +kernel)]; exact ⟨rfl, rfl⟩))
    (fun os started H enc _ F => by rw [OpenClaim.pre_eq_preRow]; exact lifted os started H enc F)

theorem plain (f : FuncId) (fn : Func) (hf : Tryd.pinned.checked.prog.funcNamed "stepladder/stepladderlaw07.LinkSums" = some f) (hfn : Tryd.pinned.checked.prog.funcs[f]? = some fn) :
    false = Tryd.pinned.checked.prog.looks [] ∧ ∀ (j : Nat) t, fn.params[j]? = some t → Tryd.pinned.checked.prog.wantsStandIn t = false := by
  obtain rfl : f = 7 := Option.some.inj ((show Tryd.prog.funcNamed "stepladder/stepladderlaw07.LinkSums" = some 7 by kernel_rfl).symm.trans hf) |>.symm
  obtain rfl : fn = Tryd.f7 := (Option.some.inj (Tryd.func7.symm.trans hfn)).symm
  refine ⟨by kernel_rfl, fun j t ht => ?_⟩
  rw [Tryd.params7] at ht
  have hm : t = 22 ∨ t = 3 ∨ t = 24 ∨ t = 22 := by simpa using Array.mem_of_getElem? ht
  rcases hm with rfl | rfl | rfl | rfl
  · exact (show Tryd.prog.wantsStandIn 22 = false by kernel_rfl)
  · exact (show Tryd.prog.wantsStandIn 3 = false by kernel_rfl)
  · exact (show Tryd.prog.wantsStandIn 24 = false by kernel_rfl)
  · exact (show Tryd.prog.wantsStandIn 22 = false by kernel_rfl)
theorem card : Rows.LinkSumsCardSaid :=
  Claim7.holds_tied_plain_at .later [] _ _ _ _ said (fun _ h => by cases h) (by kernel_rfl) (fun _ h => by cases h) linkSums_row_tie rfl ⟨rfl, rfl⟩ (by kernel_rfl) rfl plain (by kernel_rfl)

end Go.Proofs.YtbjojpgedcikiaaDoor.linkSums
