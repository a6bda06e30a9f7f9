/-
  PROVED: the law stepladderlaw06.MmrOne answers true for every input, and leaves its arguments as they were.
  Conditions: the two package-level tables of package sha hold at the call what their initialisers lay; the card ties that to the text of the program (a pruned copy of the project: the packages that the roots of this seat load).
-/
import Derived.Test.YtbmiecogjmbciaaDoorCq
import Derived.Test.YtbmiecogjmbciaaDoorCards
import Derived.Test.YtbmiecogjmbciaaDoorTie
import Derived.WalkKit
import Derived.ProofKit
import Derived.OpenShut
import Derived.ChangeOld
import Derived.Below
import Derived.Deep.DeepHandedRow
import Derived.Lib.LaidTab
import Derived.Deep.Strs
namespace Go.Proofs.YtbmiecogjmbciaaDoor
set_option maxRecDepth 8000
open Go.ChangeShapes Go.WideShapes Go.ChangeAt Go.RowKit

theorem cells26 : Tryd.prog.cellsOf 24 = 32 := by kernel_rfl

theorem open_id {H : Type} {enc : TypeId × Value → H} {W : World} {base : Nat} {v : Value} {d : DataW H} {p : List MemPlace} (hok : Value.okWide Tryd.prog W .any base 24 v)
    (h : DataW.Trod enc Tryd.prog W 0 (fun _ => true) true 24 v d p) : ∃ xs : List Int, v = .agg (arrB 32 xs) ∧ xs.length = 32 ∧ ∀ x ∈ xs, 0 ≤ x ∧ x ≤ 255 := by
  obtain ⟨cs, rfl, hsz, _⟩ : ∃ cs, v = .agg cs ∧ cs.size = Tryd.prog.cellsOf 24 ∧ Row.okWide Tryd.prog W .any base 24 cs := by
    simpa [Value.okWide, Tryd.underlying24] using hok
  rw [cells26] at hsz
  obtain ⟨fuel, hf⟩ := h
  obtain ⟨ys, m, _, _, _, hl, hall⟩ := DataW.trod_array Tryd.underlying24 hf
  have hc : ∀ i, i < 32 → ∃ n : Int, cs[i]? = some (.int .u8 n) ∧ 0 ≤ n ∧ n ≤ 255 := by
    intro i hi
    have h1 := hall i hi
    rw [List.getElem?_eq_getElem (by omega : i < ys.length)] at h1
    obtain ⟨n, e, _, wf⟩ := DataW.trod_int Tryd.underlying5 h1
    refine ⟨n, ?_, ?_⟩
    · rw [cellsB, Nat.mul_one] at e
      have hi' : i < cs.toList.length := by simp [hsz, hi]
      simp only [Value.cells, List.drop_eq_getElem_cons hi', List.take_succ_cons, List.take_zero, List.cons.injEq, and_true] at e
      rw [Array.getElem?_eq_getElem (by omega)]
      simpa using e
    · have := bounds_u8 wf
      omega
  refine ⟨cs.toList.map intOf, ?_, by simp [hsz], ?_⟩
  · congr 1
    apply arrB_ext
    · simp [hsz]
    · exact hsz
    · intro i hi
      obtain ⟨n, e, _⟩ := hc i hi
      have e' : cs.toList[i]? = some (.int .u8 n) := by simpa using e
      simp [e, List.getD, List.getElem?_map, e', intOf]
  · intro x hx
    obtain ⟨u, hu, rfl⟩ := List.mem_map.1 hx
    obtain ⟨i, hi, rfl⟩ := List.getElem_of_mem hu
    obtain ⟨n, e, hn⟩ := hc i (by simp at hi; omega)
    have e' : cs.toList[i]? = some (.int .u8 n) := by simpa using e
    rw [List.getElem?_eq_getElem hi] at e'
    rw [Option.some.inj e']
    exact hn

/-- The id of zeros, as a value and as it reads. -/
def zeroId : Value := .agg (arrB 32 [])
def zeroD {H : Type} : DataW H := .agg (List.replicate 32 (.lit (.int .u8 0)))
end Go.Proofs.YtbmiecogjmbciaaDoor

namespace Go.Proofs.YtbmiecogjmbciaaDoor
set_option maxRecDepth 8000
open Go.RowKit

theorem mcheck_one (h : List Int) (n q : Nat) : mcheckT ⟨h, n, 1⟩ 0 ⟨h, q, 1⟩ [] = (0, decide (n = q)) := by
  unfold mcheckT
  rw [if_pos ⟨(by decide : (1 : Int) ≤ 1), (by decide : (1 : Int) ≤ 64), (by decide : (0 : Int) ≤ 0), (by decide : (0 : Int) < 1), rfl, rfl⟩]
  show (if (⟨h, q, 1⟩ : Tot) = ⟨h, n, 1⟩ then (0, true) else (0, false)) = _
  by_cases e : n = q
  · subst e
    rw [if_pos rfl, decide_eq_true rfl]
  · rw [if_neg (fun h => e (by have := congrArg Tot.w h; exact this.symm)), decide_eq_false e]
section
variable {a : Act} {dst : Option Tmp} {x y : Operand} {ty : TypeId} {pos : String} {after : Array Edge} {gd : Option (Nat × Bool)}
theorem eqlBB_op {b : Bool} (u : World) (hx : a.eval x = .bool b) (hy : a.eval y = .bool b) :
    (execOp a.eval ⟨dst, .binOp .eql 4 x y 4, ty, pos, after, gd⟩).run Tryd.prog u = .ok (.value (.bool true)) u := by
  unfold execOp
  simp only [hx, hy]
  cases b <;> go_simp
end
set_option maxRecDepth 20000 in
set_option maxHeartbeats 4000000 in
theorem law_one (T : MmrC) (h : List Int) (n q : Nat) (w : World) (hh : h.length = 32 ∧ ∀ b ∈ h, 0 ≤ b ∧ b ≤ 255) (hn : n < Big) (hq : q < Big) (ht : Tables w) :
    Calls Tryd.prog 7 #[idv h, .agg (wcs n), .agg (wcs q)] w fun e w' => e = .returned (.bool true) ∧ Below w.heap.size w w' := by
  have E0 : Hid (EnvX w (((w.alloc (.cells (arrB 32 h) 24)).alloc (.cells (wcs n) 27)).alloc (.cells (wcs q) 27)) [(w.heap.size + 1 + 1, Obj.cells (wcs q) 27 (0, 0)), (w.heap.size + 1, Obj.cells (wcs n) 27 (0, 0)), (w.heap.size, Obj.cells (arrB 32 h) 24 (0, 0))]) := EnvX.three _ _ _
  have HAW := Lib.hid (mawake_any T (((w.alloc (.cells (arrB 32 h) 24)).alloc (.cells (wcs n) 27)).alloc (.cells (wcs q) 27)) (ht.below (EnvX.bel E0.out)))
  have HT := Lib.hid ht
  have HM := Lib.hid T
  clear ht T
  obtain ⟨b, hb⟩ : ∃ b, decide (n = q) = b := ⟨_, rfl⟩
  have HX : Hid (okT (⟨h, n, 1⟩ : Tot)) := ⟨hh, hn, by show (-9223372036854775808 : Int) ≤ 1; decide, by show (1 : Int) ≤ 9223372036854775807; decide⟩
  have HY : Hid (okT (⟨h, q, 1⟩ : Tot)) := ⟨hh, hq, by show (-9223372036854775808 : Int) ≤ 1; decide, by show (1 : Int) ≤ 9223372036854775807; decide⟩
  have HH := Lib.hid hh
  have HN := Lib.hid (And.intro hn hq)
  have HC1 : Hid (mcheckT (⟨h, n, 1⟩ : Tot) 0 (⟨h, n, 1⟩ : Tot) [] = (0, true)) := by show _ = _; rw [mcheck_one, decide_eq_true rfl]
  have HC2 : Hid (mcheckT (⟨h, n, 1⟩ : Tot) 0 (⟨h, q, 1⟩ : Tot) [] = (0, b)) := by show _ = _; rw [mcheck_one, hb]
  have HEQ : Hid (eqN n q = b) := hb
  clear hh hn hq hb
  unfold idv
  go_enter Tryd.func7, Tryd.ntmps7
  go_upto_region 1 with (fail)
  generalize (((w.alloc (.cells (arrB 32 h) 24)).alloc (.cells (wcs n) 27)).alloc (.cells (wcs q) 27)) = W at *
  go_wp2_with fail
  refine HAW.out.mono ?_
  rintro e w1 ⟨rfl, hb1⟩
  have HB1 := Lib.hid (EnvX.below E0.out hb1).bel
  have E1 : Hid (EnvX w1 w1 [(w.heap.size + 1 + 1, Obj.cells (wcs q) 27 (0, 0)), (w.heap.size + 1, Obj.cells (wcs n) 27 (0, 0)), (w.heap.size, Obj.cells (arrB 32 h) 24 (0, 0))]) := ⟨Below.refl _ _, (EnvX.below E0.out hb1).box⟩
  have HT1 := Lib.hid (HT.out.below HB1.out)
  clear hb1 E0 HAW
  obtain ⟨x, hx⟩ : ∃ x : Tot, x = (⟨h, n, 1⟩ : Tot) := ⟨_, rfl⟩
  obtain ⟨y, hy⟩ : ∃ y : Tot, y = (⟨h, q, 1⟩ : Tot) := ⟨_, rfl⟩
  rw [← hx] at HX HC1 HC2
  rw [← hy] at HY HC2
  have HLX : Hid (∀ u, EnvX w1 u [] → Calls Tryd.prog 22 #[idv h, .agg (wcs n)] u fun e w' => e = .returned (.agg (totA x)) ∧ Below u.heap.size u w') := fun u hu => by rw [hx]; exact HM.out.leaf h n u HH.out HN.out.1 (HT1.out.below (EnvX.bel hu))
  have HLY : Hid (∀ u, EnvX w1 u [] → Calls Tryd.prog 22 #[idv h, .agg (wcs q)] u fun e w' => e = .returned (.agg (totA y)) ∧ Below u.heap.size u w') := fun u hu => by rw [hy]; exact HM.out.leaf h q u HH.out HN.out.2 (HT1.out.below (EnvX.bel hu))
  clear hx hy
  have HAP : Hid (∀ u, EnvX w1 u [] → Calls Tryd.prog 11 #[.slice none 0 0, .agg (totA x)] u fun e w' => (∃ v, e = .returned v ∧ w'.ownsRow u.heap.size 29 37 v 1 (([x] : List Tot).map totC).flatten) ∧ Below u.heap.size u w') := fun u hu => HM.out.app [] x none 0 0 u rfl (by omega) (by omega) (by decide) (fun _ h => by cases h) HX.out (TotsIn.nil _ _ _) (HT1.out.below (EnvX.bel hu))
  have HCX : Hid (∀ u, EnvX w1 u [] → Calls Tryd.prog 15 #[.agg (totA x), .int .i64 0, .agg (totA x), .slice none 0 0] u fun e w' => e = .returned (.tuple #[.agg (wcs 0), .bool true]) ∧ Below u.heap.size u w') := fun u hu => by
    have h := HM.out.check x x 0 [] none 0 0 u HX.out HX.out ⟨by omega, by omega⟩ rfl (by omega) (by omega) (by decide) (fun _ h => by cases h) (TotsIn.nil _ _ _) (HT1.out.below (EnvX.bel hu))
    rwa [HC1.out] at h
  have HCY : Hid (∀ u, EnvX w1 u [] → Calls Tryd.prog 15 #[.agg (totA x), .int .i64 0, .agg (totA y), .slice none 0 0] u fun e w' => e = .returned (.tuple #[.agg (wcs 0), .bool b]) ∧ Below u.heap.size u w') := fun u hu => by
    have h := HM.out.check x y 0 [] none 0 0 u HX.out HY.out ⟨by omega, by omega⟩ rfl (by omega) (by omega) (by decide) (fun _ h => by cases h) (TotsIn.nil _ _ _) (HT1.out.below (EnvX.bel hu))
    rwa [HC2.out] at h
  go_upto_region 2 with (fail)
  refine wp_region_Hx (w0 := w1) [0, 1, 2, 3, 4] [(w.heap.size + 1 + 1, Obj.cells (wcs q) 27 (0, 0)), (w.heap.size + 1, Obj.cells (wcs n) 27 (0, 0)), (w.heap.size, Obj.cells (arrB 32 h) 24 (0, 0))] rfl E1.out ?_
  refine lexH_phase [0, 1, 2] [3, 4] ?_
  have hw1 : EnvX w1 _ [(w.heap.size + 1 + 1, Obj.cells (wcs q) 27 (0, 0)), (w.heap.size + 1, Obj.cells (wcs n) 27 (0, 0)), (w.heap.size, Obj.cells (arrB 32 h) 24 (0, 0))] := E1.out
  have hone := @EnvC.one _ _ _ hw1
  (refine wpG_val (v := idv h) rfl rfl (fun u hu => load_run_op u (box_load hu (List.Mem.tail _ (List.Mem.tail _ (List.Mem.head _))) HH.out.1) rfl) ?_ hw1; intro K hK; go_big_quiet_op; go_big_quiet_on)
  (refine wpG_val (v := .agg (wcs n)) rfl rfl (fun u hu => load_any_op u (box_wide hu (List.Mem.tail _ (List.Mem.head _))) rfl) ?_ hw1; intro K hK; go_big_quiet_op; go_big_quiet_on)
  (refine wpG_call (f := 22) (args := #[idv h, .agg (wcs n)]) (v := .agg (totA x)) rfl rfl rfl Tryd.func22 rfl rfl (fun u hu => HLX.out u (EnvX.sub hu (fun _ h => by cases h))) ?_ hw1; intro K hK; go_big_quiet_op; go_big_quiet_on)
  clear hone hw1
  refine wpG_nil ?_
  refine (hOp_fresh (R := fun x N => ∃ g, x = .pointer (some ⟨g, 0, none⟩) ∧ N = [(g, Obj.cells (totA zTot) 29 (0, 0))]) (M0 := [(w.heap.size + 1 + 1, Obj.cells (wcs q) 27 (0, 0)), (w.heap.size + 1, Obj.cells (wcs n) 27 (0, 0)), (w.heap.size, Obj.cells (arrB 32 h) 24 (0, 0))]) rfl rfl (fun _ h => h) (fun u hu => FAt_new (new_tot _) u) ?_)
  rintro _ _ ⟨g8, rfl, rfl⟩ hf he2; intro K' hK'; go_big_quiet_op; go_big_quiet_on
  have HGg8 := Lib.hid (hf _ (List.mem_singleton.2 rfl))
  clear hf
  change lexH _ _ _ _ _ _ [(g8, Obj.cells (totA zTot) 29 (0, 0)), (w.heap.size + 1 + 1, Obj.cells (wcs q) 27 (0, 0)), (w.heap.size + 1, Obj.cells (wcs n) 27 (0, 0)), (w.heap.size, Obj.cells (arrB 32 h) 24 (0, 0))]
  refine (hOp_store rfl (g8) (totA (x)) rfl rfl HGg8.out.1 29 ((totA zTot)) (List.Mem.head _) (infoTot _ (totA_size HX.out.len)) (zTot_size.trans (totA_size HX.out.len).symm) (totA_one _) [(g8, Obj.cells (totA (x)) 29 (0, 0)), (w.heap.size + 1 + 1, Obj.cells (wcs q) 27 (0, 0)), (w.heap.size + 1, Obj.cells (wcs n) 27 (0, 0)), (w.heap.size, Obj.cells (arrB 32 h) 24 (0, 0))] (List.forall_mem_cons.2 ⟨.inl rfl, fun y hy => .inr ⟨List.mem_cons_of_mem _ hy, HGg8.out.2 y hy⟩⟩) ?_)
  intro he3
  intro u5 E2'
  have EX4 := Lib.hid E2'
  clear E2'
  go_upto_region 3 with (fail)
  refine wp_region_Hx (w0 := w1) [0, 1, 2] [(g8, Obj.cells (totA (x)) 29 (0, 0)), (w.heap.size + 1 + 1, Obj.cells (wcs q) 27 (0, 0)), (w.heap.size + 1, Obj.cells (wcs n) 27 (0, 0)), (w.heap.size, Obj.cells (arrB 32 h) 24 (0, 0))] rfl EX4.out ?_
  refine lexH_phase [0] [1, 2] ?_
  have hw6 : EnvX w1 _ [(g8, Obj.cells (totA (x)) 29 (0, 0)), (w.heap.size + 1 + 1, Obj.cells (wcs q) 27 (0, 0)), (w.heap.size + 1, Obj.cells (wcs n) 27 (0, 0)), (w.heap.size, Obj.cells (arrB 32 h) 24 (0, 0))] := EX4.out
  have hone := @EnvC.one _ _ _ hw6
  (refine wpG_val (v := .agg (totA x)) rfl rfl (fun u hu => load_any_op u (box_tot hu (List.Mem.head _) HX.out.len) rfl) ?_ hw6; intro K hK; go_big_quiet_op; go_big_quiet_on)
  clear hone hw6
  refine wpG_nil ?_
  refine (hOp_fresh (R := FreshR 29 37 1 (([x] : List Tot).map totC).flatten) (M0 := [(g8, Obj.cells (totA (x)) 29 (0, 0)), (w.heap.size + 1 + 1, Obj.cells (wcs q) 27 (0, 0)), (w.heap.size + 1, Obj.cells (wcs n) 27 (0, 0)), (w.heap.size, Obj.cells (arrB 32 h) 24 (0, 0))]) rfl rfl (fun _ h => h) (fun u hu => FAt_call (fid := 11) (xs := #[.const (Value.slice none 0 0), .tmp 19]) (args := #[.slice none 0 0, .agg (totA x)]) rfl Tryd.func11 rfl rfl u (callsR_fresh (HAP.out u (EnvX.sub hu (fun _ h => by cases h))))) ?_)
  rintro x N hF hf he7; intro K' hK'; go_big_quiet_op; go_big_quiet_on
  obtain ⟨gp, capp, curp, rfl, rfl, hcp⟩ | ⟨_, _, h0, _⟩ := hF
  case inr => cases h0
  have HCP := Lib.hid hcp
  clear hcp
  clear hf
  change lexH _ _ _ _ _ _ [(gp, Obj.cells curp 29 (0, 0)), (g8, Obj.cells (totA (x)) 29 (0, 0)), (w.heap.size + 1 + 1, Obj.cells (wcs q) 27 (0, 0)), (w.heap.size + 1, Obj.cells (wcs n) 27 (0, 0)), (w.heap.size, Obj.cells (arrB 32 h) 24 (0, 0))]
  refine lexH_phase [2] [] ?_
  have hw8 : EnvX w1 _ [(gp, Obj.cells curp 29 (0, 0)), (g8, Obj.cells (totA (x)) 29 (0, 0)), (w.heap.size + 1 + 1, Obj.cells (wcs q) 27 (0, 0)), (w.heap.size + 1, Obj.cells (wcs n) 27 (0, 0)), (w.heap.size, Obj.cells (arrB 32 h) 24 (0, 0))] := he7.choose_spec
  have hone := @EnvC.one _ _ _ hw8
  (refine wpG_op rfl rfl rfl ?_; intro K hK; go_big_quiet_op; go_big_quiet_on)
  clear hone hw8
  refine wpG_nil ?_
  intro u10 E2'
  have EX9 := Lib.hid E2'
  clear E2'
  go_upto_region 4 with (fail)
  refine wp_region_Hx (w0 := w1) [0, 1, 2, 3, 4, 5, 6, 7, 8] [(gp, Obj.cells curp 29 (0, 0)), (g8, Obj.cells (totA (x)) 29 (0, 0)), (w.heap.size + 1 + 1, Obj.cells (wcs q) 27 (0, 0)), (w.heap.size + 1, Obj.cells (wcs n) 27 (0, 0)), (w.heap.size, Obj.cells (arrB 32 h) 24 (0, 0))] rfl EX9.out ?_
  refine lexH_phase [0, 1, 2, 3, 4, 5] [6, 7, 8] ?_
  have hw11 : EnvX w1 _ [(gp, Obj.cells curp 29 (0, 0)), (g8, Obj.cells (totA (x)) 29 (0, 0)), (w.heap.size + 1 + 1, Obj.cells (wcs q) 27 (0, 0)), (w.heap.size + 1, Obj.cells (wcs n) 27 (0, 0)), (w.heap.size, Obj.cells (arrB 32 h) 24 (0, 0))] := EX9.out
  have hone := @EnvC.one _ _ _ hw11
  (refine wpG_val (v := .agg (totA x)) rfl rfl (fun u hu => load_any_op u (box_tot hu (List.Mem.tail _ (List.Mem.head _)) HX.out.len) rfl) ?_ hw11; intro K hK; go_big_quiet_op; go_big_quiet_on)
  (refine wpG_val (v := .agg (totA x)) rfl rfl (fun u hu => load_any_op u (box_tot hu (List.Mem.tail _ (List.Mem.head _)) HX.out.len) rfl) ?_ hw11; intro K hK; go_big_quiet_op; go_big_quiet_on)
  (refine wpG_call (f := 15) (args := #[.agg (totA x), .int .i64 0, .agg (totA x), .slice none 0 0]) (v := .tuple #[.agg (wcs 0), .bool true]) rfl rfl rfl Tryd.func15 rfl rfl (fun u hu => HCX.out u (EnvX.sub hu (fun _ h => by cases h))) ?_ hw11; intro K hK; go_big_quiet_op; go_big_quiet_on)
  (refine wpG_op rfl rfl rfl ?_; intro K hK; go_big_quiet_op; go_big_quiet_on)
  (refine wpG_op rfl rfl rfl ?_; intro K hK; go_big_quiet_op; go_big_quiet_on)
  (refine wpG_op rfl rfl rfl ?_; intro K hK; go_big_quiet_op; go_big_quiet_on)
  clear hone hw11
  refine wpG_nil ?_
  refine (hOp_fresh (R := fun x N => ∃ g, x = .pointer (some ⟨g, 0, none⟩) ∧ N = [(g, Obj.cells (wcs 0) 27 (0, 0))]) (M0 := [(gp, Obj.cells curp 29 (0, 0)), (g8, Obj.cells (totA (x)) 29 (0, 0)), (w.heap.size + 1 + 1, Obj.cells (wcs q) 27 (0, 0)), (w.heap.size + 1, Obj.cells (wcs n) 27 (0, 0)), (w.heap.size, Obj.cells (arrB 32 h) 24 (0, 0))]) rfl rfl (fun _ h => h) (fun u hu => FAt_new (new_wd _) u) ?_)
  rintro _ _ ⟨g10, rfl, rfl⟩ hf he12; intro K' hK'; go_big_quiet_op; go_big_quiet_on
  have HGg10 := Lib.hid (hf _ (List.mem_singleton.2 rfl))
  clear hf
  change lexH _ _ _ _ _ _ [(g10, Obj.cells (wcs 0) 27 (0, 0)), (gp, Obj.cells curp 29 (0, 0)), (g8, Obj.cells (totA (x)) 29 (0, 0)), (w.heap.size + 1 + 1, Obj.cells (wcs q) 27 (0, 0)), (w.heap.size + 1, Obj.cells (wcs n) 27 (0, 0)), (w.heap.size, Obj.cells (arrB 32 h) 24 (0, 0))]
  refine (hOp_store rfl (g10) (wcs (0)) rfl rfl HGg10.out.1 27 ((wcs 0)) (List.Mem.head _) (wc_info _) ((wc_size _).trans (wc_size _).symm) (wc_one _) [(g10, Obj.cells (wcs (0)) 27 (0, 0)), (gp, Obj.cells curp 29 (0, 0)), (g8, Obj.cells (totA (x)) 29 (0, 0)), (w.heap.size + 1 + 1, Obj.cells (wcs q) 27 (0, 0)), (w.heap.size + 1, Obj.cells (wcs n) 27 (0, 0)), (w.heap.size, Obj.cells (arrB 32 h) 24 (0, 0))] (List.forall_mem_cons.2 ⟨.inl rfl, fun y hy => .inr ⟨List.mem_cons_of_mem _ hy, HGg10.out.2 y hy⟩⟩) ?_)
  intro he13
  refine lexH_phase [8] [] ?_
  have hw14 : EnvX w1 _ [(g10, Obj.cells (wcs (0)) 27 (0, 0)), (gp, Obj.cells curp 29 (0, 0)), (g8, Obj.cells (totA (x)) 29 (0, 0)), (w.heap.size + 1 + 1, Obj.cells (wcs q) 27 (0, 0)), (w.heap.size + 1, Obj.cells (wcs n) 27 (0, 0)), (w.heap.size, Obj.cells (arrB 32 h) 24 (0, 0))] := he13.choose_spec
  have hone := @EnvC.one _ _ _ hw14
  (refine wpG_op rfl rfl rfl ?_; intro K hK; go_big_quiet_op; go_big_quiet_on)
  clear hone hw14
  refine wpG_nil ?_
  intro u16 E2'
  have EX15 := Lib.hid E2'
  clear E2'
  go_upto_region 5 with (fail)
  refine wp_region_Hx (w0 := w1) [0, 1, 2, 3, 4] [(g10, Obj.cells (wcs (0)) 27 (0, 0)), (gp, Obj.cells curp 29 (0, 0)), (g8, Obj.cells (totA (x)) 29 (0, 0)), (w.heap.size + 1 + 1, Obj.cells (wcs q) 27 (0, 0)), (w.heap.size + 1, Obj.cells (wcs n) 27 (0, 0)), (w.heap.size, Obj.cells (arrB 32 h) 24 (0, 0))] rfl EX15.out ?_
  refine lexH_phase [0, 1, 2] [3, 4] ?_
  have hw17 : EnvX w1 _ [(g10, Obj.cells (wcs (0)) 27 (0, 0)), (gp, Obj.cells curp 29 (0, 0)), (g8, Obj.cells (totA (x)) 29 (0, 0)), (w.heap.size + 1 + 1, Obj.cells (wcs q) 27 (0, 0)), (w.heap.size + 1, Obj.cells (wcs n) 27 (0, 0)), (w.heap.size, Obj.cells (arrB 32 h) 24 (0, 0))] := EX15.out
  have hone := @EnvC.one _ _ _ hw17
  (refine wpG_val (v := idv h) rfl rfl (fun u hu => load_run_op u (box_load hu (List.Mem.tail _ (List.Mem.tail _ (List.Mem.tail _ (List.Mem.tail _ (List.Mem.tail _ (List.Mem.head _)))))) HH.out.1) rfl) ?_ hw17; intro K hK; go_big_quiet_op; go_big_quiet_on)
  (refine wpG_val (v := .agg (wcs q)) rfl rfl (fun u hu => load_any_op u (box_wide hu (List.Mem.tail _ (List.Mem.tail _ (List.Mem.tail _ (List.Mem.head _))))) rfl) ?_ hw17; intro K hK; go_big_quiet_op; go_big_quiet_on)
  (refine wpG_call (f := 22) (args := #[idv h, .agg (wcs q)]) (v := .agg (totA y)) rfl rfl rfl Tryd.func22 rfl rfl (fun u hu => HLY.out u (EnvX.sub hu (fun _ h => by cases h))) ?_ hw17; intro K hK; go_big_quiet_op; go_big_quiet_on)
  clear hone hw17
  refine wpG_nil ?_
  refine (hOp_fresh (R := fun x N => ∃ g, x = .pointer (some ⟨g, 0, none⟩) ∧ N = [(g, Obj.cells (totA zTot) 29 (0, 0))]) (M0 := [(g10, Obj.cells (wcs (0)) 27 (0, 0)), (gp, Obj.cells curp 29 (0, 0)), (g8, Obj.cells (totA (x)) 29 (0, 0)), (w.heap.size + 1 + 1, Obj.cells (wcs q) 27 (0, 0)), (w.heap.size + 1, Obj.cells (wcs n) 27 (0, 0)), (w.heap.size, Obj.cells (arrB 32 h) 24 (0, 0))]) rfl rfl (fun _ h => h) (fun u hu => FAt_new (new_tot _) u) ?_)
  rintro _ _ ⟨g12, rfl, rfl⟩ hf he18; intro K' hK'; go_big_quiet_op; go_big_quiet_on
  have HGg12 := Lib.hid (hf _ (List.mem_singleton.2 rfl))
  clear hf
  change lexH _ _ _ _ _ _ [(g12, Obj.cells (totA zTot) 29 (0, 0)), (g10, Obj.cells (wcs (0)) 27 (0, 0)), (gp, Obj.cells curp 29 (0, 0)), (g8, Obj.cells (totA (x)) 29 (0, 0)), (w.heap.size + 1 + 1, Obj.cells (wcs q) 27 (0, 0)), (w.heap.size + 1, Obj.cells (wcs n) 27 (0, 0)), (w.heap.size, Obj.cells (arrB 32 h) 24 (0, 0))]
  refine (hOp_store rfl (g12) (totA (y)) rfl rfl HGg12.out.1 29 ((totA zTot)) (List.Mem.head _) (infoTot _ (totA_size HY.out.len)) (zTot_size.trans (totA_size HY.out.len).symm) (totA_one _) [(g12, Obj.cells (totA (y)) 29 (0, 0)), (g10, Obj.cells (wcs (0)) 27 (0, 0)), (gp, Obj.cells curp 29 (0, 0)), (g8, Obj.cells (totA (x)) 29 (0, 0)), (w.heap.size + 1 + 1, Obj.cells (wcs q) 27 (0, 0)), (w.heap.size + 1, Obj.cells (wcs n) 27 (0, 0)), (w.heap.size, Obj.cells (arrB 32 h) 24 (0, 0))] (List.forall_mem_cons.2 ⟨.inl rfl, fun y hy => .inr ⟨List.mem_cons_of_mem _ hy, HGg12.out.2 y hy⟩⟩) ?_)
  intro he19
  intro u21 E2'
  have EX20 := Lib.hid E2'
  clear E2'
  go_upto_region 6 with (fail)
  refine wp_region_Hx (w0 := w1) [0, 1, 2, 3, 4, 5, 6, 7, 8] [(g12, Obj.cells (totA (y)) 29 (0, 0)), (g10, Obj.cells (wcs (0)) 27 (0, 0)), (gp, Obj.cells curp 29 (0, 0)), (g8, Obj.cells (totA (x)) 29 (0, 0)), (w.heap.size + 1 + 1, Obj.cells (wcs q) 27 (0, 0)), (w.heap.size + 1, Obj.cells (wcs n) 27 (0, 0)), (w.heap.size, Obj.cells (arrB 32 h) 24 (0, 0))] rfl EX20.out ?_
  refine lexH_phase [0, 1, 2, 3, 4, 5] [6, 7, 8] ?_
  have hw22 : EnvX w1 _ [(g12, Obj.cells (totA (y)) 29 (0, 0)), (g10, Obj.cells (wcs (0)) 27 (0, 0)), (gp, Obj.cells curp 29 (0, 0)), (g8, Obj.cells (totA (x)) 29 (0, 0)), (w.heap.size + 1 + 1, Obj.cells (wcs q) 27 (0, 0)), (w.heap.size + 1, Obj.cells (wcs n) 27 (0, 0)), (w.heap.size, Obj.cells (arrB 32 h) 24 (0, 0))] := EX20.out
  have hone := @EnvC.one _ _ _ hw22
  (refine wpG_val (v := .agg (totA x)) rfl rfl (fun u hu => load_any_op u (box_tot hu (List.Mem.tail _ (List.Mem.tail _ (List.Mem.tail _ (List.Mem.head _)))) HX.out.len) rfl) ?_ hw22; intro K hK; go_big_quiet_op; go_big_quiet_on)
  (refine wpG_val (v := .agg (totA y)) rfl rfl (fun u hu => load_any_op u (box_tot hu (List.Mem.head _) HY.out.len) rfl) ?_ hw22; intro K hK; go_big_quiet_op; go_big_quiet_on)
  (refine wpG_call (f := 15) (args := #[.agg (totA x), .int .i64 0, .agg (totA y), .slice none 0 0]) (v := .tuple #[.agg (wcs 0), .bool b]) rfl rfl rfl Tryd.func15 rfl rfl (fun u hu => HCY.out u (EnvX.sub hu (fun _ h => by cases h))) ?_ hw22; intro K hK; go_big_quiet_op; go_big_quiet_on)
  (refine wpG_op rfl rfl rfl ?_; intro K hK; go_big_quiet_op; go_big_quiet_on)
  (refine wpG_op rfl rfl rfl ?_; intro K hK; go_big_quiet_op; go_big_quiet_on)
  (refine wpG_op rfl rfl rfl ?_; intro K hK; go_big_quiet_op; go_big_quiet_on)
  clear hone hw22
  refine wpG_nil ?_
  refine (hOp_fresh (R := fun x N => ∃ g, x = .pointer (some ⟨g, 0, none⟩) ∧ N = [(g, Obj.cells (wcs 0) 27 (0, 0))]) (M0 := [(g12, Obj.cells (totA (y)) 29 (0, 0)), (g10, Obj.cells (wcs (0)) 27 (0, 0)), (gp, Obj.cells curp 29 (0, 0)), (g8, Obj.cells (totA (x)) 29 (0, 0)), (w.heap.size + 1 + 1, Obj.cells (wcs q) 27 (0, 0)), (w.heap.size + 1, Obj.cells (wcs n) 27 (0, 0)), (w.heap.size, Obj.cells (arrB 32 h) 24 (0, 0))]) rfl rfl (fun _ h => h) (fun u hu => FAt_new (new_wd _) u) ?_)
  rintro _ _ ⟨g13, rfl, rfl⟩ hf he23; intro K' hK'; go_big_quiet_op; go_big_quiet_on
  have HGg13 := Lib.hid (hf _ (List.mem_singleton.2 rfl))
  clear hf
  change lexH _ _ _ _ _ _ [(g13, Obj.cells (wcs 0) 27 (0, 0)), (g12, Obj.cells (totA (y)) 29 (0, 0)), (g10, Obj.cells (wcs (0)) 27 (0, 0)), (gp, Obj.cells curp 29 (0, 0)), (g8, Obj.cells (totA (x)) 29 (0, 0)), (w.heap.size + 1 + 1, Obj.cells (wcs q) 27 (0, 0)), (w.heap.size + 1, Obj.cells (wcs n) 27 (0, 0)), (w.heap.size, Obj.cells (arrB 32 h) 24 (0, 0))]
  refine (hOp_store rfl (g13) (wcs (0)) rfl rfl HGg13.out.1 27 ((wcs 0)) (List.Mem.head _) (wc_info _) ((wc_size _).trans (wc_size _).symm) (wc_one _) [(g13, Obj.cells (wcs (0)) 27 (0, 0)), (g12, Obj.cells (totA (y)) 29 (0, 0)), (g10, Obj.cells (wcs (0)) 27 (0, 0)), (gp, Obj.cells curp 29 (0, 0)), (g8, Obj.cells (totA (x)) 29 (0, 0)), (w.heap.size + 1 + 1, Obj.cells (wcs q) 27 (0, 0)), (w.heap.size + 1, Obj.cells (wcs n) 27 (0, 0)), (w.heap.size, Obj.cells (arrB 32 h) 24 (0, 0))] (List.forall_mem_cons.2 ⟨.inl rfl, fun y hy => .inr ⟨List.mem_cons_of_mem _ hy, HGg13.out.2 y hy⟩⟩) ?_)
  intro he24
  refine lexH_phase [8] [] ?_
  have hw25 : EnvX w1 _ [(g13, Obj.cells (wcs (0)) 27 (0, 0)), (g12, Obj.cells (totA (y)) 29 (0, 0)), (g10, Obj.cells (wcs (0)) 27 (0, 0)), (gp, Obj.cells curp 29 (0, 0)), (g8, Obj.cells (totA (x)) 29 (0, 0)), (w.heap.size + 1 + 1, Obj.cells (wcs q) 27 (0, 0)), (w.heap.size + 1, Obj.cells (wcs n) 27 (0, 0)), (w.heap.size, Obj.cells (arrB 32 h) 24 (0, 0))] := he24.choose_spec
  have hone := @EnvC.one _ _ _ hw25
  (refine wpG_op rfl rfl rfl ?_; intro K hK; go_big_quiet_op; go_big_quiet_on)
  clear hone hw25
  refine wpG_nil ?_
  intro u27 E2'
  have EX26 := Lib.hid E2'
  clear E2'
  have H1V := Lib.hid (EnvX.bel EX26.out)
  have HLDX : Hid (∀ u, EnvX u27 u [] → (loadVar 29 ⟨g8, 0, none⟩).run Tryd.prog u = .ok (.agg (totA x)) u) := fun u hu => box_tot (EnvX.comb EX26.out hu) (List.mem_append_right _ (List.Mem.tail _ (List.Mem.tail _ (List.Mem.tail _ (List.Mem.tail _ (List.Mem.head _)))))) HX.out.len
  have HLDP : Hid (∀ u, EnvX u27 u [] → (loadVar 29 ⟨gp, 0, none⟩).run Tryd.prog u = .ok (.agg (totA x)) u) := fun u hu => box_agg aggTot (k := 0) (EnvX.comb EX26.out hu) (List.mem_append_right _ (List.Mem.tail _ (List.Mem.tail _ (List.Mem.tail _ (List.Mem.head _))))) (totC x) (totC_len HX.out.len) (by rw [List.drop_zero]; have h := HCP.out.2.2.2; simpa using h)
  have HLD0 : Hid (∀ u, EnvX u27 u [] → (loadVar 27 ⟨g10, 0, none⟩).run Tryd.prog u = .ok (.agg (wcs 0)) u) := fun u hu => box_wide (EnvX.comb EX26.out hu) (List.mem_append_right _ (List.Mem.tail _ (List.Mem.tail _ (List.Mem.head _))))
  have HLDN : Hid (∀ u, EnvX u27 u [] → (loadVar 27 ⟨w.heap.size + 1, 0, none⟩).run Tryd.prog u = .ok (.agg (wcs n)) u) := fun u hu => box_wide (EnvX.comb EX26.out hu) (List.mem_append_right _ (List.Mem.tail _ (List.Mem.tail _ (List.Mem.tail _ (List.Mem.tail _ (List.Mem.tail _ (List.Mem.tail _ (List.Mem.head _))))))))
  have HLDQ : Hid (∀ u, EnvX u27 u [] → (loadVar 27 ⟨w.heap.size + 1 + 1, 0, none⟩).run Tryd.prog u = .ok (.agg (wcs q)) u) := fun u hu => box_wide (EnvX.comb EX26.out hu) (List.mem_append_right _ (List.Mem.tail _ (List.Mem.tail _ (List.Mem.tail _ (List.Mem.tail _ (List.Mem.tail _ (List.Mem.head _)))))))
  have HTP : Hid (TotsIn u27 u27.heap.size (some ⟨gp, 0, none⟩) [x]) := row_tots (n := 1) (cap := capp) (EnvX.row EX26.out (List.Mem.tail _ (List.Mem.tail _ (List.Mem.tail _ (List.Mem.head _))))) (fun t ht => by cases List.mem_singleton.1 ht; exact HX.out) rfl HCP.out.2.2.2
  clear EX26 E1 HLX HLY HAP HCX HCY
  generalize u27 = V at *
  have EV : Hid (EnvX V V []) := EnvX.start V
  have HBV := Lib.hid (HB1.out.trans (H1V.out.mono HB1.out.size))
  have HRT : Hid (∀ u, EnvX V u [] → Calls Tryd.prog 18 #[.slice (some ⟨gp, 0, none⟩) 1 capp] u fun e w' => e = .returned (.agg (totA x)) ∧ Below u.heap.size u w') := fun u hu => HM.out.root [x] (some ⟨gp, 0, none⟩) 1 capp u rfl (by omega) HCP.out.1 HCP.out.2.1 (fun t ht => by cases List.mem_singleton.1 ht; exact HX.out) (HTP.out.up (EnvX.bel hu)) (HT1.out.below (H1V.out.trans ((EnvX.bel hu).mono H1V.out.size)))
  have HOF : Hid (∀ u, Calls Tryd.prog 26 #[.int .u64 0] u fun e w' => e = .returned (.agg (wcs 0)) ∧ Below u.heap.size u w') := fun u => of_n 0 u (by decide)
  have HE1 : Hid (eqT x x = true) := decide_eq_true rfl
  have HZ : Hid (0 < Big ∧ eqN 0 0 = true) := ⟨by decide +kernel, rfl⟩
  have H1B : Hid (1 < 9223372036854775808) := Lib.hid (by decide : 1 < 9223372036854775808)
  go_upto_region 7 with (fail)
  refine wp_region_H (w0 := V) [] (by kernel_rfl) EV.out ?_
  refine anyH_phaseN [0, 1, 2, 3, 4, 5, 6, 7, 8, 9, 10, 11, 12, 13, 14, 15, 16, 17, 18, 19, 20, 21, 22, 23, 24, 25, 26, 27, 28, 29, 30, 31, 32, 33, 34] 0 rfl (by kernel_rfl) ?_
  have hw28 : EnvX V _ [] := EnvX.sub (EnvX.drew EV.out) (fun _ h => by cases h)
  have hone := @EnvC.one _ _ _ hw28
  (refine wpG_op rfl rfl rfl ?_; intro K hK; go_big_quiet_op; go_big_quiet_on)
  (refine wpG_op rfl rfl rfl ?_; intro K hK; go_big_quiet_op; go_big_quiet_on)
  (refine wpG_op rfl rfl rfl ?_; intro K hK; go_big_quiet_op; go_big_quiet_on)
  (refine wpG_val (v := .int .i64 ((1 : Nat) : Int)) rfl rfl (fun u hu => len_op Tryd.underlying22 H1B.out u rfl) ?_ hw28; intro K hK; go_big_quiet_op; go_big_quiet_on)
  (refine wpG_val (v := .bool true) rfl rfl (fun u hu => eqlI_op u (by decide) rfl rfl) ?_ hw28; intro K hK; go_big_quiet_op; go_big_quiet_on)
  (refine wpG_op rfl rfl rfl ?_; intro K hK; go_big_quiet_op; go_big_quiet_on)
  (refine wpG_op rfl rfl rfl ?_; intro K hK; go_big_quiet_op; go_big_quiet_on)
  (refine wpG_op rfl rfl rfl ?_; intro K hK; go_big_quiet_op; go_big_quiet_on)
  (refine wpG_val (v := .pointer (some ((⟨gp, 0, none⟩ : Addr).add (0 * 37)))) rfl rfl (fun u hu => idxSl_op (i := 0) Tryd.underlying22 aggTot.size (by decide) u rfl rfl) ?_ hw28; intro K hK; go_big_quiet_op; go_big_quiet_on)
  (refine wpG_val (v := .agg (totA x)) rfl rfl (fun u hu => load_any_op u (HLDP.out u (EnvX.sub hu (fun _ h => by cases h))) rfl) ?_ hw28; intro K hK; go_big_quiet_op; go_big_quiet_on)
  (refine wpG_val (v := .agg (totA x)) rfl rfl (fun u hu => load_any_op u (HLDX.out u (EnvX.sub hu (fun _ h => by cases h))) rfl) ?_ hw28; intro K hK; go_big_quiet_op; go_big_quiet_on)
  (refine wpG_val (v := .bool true) rfl rfl (fun u hu => eqlTb_op HX.out HX.out HE1.out u rfl rfl) ?_ hw28; intro K hK; go_big_quiet_op; go_big_quiet_on)
  (refine wpG_op rfl rfl rfl ?_; intro K hK; go_big_quiet_op; go_big_quiet_on)
  (refine wpG_op rfl rfl rfl ?_; intro K hK; go_big_quiet_op; go_big_quiet_on)
  (refine wpG_op rfl rfl rfl ?_; intro K hK; go_big_quiet_op; go_big_quiet_on)
  (refine wpG_call (f := 18) (args := #[.slice (some ⟨gp, 0, none⟩) 1 capp]) (v := .agg (totA x)) rfl rfl rfl Tryd.func18 rfl rfl (fun u hu => HRT.out u (EnvX.sub hu (fun _ h => by cases h))) ?_ hw28; intro K hK; go_big_quiet_op; go_big_quiet_on)
  (refine wpG_val (v := .agg (totA x)) rfl rfl (fun u hu => load_any_op u (HLDX.out u (EnvX.sub hu (fun _ h => by cases h))) rfl) ?_ hw28; intro K hK; go_big_quiet_op; go_big_quiet_on)
  (refine wpG_val (v := .bool true) rfl rfl (fun u hu => eqlTb_op HX.out HX.out HE1.out u rfl rfl) ?_ hw28; intro K hK; go_big_quiet_op; go_big_quiet_on)
  (refine wpG_op rfl rfl rfl ?_; intro K hK; go_big_quiet_op; go_big_quiet_on)
  (refine wpG_op rfl rfl rfl ?_; intro K hK; go_big_quiet_op; go_big_quiet_on)
  (refine wpG_op rfl rfl rfl ?_; intro K hK; go_big_quiet_op; go_big_quiet_on)
  (refine wpG_op rfl rfl rfl ?_; intro K hK; go_big_quiet_op; go_big_quiet_on)
  (refine wpG_op rfl rfl rfl ?_; intro K hK; go_big_quiet_op; go_big_quiet_on)
  (refine wpG_val (v := .agg (wcs 0)) rfl rfl (fun u hu => load_any_op u (HLD0.out u (EnvX.sub hu (fun _ h => by cases h))) rfl) ?_ hw28; intro K hK; go_big_quiet_op; go_big_quiet_on)
  (refine wpG_call (f := 26) (args := #[.int .u64 0]) (v := .agg (wcs 0)) rfl rfl rfl Tryd.func26 rfl rfl (fun u hu => HOF.out u) ?_ hw28; intro K hK; go_big_quiet_op; go_big_quiet_on)
  (refine wpG_val (v := .bool true) rfl rfl (fun u hu => eqlW_op HZ.out.1 HZ.out.1 HZ.out.2 u rfl rfl) ?_ hw28; intro K hK; go_big_quiet_op; go_big_quiet_on)
  (refine wpG_op rfl rfl rfl ?_; intro K hK; go_big_quiet_op; go_big_quiet_on)
  (refine wpG_op rfl rfl rfl ?_; intro K hK; go_big_quiet_op; go_big_quiet_on)
  (refine wpG_op rfl rfl rfl ?_; intro K hK; go_big_quiet_op; go_big_quiet_on)
  (refine wpG_val (v := .agg (wcs n)) rfl rfl (fun u hu => load_any_op u (HLDN.out u (EnvX.sub hu (fun _ h => by cases h))) rfl) ?_ hw28; intro K hK; go_big_quiet_op; go_big_quiet_on)
  (refine wpG_val (v := .agg (wcs q)) rfl rfl (fun u hu => load_any_op u (HLDQ.out u (EnvX.sub hu (fun _ h => by cases h))) rfl) ?_ hw28; intro K hK; go_big_quiet_op; go_big_quiet_on)
  (refine wpG_val (v := .bool b) rfl rfl (fun u hu => eqlW_op HN.out.1 HN.out.2 HEQ.out u rfl rfl) ?_ hw28; intro K hK; go_big_quiet_op; go_big_quiet_on)
  (refine wpG_val (v := .bool true) rfl rfl (fun u hu => eqlBB_op u rfl rfl) ?_ hw28; intro K hK; go_big_quiet_op; go_big_quiet_on)
  (refine wpG_op rfl rfl rfl ?_; intro K hK; go_big_quiet_op; go_big_quiet_on)
  (refine wpG_op rfl rfl rfl ?_; intro K hK; go_big_quiet_op; go_big_quiet_on)
  clear hone hw28
  refine wpG_nil ?_
  refine anyH_done (by kernel_rfl) ?_
  intro u30 E2'
  have EX29 := Lib.hid E2'
  clear E2'
  go_wp2
  go_ret
  exact ⟨rfl, HBV.out.trans ((EnvX.bel EX29.out).mono HBV.out.size)⟩
end Go.Proofs.YtbmiecogjmbciaaDoor

namespace Go.Proofs.YtbmiecogjmbciaaDoor
set_option maxRecDepth 8000
open Go.ChangeShapes Go.WideShapes Go.ChangeAt Go.RowKit Go.Deep

section
variable {H : Type} {enc : TypeId × Value → H} {W : World} {base : Nat} {spare : Nat → Bool} {held : Bool} {fuel : Nat} {cs : List Value} {x : DataW H × List MemPlace}
end
section
variable {H : Type} {enc : TypeId × Value → H} {W : World} {base : Nat} {v : Value} {d : DataW H} {p : List MemPlace}
theorem open_wide (hok : Value.okWide Tryd.prog W .any base 27 v) (h : DataW.Trod enc Tryd.prog W 0 (fun _ => true) true 27 v d p) : ∃ n : Nat, v = .agg (wcs n) ∧ n < Big := by
  obtain ⟨cs, rfl, hsz, _⟩ : ∃ cs, v = .agg cs ∧ cs.size = Tryd.prog.cellsOf 27 ∧ Row.okWide Tryd.prog W .any base 27 cs := by
    simpa [Value.okWide, Tryd.underlying27] using hok
  obtain ⟨fuel, hf⟩ := h
  obtain ⟨n, hn, hc⟩ := wide_cells hf
  refine ⟨n, ?_, hn⟩
  have : cs.toList = (wcs n).toList := hc
  rw [Array.toList_inj.1 this]
end
def zeroW : Value := .agg #[.int .u64 0, .int .u64 0, .int .u64 0, .int .u64 0]
def zeroWD {H : Type} : DataW H := .agg (List.replicate 4 (.lit (.int .u64 0)))
end Go.Proofs.YtbmiecogjmbciaaDoor

namespace Go.Proofs.YtbmiecogjmbciaaDoor.mmrOne
set_option maxRecDepth 8000
open Go.ChangeShapes Go.WideShapes Go.ChangeAt Go.RowKit

theorem contract (H : Type) (enc : TypeId × Value → H) (W : World) (base : Nat) (args : Array Value) (ds gs : List (DataW H)) (before : List MemPlace)
    (hval : ∀ (j : Nat) t v, Tryd.f7.params[j]? = some t → args[j]? = some v → Value.okWide Tryd.prog W .any base t v)
    (hW : DataW.Whole enc Tryd.prog Tryd.f7.params.toList Rows.mmrOneSpec.vars false W args.toList ds gs before) (hL : laidMetH Tryd.prog Rows.mmrOneRow.laid W) :
    Calls Tryd.prog 7 args W fun e W' => ∃ v, e = .returned v ∧ Rows.mmrOneSpec.post enc Tryd.prog Tryd.f7 false true false false W args v W' := by
  have hW' := hW
  obtain ⟨p, q, hA0, hV, rfl, hfz, hnd⟩ := hW
  have hA : DataW.TrodAll enc Tryd.prog W 0 (fun _ => true) true Tryd.f7.params.toList args.toList ds p := hA0
  rw [Tryd.params7] at hA hval
  obtain ⟨v0, vs0, d0, ds0, p0, q0, hargs, rfl, rfl, h0, r0⟩ := trodAll_cons hA
  obtain ⟨v1, vs1, d1, ds1, p1, q1, rfl, rfl, rfl, h1, r1⟩ := trodAll_cons r0
  obtain ⟨v2, vs2, d2, ds2, p2, q2, rfl, rfl, rfl, h2, r2⟩ := trodAll_cons r1
  obtain ⟨rfl, rfl, rfl⟩ := trodAll_nil r2
  obtain rfl : args = #[v0, v1, v2] := by cases args; simp_all
  obtain ⟨rfl, rfl⟩ := trodVars_none hV
  have lt0 : ∀ x ∈ p0, x.block < W.heap.size := by obtain ⟨m, hm⟩ := h0; exact DataW.trod_lt m _ _ _ hm
  obtain ⟨x0, rfl, lx0, rx0⟩ := open_id (hval 0 24 v0 rfl rfl) h0
  have lt1 : ∀ x ∈ p1, x.block < W.heap.size := by obtain ⟨m, hm⟩ := h1; exact DataW.trod_lt m _ _ _ hm
  obtain ⟨x1, rfl, bx1⟩ := open_wide (hval 1 27 v1 rfl rfl) h1
  have lt2 : ∀ x ∈ p2, x.block < W.heap.size := by obtain ⟨m, hm⟩ := h2; exact DataW.trod_lt m _ _ _ hm
  obtain ⟨x2, rfl, bx2⟩ := open_wide (hval 2 27 v2 rfl rfl) h2
  clear hA0
  refine (law_one mmrC x0 x1 x2 W ⟨lx0, rx0⟩ bx1 bx2 (tables_of_laid hL)).mono fun e W' ⟨he, bel⟩ => ?_
  subst he
  exact ⟨_, rfl, _, _, _, [], _, [], hW', trodAll_mk1 (shut_bool Tryd.underlying4 _), (trodAll_cons_mk (Below.trod laidOut (by kernel_rfl) (of_decide_eq_true (by kernel_rfl)) h0 bel lt0) (trodAll_cons_mk (Below.trod laidOut (by kernel_rfl) (of_decide_eq_true (by kernel_rfl)) h1 bel lt1) (trodAll_cons_mk (Below.trod laidOut (by kernel_rfl) (of_decide_eq_true (by kernel_rfl)) h2 bel lt2) trodAll_mk0))), rfl, bel.frame _, fun h => by cases h⟩

def start : Array Value := #[zeroId, zeroW, zeroW]
theorem reads (os : Os) {H : Type} (enc : TypeId × Value → H) : ∃ places, DataW.whole enc Tryd.prog ((laidWorld os).forCall (fun _ _ => 0) ⟨#[], start, []⟩).memory Tryd.f7.params.toList Rows.mmrOneSpec.vars false start.toList 8 = some ([zeroD, zeroWD, zeroWD], [], places) :=
  ⟨[], by kernel_rfl⟩

set_option maxRecDepth 100000 in
theorem lifted (os : Os) (started : os.Started) (H : Type) (enc : TypeId × Value → H) (F : Stop.Interp) :
    ReturnsInHanded {} Tryd.checked os 7 .any ((OpenSpec.ofChange Rows.mmrOneSpec).preRow enc Tryd.prog Tryd.f7 Rows.mmrOneRow.domain false Rows.mmrOneRow.laid) (((OpenSpec.ofChange Rows.mmrOneSpec).at F).post enc Tryd.prog Tryd.f7 false true false false) := by
  obtain ⟨places, hx⟩ := reads os enc
  refine returnsInHanded_of_row (C := Tryd.checked) (s := OpenSpec.ofChange Rows.mmrOneSpec) own started (by kernel_rfl) Tryd.func7
    (witness_row_at (enc := enc) (C := Tryd.checked) false (laidWorld os) start rfl (by kernel_rfl) (by kernel_rfl) (by kernel_rfl)
      (OpenSpec.preRow_of_cond 8 hx (by kernel_rfl) (fun k hk => by cases hk) (by kernel_rfl) (laidMet_of_run' 8 (by kernel_rfl) (by kernel_rfl)))) ?_
  intro W base args ds gs before hval hW _ _ _ hL _ _
  exact contract H enc W base args ds gs before hval hW hL

theorem said : Rows.MmrOneSaid :=
  OpenClaim.holds_of_cond 7 Tryd.f7 rfl rfl rfl rfl rfl rfl rfl ⟨rfl, rfl, rfl, rfl, rfl⟩ rfl rfl rfl rfl rfl (by kernel_rfl) Tryd.func7 (by kernel_rfl)
    (of_decide_eq_true (by kernel_rfl)) (by unfold Func.isWrapper; first | (rw [if_pos (by decide +kernel)]; kernel_rfl) | (rw [if_neg (by decide +kernel)]; exact ⟨rfl, rfl⟩))
    (fun os started H enc _ F => by rw [OpenClaim.pre_eq_preRow]; exact lifted os started H enc F)

theorem plain (f : FuncId) (fn : Func) (hf : Tryd.pinned.checked.prog.funcNamed "stepladder/stepladderlaw06.MmrOne" = some f) (hfn : Tryd.pinned.checked.prog.funcs[f]? = some fn) :
    false = Tryd.pinned.checked.prog.looks [] ∧ ∀ (j : Nat) t, fn.params[j]? = some t → Tryd.pinned.checked.prog.wantsStandIn t = false := by
  obtain rfl : f = 7 := Option.some.inj ((show Tryd.prog.funcNamed "stepladder/stepladderlaw06.MmrOne" = some 7 by kernel_rfl).symm.trans hf) |>.symm
  obtain rfl : fn = Tryd.f7 := (Option.some.inj (Tryd.func7.symm.trans hfn)).symm
  refine ⟨by kernel_rfl, fun j t ht => ?_⟩
  rw [Tryd.params7] at ht
  have hm : t = 24 ∨ t = 27 ∨ t = 27 := by simpa using Array.mem_of_getElem? ht
  rcases hm with rfl | rfl | rfl
  · exact (show Tryd.prog.wantsStandIn 24 = false by kernel_rfl)
  · exact (show Tryd.prog.wantsStandIn 27 = false by kernel_rfl)
  · exact (show Tryd.prog.wantsStandIn 27 = false by kernel_rfl)
theorem card : Rows.MmrOneCardSaid :=
  Claim7.holds_tied_plain_at .later [] _ _ _ _ said (fun _ h => by cases h) (by kernel_rfl) (fun _ h => by cases h) mmrOne_row_tie rfl ⟨rfl, rfl⟩ (by kernel_rfl) rfl plain (by kernel_rfl)

end Go.Proofs.YtbmiecogjmbciaaDoor.mmrOne
