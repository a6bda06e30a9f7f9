/- Part of a proof. -/
import Derived.Test.YtcodmedgkboohaaDoorCf
namespace Go.Proofs.YtcodmedgkboohaaDoor
set_option maxRecDepth 8000
open Go.RowKit

theorem putX_2 (t : TxR) : (putX t).2 = mayX t := by unfold putX; cases h : mayX t <;> rfl
theorem putX_yes {t : TxR} (h : mayX t = true) : (putX t).1 = bodyX t := by unfold putX; rw [h]; rfl
theorem putX_no {t : TxR} (h : mayX t = false) : (putX t).1 = [] := by unfold putX; rw [h]; rfl
theorem putX_byte {t : TxR} (h : okX t) : isB (putX t).1 := by
  cases k : mayX t with
  | true => rw [putX_yes k]; exact bodyX_byte h k
  | false => rw [putX_no k]; exact fun y hy => by cases hy
theorem putX_len {t : TxR} (h : okX t) : (putX t).1.length ≤ 122 := by
  cases k : mayX t with
  | true =>
    rw [putX_yes k, bodyX_len h]
    have := mayX_iff.1 k
    omega
  | false => rw [putX_no k]; exact Nat.zero_le _
end Go.Proofs.YtcodmedgkboohaaDoor

namespace Go.Proofs.YtcodmedgkboohaaDoor
set_option maxRecDepth 8000
open Go.RowKit

section
variable {a : Act} {dst : Option Tmp} {x y : Operand} {ty : TypeId} {pos : String} {after : Array Edge} {gd : Option (Nat × Bool)}
theorem neqBc_op {p q b : Bool} (u : World) (hb : (p != q) = b) (hx : a.eval x = .bool p) (hy : a.eval y = .bool q) :
    (execOp a.eval ⟨dst, .binOp .neq 4 x y 4, ty, pos, after, gd⟩).run Tryd.prog u = .ok (.value (.bool b)) u := by
  subst hb
  unfold execOp
  simp only [hx, hy]
  cases p <;> cases q <;> go_simp
end
end Go.Proofs.YtcodmedgkboohaaDoor

namespace Go.Proofs.YtcodmedgkboohaaDoor
set_option maxRecDepth 8000
open Go.RowKit

theorem list_step {α : Type} {d : α} {l q : List α} {k : Nat} (h : l.take k = q.take k) (h1 : k < l.length) (h2 : k < q.length) (e : l.getD k d = q.getD k d) : l.take (k + 1) = q.take (k + 1) := by
  rw [List.take_add_one, List.take_add_one, h, List.getElem?_eq_getElem h1, List.getElem?_eq_getElem h2]
  rw [List.getD_eq_getElem?_getD, List.getD_eq_getElem?_getD, List.getElem?_eq_getElem h1, List.getElem?_eq_getElem h2] at e
  simp only [Option.getD_some] at e
  rw [e]
set_option maxRecDepth 20000 in
set_option maxHeartbeats 4000000 in
theorem eqIns_any (l q : List InR) (A A' : Option Addr) (n c m c' : Nat) (w : World) (hl : l.length = n) (hq : q.length = m) (hnc : n ≤ c) (hc : c ≤ maxLen) (hmc : m ≤ c') (hc' : c' ≤ maxLen) (hI : okIns l) (hJ : okIns q) (hA : InsIn w w.heap.size A l) (hB : InsIn w w.heap.size A' q) :
    Calls Tryd.prog 37 #[.slice A n c, .slice A' m c'] w fun e w' => e = .returned (.bool (decide (l = q))) ∧ Below w.heap.size w w' := by
  unfold maxLen at hc hc'
  have HL := Lib.hid hl
  have HQ := Lib.hid hq
  have HI := Lib.hid (And.intro hI hA)
  have HJ := Lib.hid (And.intro hJ hB)
  clear hI hA hJ hB hl hq
  by_cases hnm : n = m
  · subst hnm
    go_enter Tryd.func37, Tryd.ntmps37
    go_upto_region 4 with (fail)
    go_loopw [13] (fun i u => ∃ k : Nat, k ≤ n ∧ i = .int .i64 k ∧ Below w.heap.size w u ∧ Hid (l.take k = q.take k)) (fun i _ => n - (intOf i).toNat)
    case atStart => exact ⟨0, by omega, rfl, Below.refl _ _, rfl⟩
    case round =>
      obtain ⟨k, hk, rfl, hbl, hsame⟩ := hrel
      by_cases hlt : k < n
      · have hk2 : (k : Int) < (n : Int) := by omega
        obtain ⟨a1, rfl, -, h1⟩ := HI.out.2.loads HI.out.1 (k := k) (by rw [HL.out]; exact hlt)
        obtain ⟨a2, rfl, -, h2⟩ := HJ.out.2.loads HJ.out.1 (k := k) (by rw [HQ.out]; exact hlt)
        have H1 := Lib.hid h1
        have H2 := Lib.hid h2
        have E1 : Hid (EnvX w wr []) := ⟨hbl, fun _ _ h => by cases h⟩
        have HX := Lib.hid (HI.out.1.get (i := k) (by rw [HL.out]; exact hlt))
        have HY := Lib.hid (HJ.out.1.get (i := k) (by rw [HQ.out]; exact hlt))
        have HST := Lib.hid (list_step (d := noIn) hsame.out (by rw [HL.out]; exact hlt) (by rw [HQ.out]; exact hlt))
        have HNE : Hid (l.getD k noIn ≠ q.getD k noIn → l ≠ q) := fun h e => h (by rw [e])
        clear h1 h2 hsame hbl
        generalize l.getD k noIn = x at *
        generalize q.getD k noIn = y at *
        go_upto_region 6 with (fail)
        refine wp_region_H (w0 := w) [] (by kernel_rfl) E1.out ?_
        refine anyH_phase [0, 1, 2, 3, 4, 5, 6, 7, 8] 0 rfl ⟨_, (EnvX.drew E1.out)⟩ (by kernel_rfl) ?_
        have hw1 : EnvX w _ [] := (EnvX.drew E1.out)
        have hone := @EnvC.one _ _ _ hw1
        (refine wpG_op rfl rfl rfl ?_; intro K hK; go_big_quiet_op; go_big_quiet_on)
        (refine wpG_op rfl rfl rfl ?_; intro K hK; go_big_quiet_op; go_big_quiet_on)
        (refine wpG_op rfl rfl rfl ?_; intro K hK; go_big_quiet_op; go_big_quiet_on)
        (refine wpG_val (v := inV x) rfl rfl (fun u hu => load_any_op u (H1.out u (EnvX.sub hu (fun _ h => by cases h))).1 rfl) ?_ hw1; intro K hK; go_big_quiet_op; go_big_quiet_on)
        (refine wpG_op rfl rfl rfl ?_; intro K hK; go_big_quiet_op; go_big_quiet_on)
        (refine wpG_op rfl rfl rfl ?_; intro K hK; go_big_quiet_op; go_big_quiet_on)
        (refine wpG_op rfl rfl rfl ?_; intro K hK; go_big_quiet_op; go_big_quiet_on)
        (refine wpG_val (v := inV y) rfl rfl (fun u hu => load_any_op u (H2.out u (EnvX.sub hu (fun _ h => by cases h))).1 rfl) ?_ hw1; intro K hK; go_big_quiet_op; go_big_quiet_on)
        (refine wpG_val (v := .bool (!eqI x y)) rfl rfl (fun u hu => neqIn_op HX.out.len HY.out.len rfl u rfl rfl) ?_ hw1; intro K hK; go_big_quiet_op; go_big_quiet_on)
        clear hone hw1
        refine wpG_nil ?_
        refine anyH_done (by kernel_rfl) ?_
        intro u3 E2'
        have EX2 := Lib.hid E2'
        clear E2'
        by_cases hxy : x = y
        · have hb : eqI x y = true := by simp [eqI, hxy]
          rw [hb]
          go_wp2
          go_roundw
          case rel => exact ⟨k + 1, by omega, by go_num, EnvX.bel EX2.out, HST.out hxy⟩
          case measure => simp [intOf]; omega
        · have hb : eqI x y = false := by simp [eqI, hxy]
          have HR : Hid (decide (l = q) = false) := by
            show _ = _
            simp [HNE.out hxy]
          rw [hb]
          go_wp2
          go_ret
          exact ⟨by rw [HR.out]; rfl, EnvX.bel EX2.out⟩
      · obtain rfl : k = n := by omega
        have HR : Hid (decide (l = q) = true) := by
          have h := hsame.out
          rw [List.take_of_length_le (by rw [HL.out]; exact Nat.le_refl _), List.take_of_length_le (by rw [HQ.out]; exact Nat.le_refl _)] at h
          show _ = _
          simp [h]
        clear hsame
        go_wp2
        go_ret
        exact ⟨by rw [HR.out]; rfl, hbl⟩
  · have hne : ¬ (n : Int) = (m : Int) := by omega
    have HR : Hid (decide (l = q) = false) := by
      show _ = _
      have : l ≠ q := fun e => hnm (by rw [← HL.out, ← HQ.out, e])
      simp [this]
    go_enter Tryd.func37, Tryd.ntmps37
    go_wp2
    go_ret
    exact ⟨by rw [HR.out]; rfl, Below.refl _ _⟩
set_option maxRecDepth 20000 in
set_option maxHeartbeats 4000000 in
theorem eqOuts_any (l q : List OutR) (A A' : Option Addr) (n c m c' : Nat) (w : World) (hl : l.length = n) (hq : q.length = m) (hnc : n ≤ c) (hc : c ≤ maxLen) (hmc : m ≤ c') (hc' : c' ≤ maxLen) (hI : okOuts l) (hJ : okOuts q) (hA : OutsIn w w.heap.size A l) (hB : OutsIn w w.heap.size A' q) :
    Calls Tryd.prog 38 #[.slice A n c, .slice A' m c'] w fun e w' => e = .returned (.bool (decide (l = q))) ∧ Below w.heap.size w w' := by
  unfold maxLen at hc hc'
  have HL := Lib.hid hl
  have HQ := Lib.hid hq
  have HI := Lib.hid (And.intro hI hA)
  have HJ := Lib.hid (And.intro hJ hB)
  clear hI hA hJ hB hl hq
  by_cases hnm : n = m
  · subst hnm
    go_enter Tryd.func38, Tryd.ntmps38
    go_upto_region 4 with (fail)
    go_loopw [13] (fun i u => ∃ k : Nat, k ≤ n ∧ i = .int .i64 k ∧ Below w.heap.size w u ∧ Hid (l.take k = q.take k)) (fun i _ => n - (intOf i).toNat)
    case atStart => exact ⟨0, by omega, rfl, Below.refl _ _, rfl⟩
    case round =>
      obtain ⟨k, hk, rfl, hbl, hsame⟩ := hrel
      by_cases hlt : k < n
      · have hk2 : (k : Int) < (n : Int) := by omega
        obtain ⟨a1, rfl, -, h1⟩ := HI.out.2.loads (k := k) (by rw [HL.out]; exact hlt)
        obtain ⟨a2, rfl, -, h2⟩ := HJ.out.2.loads (k := k) (by rw [HQ.out]; exact hlt)
        have H1 := Lib.hid h1
        have H2 := Lib.hid h2
        have E1 : Hid (EnvX w wr []) := ⟨hbl, fun _ _ h => by cases h⟩
        have HX := Lib.hid (HI.out.1.get (i := k) (by rw [HL.out]; exact hlt))
        have HY := Lib.hid (HJ.out.1.get (i := k) (by rw [HQ.out]; exact hlt))
        have HST := Lib.hid (list_step (d := noOut) hsame.out (by rw [HL.out]; exact hlt) (by rw [HQ.out]; exact hlt))
        have HNE : Hid (l.getD k noOut ≠ q.getD k noOut → l ≠ q) := fun h e => h (by rw [e])
        clear h1 h2 hsame hbl
        generalize l.getD k noOut = x at *
        generalize q.getD k noOut = y at *
        go_upto_region 6 with (fail)
        refine wp_region_H (w0 := w) [] (by kernel_rfl) E1.out ?_
        refine anyH_phase [0, 1, 2, 3, 4, 5, 6, 7, 8] 0 rfl ⟨_, (EnvX.drew E1.out)⟩ (by kernel_rfl) ?_
        have hw1 : EnvX w _ [] := (EnvX.drew E1.out)
        have hone := @EnvC.one _ _ _ hw1
        (refine wpG_op rfl rfl rfl ?_; intro K hK; go_big_quiet_op; go_big_quiet_on)
        (refine wpG_op rfl rfl rfl ?_; intro K hK; go_big_quiet_op; go_big_quiet_on)
        (refine wpG_op rfl rfl rfl ?_; intro K hK; go_big_quiet_op; go_big_quiet_on)
        (refine wpG_val (v := outV x) rfl rfl (fun u hu => load_any_op u (H1.out u (EnvX.sub hu (fun _ h => by cases h))).1 rfl) ?_ hw1; intro K hK; go_big_quiet_op; go_big_quiet_on)
        (refine wpG_op rfl rfl rfl ?_; intro K hK; go_big_quiet_op; go_big_quiet_on)
        (refine wpG_op rfl rfl rfl ?_; intro K hK; go_big_quiet_op; go_big_quiet_on)
        (refine wpG_op rfl rfl rfl ?_; intro K hK; go_big_quiet_op; go_big_quiet_on)
        (refine wpG_val (v := outV y) rfl rfl (fun u hu => load_any_op u (H2.out u (EnvX.sub hu (fun _ h => by cases h))).1 rfl) ?_ hw1; intro K hK; go_big_quiet_op; go_big_quiet_on)
        (refine wpG_val (v := .bool (!eqO x y)) rfl rfl (fun u hu => neqOut_op rfl u rfl rfl) ?_ hw1; intro K hK; go_big_quiet_op; go_big_quiet_on)
        clear hone hw1
        refine wpG_nil ?_
        refine anyH_done (by kernel_rfl) ?_
        intro u3 E2'
        have EX2 := Lib.hid E2'
        clear E2'
        by_cases hxy : x = y
        · have hb : eqO x y = true := by simp [eqO, hxy]
          rw [hb]
          go_wp2
          go_roundw
          case rel => exact ⟨k + 1, by omega, by go_num, EnvX.bel EX2.out, HST.out hxy⟩
          case measure => simp [intOf]; omega
        · have hb : eqO x y = false := by simp [eqO, hxy]
          have HR : Hid (decide (l = q) = false) := by
            show _ = _
            simp [HNE.out hxy]
          rw [hb]
          go_wp2
          go_ret
          exact ⟨by rw [HR.out]; rfl, EnvX.bel EX2.out⟩
      · obtain rfl : k = n := by omega
        have HR : Hid (decide (l = q) = true) := by
          have h := hsame.out
          rw [List.take_of_length_le (by rw [HL.out]; exact Nat.le_refl _), List.take_of_length_le (by rw [HQ.out]; exact Nat.le_refl _)] at h
          show _ = _
          simp [h]
        clear hsame
        go_wp2
        go_ret
        exact ⟨by rw [HR.out]; rfl, hbl⟩
  · have hne : ¬ (n : Int) = (m : Int) := by omega
    have HR : Hid (decide (l = q) = false) := by
      show _ = _
      have : l ≠ q := fun e => hnm (by rw [← HL.out, ← HQ.out, e])
      simp [this]
    go_enter Tryd.func38, Tryd.ntmps38
    go_wp2
    go_ret
    exact ⟨by rw [HR.out]; rfl, Below.refl _ _⟩
end Go.Proofs.YtcodmedgkboohaaDoor

namespace Go.Proofs.YtcodmedgkboohaaDoor
set_option maxRecDepth 8000
open Go.RowKit

/-- where an id stands first; -1, if nowhere -/
def idxIn : List InR → InR → Int
  | [], _ => -1
  | x :: r, id => if x = id then 0 else if 0 ≤ idxIn r id then idxIn r id + 1 else -1
theorem idxIn_hit : ∀ (l : List InR) (id : InR) (k : Nat), k < l.length → (∀ j, j < k → l.getD j noIn ≠ id) → l.getD k noIn = id → idxIn l id = (k : Int)
  | [], id, k, hk, _, _ => by cases hk
  | x :: r, id, 0, _, _, h => by
    unfold idxIn
    rw [if_pos (show x = id from h)]
    rfl
  | x :: r, id, k + 1, hk, hn, h => by
    unfold idxIn
    have hr := idxIn_hit r id k (by simpa using hk) (fun j hj => hn (j + 1) (by omega)) h
    rw [if_neg (show ¬ x = id from hn 0 (by omega)), hr, if_pos (by omega)]
    rfl
theorem idxIn_none : ∀ (l : List InR) (id : InR), (∀ j, j < l.length → l.getD j noIn ≠ id) → idxIn l id = -1
  | [], id, _ => rfl
  | x :: r, id, hn => by
    unfold idxIn
    have hr := idxIn_none r id (fun j hj => hn (j + 1) (by simpa using hj))
    rw [if_neg (show ¬ x = id from hn 0 (by simp)), hr, if_neg (by decide)]
theorem idxIn_mem : ∀ (l : List InR) (id : InR), 0 ≤ idxIn l id ↔ id ∈ l
  | [], id => ⟨fun h => absurd (show (0 : Int) ≤ -1 from h) (by decide), fun h => by cases h⟩
  | x :: r, id => by
    unfold idxIn
    by_cases hx : x = id
    · rw [if_pos hx]
      exact ⟨fun _ => by rw [hx]; exact List.mem_cons_self .., fun _ => Int.le_refl _⟩
    · rw [if_neg hx]
      have hr := idxIn_mem r id
      by_cases h0 : 0 ≤ idxIn r id
      · rw [if_pos h0]
        exact ⟨fun _ => List.mem_cons_of_mem _ (hr.1 h0), fun _ => by omega⟩
      · rw [if_neg h0]
        exact ⟨fun h => absurd h (by decide), fun h => by
          rcases List.mem_cons.1 h with e | e
          · exact absurd e.symm hx
          · exact absurd (hr.2 e) h0⟩
set_option maxRecDepth 20000 in
set_option maxHeartbeats 8000000 in
theorem indexIn_any (l : List InR) (id : InR) (A : Option Addr) (n c : Nat) (w : World) (hl : l.length = n) (hn : n ≤ 1000000) (hI : okIns l) (hA : InsIn w w.heap.size A l) (hid : lenI id) :
    Calls Tryd.prog 67 #[.slice A n c, inV id] w fun e w' => e = .returned (.int .i64 (idxIn l id)) ∧ Below w.heap.size w w' := by
  have HL := Lib.hid hl
  have HIA := Lib.hid (And.intro hI hA)
  have HD := Lib.hid hid
  have E1 : Hid (EnvX w (w.alloc (.cells (inA id) 51)) [(w.heap.size, Obj.cells (inA id) 51 (0, 0))]) := (EnvX.start w).new _
  clear hl hI hA hid
  unfold inV
  go_enter Tryd.func67, Tryd.ntmps67
  go_upto_region 2 with (fail)
  generalize w.alloc (.cells (inA id) 51) = W at *
  go_loopw [8] (fun iv u => ∃ k : Nat, k ≤ n ∧ iv = .int .i64 (k : Int) ∧ Hid ((∀ j, j < k → l.getD j noIn ≠ id) ∧ EnvX w u [(w.heap.size, Obj.cells (inA id) 51 (0, 0))])) (fun iv _ => n - (intOf iv).toNat)
  case atStart => exact ⟨0, by omega, rfl, (fun j hj => by omega), E1.out⟩
  case round =>
    obtain ⟨k, hk, rfl, hinv⟩ := hrel
    have HNO := Lib.hid hinv.out.1
    have EK := Lib.hid hinv.out.2
    clear hinv E1
    by_cases hlt : k < n
    · have hlt2 : (k : Int) < (n : Int) := by omega
      have hkl : k < l.length := by rw [HL.out]; exact hlt
      obtain ⟨ad, rfl, -, hld⟩ := HIA.out.2.loads HIA.out.1 hkl
      have HLD := Lib.hid hld
      have HX : Hid (lenI (l.getD k noIn)) := (HIA.out.1.get hkl).len
      have HKN := Lib.hid hlt
      by_cases hx : l.getD k noIn = id
      · have HEQ : Hid (eqI id (l.getD k noIn) = true) := decide_eq_true hx.symm
        have HR : Hid (idxIn l id = (k : Int)) := idxIn_hit l id k hkl HNO.out hx
        clear hx hkl hlt hld
        generalize l.getD k noIn = x at *
        go_upto_region 4 with (fail)
        refine wp_region_H (w0 := w) [(w.heap.size, Obj.cells (inA id) 51 (0, 0))] (by kernel_rfl) EK.out ?_
        refine anyH_phase [0, 1, 2, 3, 4, 5] 0 rfl ⟨_, (EnvX.drew EK.out)⟩ (by kernel_rfl) ?_
        have hw51 : EnvX w _ [(w.heap.size, Obj.cells (inA id) 51 (0, 0))] := (EnvX.drew EK.out)
        have hone := @EnvC.one _ _ _ hw51
        (refine wpG_val (v := inV id) rfl rfl (fun u hu => load_any_op u (box_in hu (List.Mem.head _) HD.out) rfl) ?_ hw51; intro K hK; go_big_quiet_op; go_big_quiet_on)
        (refine wpG_op rfl rfl rfl ?_; intro K hK; go_big_quiet_op; go_big_quiet_on)
        (refine wpG_op rfl rfl rfl ?_; intro K hK; go_big_quiet_op; go_big_quiet_on)
        (refine wpG_val (v := .pointer (some (ad.add (k * 33)))) rfl rfl (fun u hu => idxSl_op Tryd.underlying22 aggIn.size HKN.out u rfl rfl) ?_ hw51; intro K hK; go_big_quiet_op; go_big_quiet_on)
        (refine wpG_val (v := inV x) rfl rfl (fun u hu => load_any_op u (HLD.out u (EnvX.sub hu (fun _ h => by cases h))).1 rfl) ?_ hw51; intro K hK; go_big_quiet_op; go_big_quiet_on)
        (refine wpG_val (v := .bool true) rfl rfl (fun u hu => eqlIn_op HD.out HX.out HEQ.out u rfl rfl) ?_ hw51; intro K hK; go_big_quiet_op; go_big_quiet_on)
        clear hone hw51
        refine wpG_nil ?_
        refine anyH_done (by kernel_rfl) ?_
        intro u53 E2'
        have EX52 := Lib.hid E2'
        clear E2'
        go_wp2
        go_ret
        exact ⟨by rw [HR.out]; first | done | rfl, EnvX.bel EX52.out⟩
      · have HEQ : Hid (eqI id (l.getD k noIn) = false) := decide_eq_false (fun e => hx e.symm)
        have HN2 : Hid (∀ j, j < k + 1 → l.getD j noIn ≠ id) := fun j hj => by
          rcases Nat.lt_or_ge j k with h | h
          · exact HNO.out j h
          · rw [show j = k by omega]; exact hx
        clear hx hkl hlt hld
        generalize l.getD k noIn = x at *
        go_upto_region 4 with (fail)
        refine wp_region_H (w0 := w) [(w.heap.size, Obj.cells (inA id) 51 (0, 0))] (by kernel_rfl) EK.out ?_
        refine anyH_phase [0, 1, 2, 3, 4, 5] 0 rfl ⟨_, (EnvX.drew EK.out)⟩ (by kernel_rfl) ?_
        have hw51 : EnvX w _ [(w.heap.size, Obj.cells (inA id) 51 (0, 0))] := (EnvX.drew EK.out)
        have hone := @EnvC.one _ _ _ hw51
        (refine wpG_val (v := inV id) rfl rfl (fun u hu => load_any_op u (box_in hu (List.Mem.head _) HD.out) rfl) ?_ hw51; intro K hK; go_big_quiet_op; go_big_quiet_on)
        (refine wpG_op rfl rfl rfl ?_; intro K hK; go_big_quiet_op; go_big_quiet_on)
        (refine wpG_op rfl rfl rfl ?_; intro K hK; go_big_quiet_op; go_big_quiet_on)
        (refine wpG_val (v := .pointer (some (ad.add (k * 33)))) rfl rfl (fun u hu => idxSl_op Tryd.underlying22 aggIn.size HKN.out u rfl rfl) ?_ hw51; intro K hK; go_big_quiet_op; go_big_quiet_on)
        (refine wpG_val (v := inV x) rfl rfl (fun u hu => load_any_op u (HLD.out u (EnvX.sub hu (fun _ h => by cases h))).1 rfl) ?_ hw51; intro K hK; go_big_quiet_op; go_big_quiet_on)
        (refine wpG_val (v := .bool false) rfl rfl (fun u hu => eqlIn_op HD.out HX.out HEQ.out u rfl rfl) ?_ hw51; intro K hK; go_big_quiet_op; go_big_quiet_on)
        clear hone hw51
        refine wpG_nil ?_
        refine anyH_done (by kernel_rfl) ?_
        intro u53 E2'
        have EX52 := Lib.hid E2'
        clear E2'
        go_wp2
        go_roundw
        case rel => exact ⟨k + 1, by omega, by go_num, HN2.out, EX52.out⟩
        case measure => simp [intOf]; omega
    · obtain rfl : k = n := by omega
      have hge : ¬ (k : Int) < (k : Int) := by omega
      have HR : Hid (idxIn l id = -1) := idxIn_none l id (fun j hj => HNO.out j (by rw [← HL.out]; exact hj))
      have HB := Lib.hid (EnvX.bel EK.out)
      clear EK
      go_wp2
      go_ret
      exact ⟨by rw [HR.out]; first | done | rfl, HB.out⟩
set_option maxRecDepth 20000 in
set_option maxHeartbeats 8000000 in
theorem containsIn_any (l : List InR) (id : InR) (A : Option Addr) (n c : Nat) (w : World) (hl : l.length = n) (hn : n ≤ 1000000) (hI : okIns l) (hA : InsIn w w.heap.size A l) (hid : lenI id) :
    Calls Tryd.prog 53 #[.slice A n c, inV id] w fun e w' => e = .returned (.bool (decide (id ∈ l))) ∧ Below w.heap.size w w' := by
  have HIX : Hid (∀ u, Below w.heap.size w u → Calls Tryd.prog 67 #[.slice A n c, inV id] u fun e w' => e = .returned (.int .i64 (idxIn l id)) ∧ Below u.heap.size u w') := fun u hu => indexIn_any l id A n c u hl hn hI (hA.up hu) hid
  have HD := Lib.hid hid
  have HB : Hid (decide (0 ≤ idxIn l id) = decide (id ∈ l)) := decide_eq_decide.2 (idxIn_mem l id)
  have E1 : Hid (EnvX w (w.alloc (.cells (inA id) 51)) [(w.heap.size, Obj.cells (inA id) 51 (0, 0))]) := (EnvX.start w).new _
  generalize idxIn l id = q at *
  clear hl hI hA hid
  unfold inV
  go_enter Tryd.func53, Tryd.ntmps53
  go_upto_region 1 with (fail)
  generalize w.alloc (.cells (inA id) 51) = W at *
  refine wp_region_Hx (w0 := w) [0, 1, 2, 3, 4] [(w.heap.size, Obj.cells (inA id) 51 (0, 0))] rfl E1.out ?_
  refine lexH_phase [0, 1, 2, 3, 4] [] ?_
  have hw1 : EnvX w _ [(w.heap.size, Obj.cells (inA id) 51 (0, 0))] := E1.out
  have hone := @EnvC.one _ _ _ hw1
  (refine wpG_op rfl rfl rfl ?_; intro K hK; go_big_quiet_op; go_big_quiet_on)
  (refine wpG_val (v := inV id) rfl rfl (fun u hu => load_any_op u (box_in hu (List.Mem.head _) HD.out) rfl) ?_ hw1; intro K hK; go_big_quiet_op; go_big_quiet_on)
  (refine wpG_call (f := 67) (args := #[.slice A n c, inV id]) (v := .int .i64 q) rfl rfl rfl Tryd.func67 rfl rfl (fun u hu => HIX.out u (EnvX.bel hu)) ?_ hw1; intro K hK; go_big_quiet_op; go_big_quiet_on)
  (refine wpG_val (v := .bool (decide (id ∈ l))) rfl rfl (fun u hu => geZ_op u HB.out rfl rfl) ?_ hw1; intro K hK; go_big_quiet_op; go_big_quiet_on)
  (refine wpG_op rfl rfl rfl ?_; intro K hK; go_big_quiet_op; go_big_quiet_on)
  clear hone hw1
  refine wpG_nil ?_
  intro u3 E2'
  have EX2 := Lib.hid E2'
  clear E2'
  go_wp2
  go_ret
  exact ⟨rfl, EnvX.bel EX2.out⟩
end Go.Proofs.YtcodmedgkboohaaDoor
