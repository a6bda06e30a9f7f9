/- Part of a proof. -/
import Derived.Test.YtpanpohdnbgdpaaGreatDoorBlockTwicePg
import Derived.Deep.QuietTactic
import Derived.StillTailTactics
namespace Go.Proofs.YtpanpohdnbgdpaaGreatDoor
set_option maxRecDepth 20000
set_option maxHeartbeats 8000000
open Go.RowKit
def KeptA (N : Boxes) (Q : World → Prop) : Prop := ∀ (w0 u : World) (M : Boxes), EnvX w0 u M → (∀ y ∈ N, y ∈ M) → Q u
theorem KeptA.mono {N N' : Boxes} {Q : World → Prop} (h : KeptA N Q) (hN : ∀ y ∈ N, y ∈ N') : KeptA N' Q := fun w0 u M hu hM => h w0 u M hu fun y hy => hM y (hN y hy)
def Hands (f : FuncId) (args : Array Value) (w : World) (R : Value → Boxes → Prop) : Prop :=
  Calls Tryz.prog f args w fun e w' => ∃ x N, e = .returned x ∧ R x N ∧ Below w.heap.size w w' ∧ ∀ y ∈ N, w.heap.size ≤ y.1 ∧ w'.heap[y.1]? = some y.2
def RTxs (l : List TxM) (n : Nat) (x : Value) (N : Boxes) : Prop := ∃ q A c, x = .slice A n c ∧ n ≤ c ∧ c ≤ maxLen ∧ q.length = n ∧ rsT q = rsT l ∧ KeptA N (fun u => TxsIn u A q)
def RBlk (r : BlkR) (x : Value) (N : Boxes) : Prop := ∃ b, x = blkV b ∧ KeptA N (IsBlk r b) ∧ ∃ v, IsBlk r b v
def RTip (r : TipR) (x : Value) (N : Boxes) : Prop := ∃ t, x = tipV t ∧ KeptA N (IsTip r t) ∧ ∃ v, IsTip r t v
theorem kept_ids {l : List (List Int)} {n c : Nat} {A : Option Addr} {N : Boxes} (h : FreshR 23 32 n (l.flatten.map u8v) (.slice A n c) N) (hl : l.length = n) (hI : isIds l) : KeptA N (fun u => IdsIn u u.heap.size A l) :=
 fun _ _ _ hu hN => fresh_idsB h hI (fun y hy => hu.box _ _ (hN y hy)) hl
theorem kept_tots {l : List Tot} {n c : Nat} {A : Option Addr} {N : Boxes} (h : FreshR 56 37 n (l.map totC).flatten (.slice A n c) N) (hl : l.length = n) (hI : okTs l) : KeptA N (fun u => TotsIn u u.heap.size A l) :=
 fun _ _ _ hu hN => fresh_totsB h hl hI (fun y hy => hu.box _ _ (hN y hy))
theorem kept_cells {e : TypeId} {z n c : Nat} {A : Option Addr} {xs : List Value} {N : Boxes} (h : FreshR e z n xs (.slice A n c) N) (hl : xs.length = n * z) : KeptA N (fun u => CellsIn u u.heap.size A xs) :=
 fun _ _ _ hu hN => own_cells (h.own (B := 0) hl (fun y hy => ⟨Nat.zero_le _, hu.box _ _ (hN y hy)⟩))
theorem kept_tx {w : World} {x : TxM} (hx : TxOk w x) {A4 A7 : Option Addr} {c4 c7 : Nat} {N4 N7 N : Boxes} (h4 : FreshR 100 33 x.n1 (x.r.ins.map inC).flatten (.slice A4 x.n1 c4) N4 ∧ x.n1 ≤ c4 ∧ c4 ≤ maxLen) (h7 : FreshR 102 2 x.n2 (x.r.outs.map outC).flatten (.slice A7 x.n2 c7) N7 ∧ x.n2 ≤ c7 ∧ c7 ≤ maxLen)
  (k4 : ∀ y ∈ N4, y ∈ N) (k7 : ∀ y ∈ N7, y ∈ N) : KeptA N (fun u => TxOk u ⟨x.r, A4, x.n1, c4, A7, x.n2, c7⟩) := fun w0 u M hu hN =>
 ⟨hx.l1, h4.2, hx.o1, kept_cells h4.1 (by rw [(rowsIn hx.o1).flat_len, lM, hx.l1]) w0 u M hu (fun y hy => hN y (k4 y hy)), hx.l2, h7.2, hx.o2, kept_cells h7.1 (by rw [(rowsOut _).flat_len, lM, hx.l2]) w0 u M hu (fun y hy => hN y (k7 y hy))⟩
def CopN (l q : List TxM) (i : Nat) (N : Boxes) : Prop := (∀ j, j < i → (q.getD j noTxM).r = (l.getD j noTxM).r ∧ KeptA N (fun u => TxOk u (q.getD j noTxM))) ∧ ∀ j, i ≤ j → q.getD j noTxM = l.getD j noTxM
theorem CopN.step {l q : List TxM} {i : Nat} {N N' : Boxes} {t : TxM} (h : CopN l q i N) (hi : i < q.length) (hr : t.r = (l.getD i noTxM).r) (hk : KeptA N' (fun u => TxOk u t)) (hN : ∀ y ∈ N, y ∈ N') : CopN l (q.set i t) (i + 1) N' := by
 have hg : ∀ j, j ≠ i → (q.set i t).getD j noTxM = q.getD j noTxM := fun j hj => by
  rw [gD, List.getElem?_set_ne (Ne.symm hj), gD]
 have hs : (q.set i t).getD i noTxM = t := by
  rw [gD, List.getElem?_set_self hi]
  rfl
 refine ⟨fun j hj => ?_, fun j hj => ?_⟩
 · by_cases e : j = i
   · subst e
     rw [hs]
     exact ⟨hr, hk⟩
   · rw [hg j e]
     have := h.1 j (by omega)
     exact ⟨this.1, this.2.mono hN⟩
 · rw [hg j (by omega)]
   exact h.2 j (by omega)
theorem CopN.done {l q : List TxM} {N : Boxes} {n : Nat} (h : CopN l q n N) (hl : l.length = n) (hq : q.length = n) : rsT q = rsT l ∧ ∀ t ∈ q, KeptA N (fun u => TxOk u t) := by
 refine ⟨rsT_ext (by rw [hq, hl]) (fun j hj => (h.1 j (by omega)).1), fun t ht => ?_⟩
 obtain ⟨j, hj, rfl⟩ := List.getElem_of_mem ht
 have := (h.1 j (by omega)).2
 rwa [gD, gE hj] at this
def RowX (n c : Nat) (q : List TxM) (cs : Array Value) : Prop := q.length = n ∧ cs.size = c * 2 ∧ cs.toList.take (n * 2) = (q.map txC).flatten
def setX (cs : Array Value) (k : Nat) (t : TxM) : Array Value := (cs.toList.take k ++ txC t ++ cs.toList.drop (k + 2)).toArray
theorem RowX.set {n c i : Nat} {q : List TxM} {cs : Array Value} (h : RowX n c q cs) (hi : i < n) (hc : n ≤ c) (t : TxM) : RowX n c (q.set i t) (setX cs (0 + i * 2) t) := by
 refine ⟨by rw [List.length_set]; exact h.1, ?_, ?_⟩
 · unfold setX
   rw [List.size_toArray]
   exact row_put_len (z := 2) (v := txC t) hi hc rfl (by rw [Array.length_toList]; exact h.2.1)
 · unfold setX
   rw [List.map_set]
   exact row_set (z := 2) (rowsTx q) (by rw [lM]; exact h.1) h.2.2 hi rfl
theorem RowX.room {n c i : Nat} {q : List TxM} {cs : Array Value} (h : RowX n c q cs) (hi : i < n) (hc : n ≤ c) : 0 + i * 2 + 2 ≤ cs.size := by rw [h.2.1]; omega
theorem RowX.get {n c i : Nat} {q : List TxM} {cs : Array Value} (h : RowX n c q cs) (hi : i < n) : (cs.toList.drop (0 + i * 2)).take 2 = txC (q.getD i noTxM) := by
 rw [row_get (z := 2) (rowsTx q) (by rw [lM]; exact h.1) h.2.2 hi, gD, List.getElem?_map, gD, gE (by rw [h.1]; exact hi)]
 rfl
theorem tx_put {cs : Array Value} {k : Nat} (hk : k + 2 ≤ cs.size) (t : TxM) : (Tryz.prog.info? 95).map (·.size) = some (Value.agg (txA t)).cells.size ∧ k + (Value.agg (txA t)).cells.size ≤ cs.size ∧ (Value.agg (txA t)).cells.all (·.oneCell') = true ∧ cs.toList.take k ++ (Value.agg (txA t)).cells.toList ++ cs.toList.drop (k + (Value.agg (txA t)).cells.size) = (setX cs k t).toList :=
 put_factsZ (v := txA t) (old := cs) (cs := setX cs k t) aggTx.size rfl (txA_one _) hk List.toList_toArray
theorem built_tx (r : TxR) (A : Option Addr) (n c : Nat) (A' : Option Addr) (n' c' : Nat) : Tryz.prog.built 95 [(0, .slice A n c), (1, .slice A' n' c')] = some (txA ⟨r, A, n, c, A', n', c'⟩) := by
 show _ = some (#[Value.slice A n c, Value.slice A' n' c'] : Array Value)
 kernel_rfl
theorem fewX_len {r : TxR} (h : fewX r = true) : r.ins.length ≤ 6 ∧ r.outs.length ≤ 6 := by unfold fewX at h; simpa using h
theorem vcopyTxs (l : List TxM) (A : Option Addr) (n c : Nat) (w : World) (hl : l.length = n) (hn : n ≤ 1000000) (hA : TxsIn w A l) (hf : ∀ x ∈ l, fewX x.r = true) : Hands 90 #[.slice A n c] w (RTxs l n) := by
 unfold Hands
 have HL := hD hl
 have HN6 := hD hn
 have HN63 : Hid (n < 9223372036854775808) := by show _ < _; omega
 have HAA := hD hA
 have HFW := hD hf
 have HCL : Hid (∀ u, EnvX w u [] → Calls Tryz.prog 140 #[.slice A n c] u fun e w' => (∃ v, e = .returned v ∧ w'.ownsRow u.heap.size 95 2 v n (l.map txC).flatten) ∧ Below u.heap.size u w') := fun u hu => vcloneX l A n c u hl hn (hA.up (EnvX.bel hu))
 have HCI : Hid (∀ (u : World) (x : TxM), EnvX w u [] → TxOk w x → fewX x.r = true → Calls Tryz.prog 141 #[.slice x.A1 x.n1 x.c1] u fun e w' => (∃ v, e = .returned v ∧ w'.ownsRow u.heap.size 100 33 v x.n1 (x.r.ins.map inC).flatten) ∧ Below u.heap.size u w') := fun u x hu hx hf => vcloneI x.r.ins x.A1 x.n1 x.c1 u hx.l1 (by have := (fewX_len hf).1; rw [hx.l1] at this; omega) hx.o1 (hx.up (EnvX.bel hu)).m1
 have HCO : Hid (∀ (u : World) (x : TxM), EnvX w u [] → TxOk w x → fewX x.r = true → Calls Tryz.prog 142 #[.slice x.A2 x.n2 x.c2] u fun e w' => (∃ v, e = .returned v ∧ w'.ownsRow u.heap.size 102 2 v x.n2 (x.r.outs.map outC).flatten) ∧ Below u.heap.size u w') := fun u x hu hx hf => vcloneO x.r.outs x.A2 x.n2 x.c2 u hx.l2 (by have := (fewX_len hf).2; rw [hx.l2] at this; omega) (hx.up (EnvX.bel hu)).m2
 have E1 : Hid (EnvX w w []) := EnvX.start w
 clear hl hn hA hf
 go_enter Tryz.func90, Tryz.ntmps90
 go_upto_region 1 with (fail)
 refine rgQ [0] [1,2] E1 rfl fun hw => ?_
 refine qo rfl hw ?_
 refine wpG_nil ?_
 refine qr rfl Tryz.func140 (fun u hu => callsR_fresh (HCL.out u (nl hu))) ?_
 rintro x N1 hF hf he2
 obtain ⟨A1, c1, rfl, k1, k2⟩ := FreshR.formR hF
 have HF := hD hF
 have HC1 := hD (And.intro k1 k2)
 have HNB : Hid (∀ y ∈ N1, w.heap.size ≤ y.1) := fun y hy => (hf y hy).1
 clear hF k1 k2
 clear hf
 refine phE [2] [] he2 fun hw => ?_
 refine qo rfl hw ?_
 refine enP fun u5 EX4 => ?_
 go_upto_region 2 with (fail)
 refine rgQ [0,1,2] [] EX4 rfl fun hw => ?_
 refine qo rfl hw ?_
 refine qv rfl (fun u hu => len_op Tryz.underlying31 HN63.out u rfl) hw ?_
 refine qo rfl hw ?_
 refine enP fun u8 EX7 => ?_
 have HST : Hid (∃ q Nx N, q.length = n ∧ FreshR 95 2 n (q.map txC).flatten (.slice A1 n c1) Nx ∧ (∀ y ∈ Nx, w.heap.size ≤ y.1) ∧ (∀ y ∈ N, w.heap.size ≤ y.1 ∧ ∀ z ∈ Nx, y.1 ≠ z.1) ∧ CopN l q 0 N ∧ EnvX w u8 (Nx ++ N)) :=
  ⟨l, N1, [], HL.out, HF.out, HNB.out, (fun y hy => by cases hy), ⟨fun j hj => absurd hj (Nat.not_lt_zero j), fun j _ => rfl⟩, EX7.out⟩
 clear EX7 E1 HF HNB HCL
 go_upto_region 3 with (fail)
 go_loopw [10] (fun iv u => ∃ i : Nat, i ≤ n ∧ iv = .int .i64 (i : Int) ∧ Hid (∃ q Nx N, q.length = n ∧ FreshR 95 2 n (q.map txC).flatten (.slice A1 n c1) Nx ∧ (∀ y ∈ Nx, w.heap.size ≤ y.1) ∧ (∀ y ∈ N, w.heap.size ≤ y.1 ∧ ∀ z ∈ Nx, y.1 ≠ z.1) ∧ CopN l q i N ∧ EnvX w u (Nx ++ N))) (fun iv _ => n - (intOf iv).toNat)
 case atStart => exact ⟨0, by omega, rfl, HST⟩
 case round =>
  obtain ⟨i, hi, rfl, hinv⟩ := hrel
  obtain ⟨q, Nx, N, hq, hF, hB, hN, hCP, hE⟩ := hinv.out
  have EK := hD hE
  have HCP := hD hCP
  have HNN := hD hN
  clear hinv HST hE hCP
  by_cases hlt : i < n
  · have C2 : Hid (decide ((i : Int) < (n : Int)) = true) := decide_eq_true (by omega)
    rcases hF with ⟨g, cap, cs, e1, rfl, hnc, hcm, hsz, hxs⟩ | ⟨_, _, h0, _⟩
    case inr => exact absurd hlt (by rw [h0]; exact Nat.not_lt_zero _)
    cases e1
    have HR : Hid (RowX n c1 q cs) := ⟨hq, hsz, hxs⟩
    have HG : Hid (w.heap.size ≤ g) := hB _ (mS.2 rfl)
    have HNG : Hid (∀ y ∈ N, y.1 ≠ g) := fun y hy => (HNN.out y hy).2 _ (mS.2 rfl)
    have HI := hD hlt
    have hil : i < l.length := by rw [HL.out]; exact hlt
    have hiq : i < q.length := by rw [hq]; exact hlt
    have HIQ := hD hiq
    have HTX : Hid (TxOk w (l.getD i noTxM)) := HAA.out.get hil
    have HFX : Hid (fewX (l.getD i noTxM).r = true) := HFW.out _ (by rw [gD, gE hil]; exact List.getElem_mem hil)
    have hqi : q.getD i noTxM = l.getD i noTxM := HCP.out.2 i (Nat.le_refl _)
    have hgt := HR.out.get hlt
    rw [hqi] at hgt
    obtain ⟨x, hx⟩ : ∃ x, l.getD i noTxM = x := ⟨_, rfl⟩
    rw [hx] at HTX HFX hgt
    have HX := hD hx
    have HGT := hD hgt
    have HRM : Hid (0 + i * 2 + 2 ≤ cs.size) := HR.out.room hlt hnc
    have HCIx : Hid (∀ u, EnvX w u [] → Calls Tryz.prog 141 #[.slice x.A1 x.n1 x.c1] u fun e w' => (∃ v, e = .returned v ∧ w'.ownsRow u.heap.size 100 33 v x.n1 (x.r.ins.map inC).flatten) ∧ Below u.heap.size u w') := fun u hu => HCI.out u x hu HTX.out HFX.out
    have HCOx : Hid (∀ u, EnvX w u [] → Calls Tryz.prog 142 #[.slice x.A2 x.n2 x.c2] u fun e w' => (∃ v, e = .returned v ∧ w'.ownsRow u.heap.size 102 2 v x.n2 (x.r.outs.map outC).flatten) ∧ Below u.heap.size u w') := fun u hu => HCO.out u x hu HTX.out HFX.out
    clear hq hB hN hnc hcm hsz hxs hlt hil hiq hqi hgt hx
    go_upto_region 3 with (fail)
    refine rgQ [0] [] EK rfl fun hw => ?_
    refine qv rfl (fun u hu => ltZ_op u C2.out rfl rfl) hw ?_
    refine enP fun u23 EX22 => ?_
    go_upto_region 4 with (fail)
    refine rgQ [0,1,2] [3,4,5] EX22 rfl fun hw => ?_
    refine qo rfl hw ?_
    refine qv (v := .pointer (some ⟨g, 0 + i * 2, none⟩)) rfl (fun u hu => idxSl0_op Tryz.underlying31 aggTx.size HI.out u rfl rfl) hw ?_
    refine qv rfl (fun u hu => load_any_op u (box_agg aggTx (k := 0 + i * 2) hu mH (txC x) rfl HGT.out) rfl) hw ?_
    refine wpG_nil ?_
    refine qn rfl (new_tx _) fun g5 HG5 he25 => ?_
    refine phE [4] [5] he25 fun hw => ?_
    refine qo rfl hw ?_
    refine wpG_nil ?_
    refine (sh rfl HG5 (infoTx _ (txA_size _)) ((txA_size _).trans (txA_size _).symm) (txA_one _) ?_)
    refine fun _ => enL fun u29 EX28 => ?_
    have HG5G : Hid (g5 ≠ g) := fun h => HG5.out.2 (g, oc cs 95) mH h.symm
    go_upto_region 5 with (fail)
    refine rgK [0,1,2,3,5,6] 5 EX28 rfl (by kernel_rfl) (by kernel_rfl) fun hw => ?_
    refine qw 3 hw ?_
    refine ql rfl mH trivial hw ?_
    refine qf rfl hw ?_
    refine ql rfl mH trivial hw ?_
    refine wpG_nil ?_
    refine anyH_one (i := 4) (by kernel_rfl) (qr rfl Tryz.func141 (fun u hu => callsR_fresh (HCIx.out u (nl hu))) ?_)
    rintro x9 N4 hF hf he31
    obtain ⟨A4, c4, rfl, k1, k2⟩ := FreshR.formR hF
    have HF4 := hD (And.intro hF (And.intro k1 k2))
    have HN4 : Hid (∀ y ∈ N4, w.heap.size ≤ y.1 ∧ y.1 ≠ g) := fun y hy => ⟨(hf y hy).1, fun h => (hf y hy).2 _ (mT mH) h.symm⟩
    clear hF k1 k2
    clear hf
    change anyH _ _ _ _ _ _ _ _ (N4 ++ ((g5, oc (txA x) 95) :: ((g, oc cs 95) :: N)))
    refine anyH_one (i := 7) (by kernel_rfl) (qr rfl Tryz.func142 (fun u hu => callsR_fresh (HCOx.out u (nl hu))) ?_)
    rintro x9 N7 hF hf he32
    obtain ⟨A7, c7, rfl, k1, k2⟩ := FreshR.formR hF
    have HF7 := hD (And.intro hF (And.intro k1 k2))
    have HN7 : Hid (∀ y ∈ N7, w.heap.size ≤ y.1 ∧ y.1 ≠ g) := fun y hy => ⟨(hf y hy).1, fun h => (hf y hy).2 _ (mR (mT mH)) h.symm⟩
    clear hF k1 k2
    have HMM : Hid (∀ y ∈ N7 ++ (N4 ++ ((g5, oc (txA x) 95) :: N)), y ∈ N7 ++ (N4 ++ ((g5, oc (txA x) 95) :: ((g, oc cs 95) :: N))) ∧ y.1 ≠ g) := fun y hy => by
     rcases List.mem_append.1 hy with h | hy
     · exact ⟨mL h, (HN7.out y h).2⟩
     rcases List.mem_append.1 hy with h | hy
     · exact ⟨mR (mL h), (HN4.out y h).2⟩
     rcases List.mem_cons.1 hy with h | h
     · exact ⟨mR (mR (by rw [h]; exact mH)), by rw [h]; exact HG5G.out⟩
     · exact ⟨mR (mR (mT (mT h))), HNG.out y h⟩
    clear hf
    refine phF [8,9] 1 rfl he32 (by kernel_rfl) fun hw => ?_
    refine qv (v := .agg (txA ⟨x.r, A4, x.n1, c4, A7, x.n2, c7⟩)) rfl (fun u hu => buildA_op u (built_tx x.r A4 x.n1 c4 A7 x.n2 c7)) hw ?_
    refine qv (v := .pointer (some ⟨g, 0 + i * 2, none⟩)) rfl (fun u hu => idxSl0_op Tryz.underlying31 aggTx.size HI.out u rfl rfl) hw ?_
    refine wpG_nil ?_
    refine anyH_one (i := 10) (by kernel_rfl) (hOp_putAt rfl (g) (0 + i * 2) (.agg (txA ⟨x.r, A4, x.n1, c4, A7, x.n2, c7⟩)) rfl rfl HG.out 95 (cs) (setX cs (0 + i * 2) ⟨x.r, A4, x.n1, c4, A7, x.n2, c7⟩) (mR (mR (mT mH))) (tx_put HRM.out ⟨x.r, A4, x.n1, c4, A7, x.n2, c7⟩).1 (tx_put HRM.out ⟨x.r, A4, x.n1, c4, A7, x.n2, c7⟩).2.1 (tx_put HRM.out ⟨x.r, A4, x.n1, c4, A7, x.n2, c7⟩).2.2.1 (tx_put HRM.out ⟨x.r, A4, x.n1, c4, A7, x.n2, c7⟩).2.2.2 ((g, oc (setX cs (0 + i * 2) ⟨x.r, A4, x.n1, c4, A7, x.n2, c7⟩) 95) :: (N7 ++ (N4 ++ ((g5, oc (txA x) 95) :: N)))) (mA ⟨.inl rfl, fun y hy => .inr (HMM.out y hy)⟩) ?_)
    intro he34
    refine enM (by kernel_rfl) fun u36 EX35 => ?_
    have HK7 : Hid (KeptA (N7 ++ (N4 ++ ((g5, oc (txA x) 95) :: N))) (fun u => TxOk u ⟨x.r, A4, x.n1, c4, A7, x.n2, c7⟩)) := kept_tx HTX.out HF4.out HF7.out (fun y hy => mR (mL hy)) (fun y hy => mL hy)
    have HCS : Hid (CopN l (q.set i ⟨x.r, A4, x.n1, c4, A7, x.n2, c7⟩) (i + 1) (N7 ++ (N4 ++ ((g5, oc (txA x) 95) :: N)))) := HCP.out.step HIQ.out (by rw [HX.out]) HK7.out (fun y hy => mR (mR (mT hy)))
    have HRS := hD (HR.out.set HI.out HC1.out.1 ⟨x.r, A4, x.n1, c4, A7, x.n2, c7⟩)
    have HLO : Hid (∀ y ∈ N7 ++ (N4 ++ ((g5, oc (txA x) 95) :: N)), w.heap.size ≤ y.1) := fun y hy => by
     rcases List.mem_append.1 hy with h | hy
     · exact (HN7.out y h).1
     rcases List.mem_append.1 hy with h | hy
     · exact (HN4.out y h).1
     rcases List.mem_cons.1 hy with h | h
     · rw [h]; exact HG5.out.1
     · exact (HNN.out y h).1
    have HNX : Hid (∃ q Nx N, q.length = n ∧ FreshR 95 2 n (q.map txC).flatten (.slice (some ⟨g, 0, none⟩) n c1) Nx ∧ (∀ y ∈ Nx, w.heap.size ≤ y.1) ∧ (∀ y ∈ N, w.heap.size ≤ y.1 ∧ ∀ z ∈ Nx, y.1 ≠ z.1) ∧ CopN l q (i + 1) N ∧ EnvX w u36 (Nx ++ N)) :=
     ⟨_, [(g, oc (setX cs (0 + i * 2) ⟨x.r, A4, x.n1, c4, A7, x.n2, c7⟩) 95)], _, HRS.out.1, .inl ⟨g, c1, _, rfl, rfl, HC1.out.1, HC1.out.2, HRS.out.2.1, HRS.out.2.2⟩, (fun y hy => by cases mS.1 hy; exact HG.out), (fun y hy => ⟨HLO.out y hy, fun z hz => by cases mS.1 hz; exact (HMM.out y hy).2⟩), HCS.out, EX35.out⟩
    have hii := HI.out
    have hn := HN63.out
    go_wp2
    go_roundw
    case rel => exact ⟨i + 1, by omega, by go_num, HNX⟩
    case measure => simp [intOf]; omega
  · obtain rfl : i = n := by omega
    have C2 : Hid (decide ((i : Int) < (i : Int)) = false) := decide_eq_false (by omega)
    have HD := hD (HCP.out.done HL.out hq)
    have HFF := hD hF
    have HBB := hD hB
    have HQ := hD hq
    clear hF hB hN hq
    go_upto_region 3 with (fail)
    refine rgQ [0] [] EK rfl fun hw => ?_
    refine qv rfl (fun u hu => ltZ_op u C2.out rfl rfl) hw ?_
    refine enP fun u303 EX302 => ?_
    go_upto_region 7 with (fail)
    refine rgQ [0,1] [] EX302 rfl fun hw => ?_
    refine qw 2 hw ?_
    refine enP fun u306 EX305 => ?_
    have HBE := hD (EnvX.bel EX305.out)
    have HBX := hD (fun (y : Nat × Obj) (hy : y ∈ Nx ++ N) => EnvX.box EX305.out _ _ hy)
    have HRX : Hid (RTxs l i (.slice A1 i c1) (Nx ++ N)) := ⟨q, A1, c1, rfl, HC1.out.1, HC1.out.2, HQ.out, HD.out.1, fun w0 u M hu hM => ⟨kept_cells HFF.out (by rw [(rowsTx q).flat_len, lM, HQ.out]) w0 u M hu (fun y hy => hM y (mL hy)), fun t ht => (HD.out.2 t ht) w0 u M hu (fun y hy => hM y (mR hy))⟩⟩
    go_wp2
    go_returns
    exact ⟨_, _, rfl, HRX.out, HBE.out, fun y hy => ⟨(List.mem_append.1 hy).elim (fun h => HBB.out y h) (fun h => (HNN.out y h).1), HBX.out y hy⟩⟩
theorem vcopyBlock (b : BlkM) (w : World) (kb : BlkOk w b) (mb : midBlk b) : Hands 52 #[blkV b] w (RBlk b.r) := by
 unfold Hands
 have HOB : Hid (okHd b.h) := kb.h
 have HLE : Hid (w.heap.size ≤ w.heap.size + 1) := by show _ ≤ _; omega
 have HNB : Hid (lenH noBlkM.h) := len_no
 have l1 := kb.l1
 have m1 := mb.1
 have l2 := kb.l2
 have m2 := mb.2.1
 have HIL := hD (And.intro kb.l1 kb.o1)
 have HCL : Hid (∀ u, EnvX w u [] → Calls Tryz.prog 108 #[.slice b.A1 b.n1 b.c1] u fun e w' => (∃ v, e = .returned v ∧ w'.ownsRow u.heap.size 23 32 v b.n1 ((b.l).flatten.map u8v)) ∧ Below u.heap.size u w') := fun u hu => by have h := lclone_any b.l b.A1 b.n1 b.c1 u kb.l1 (by omega) kb.o1 (kb.m1.up (EnvX.bel hu)); unfold OwnI at h; rw [kb.l1] at h; exact h
 have HCX : Hid (∀ u, EnvX w u [] → Hands 90 #[.slice b.A2 b.n2 b.c2] u (RTxs b.t b.n2)) := fun u hu => vcopyTxs b.t b.A2 b.n2 b.c2 u kb.l2 (by omega) (kb.m2.up (EnvX.bel hu)) mb.2.2
 have E1 : Hid (EnvX w ((w.alloc (.cells (blkA b) 33)).alloc (.cells (blkA noBlkM) 33)) [(w.heap.size + 1, oc (blkA noBlkM) 33), (w.heap.size, oc (blkA b) 33)]) := (EnvX.start w).two _ _
 clear kb mb l1 m1 l2 m2
 unfold blkV
 go_enter Tryz.func52, Tryz.ntmps52
 go_upto_region 1 with (fail)
 rw [← zero_blkA]
 generalize (w.alloc (.cells (blkA b) 33)).alloc (.cells (blkA noBlkM) 33) = W at *
 refine rgK [0,1,2,3,5,6] 4 E1 rfl (by kernel_rfl) (by kernel_rfl) fun hw => ?_
 refine qf rfl hw ?_
 refine qv rfl (fun u hu => load_any_op u (loads_hd HOB.out.len (box_blk_hd hu (mT mH) HOB.out.len)).1 rfl) hw ?_
 refine qf rfl hw ?_
 refine ql rfl (mT mH) HOB.out.len hw ?_
 refine qf rfl hw ?_
 refine ql rfl (mT mH) HOB.out.len hw ?_
 refine wpG_nil ?_
 refine anyH_one (i := 4) (by kernel_rfl) (qr rfl Tryz.func108 (fun u hu => callsR_fresh (HCL.out u (nl hu))) ?_)
 rintro x N4 hF hf he2
 obtain ⟨A4, c4, rfl, k1, k2⟩ := FreshR.formR hF
 have HF4 := hD (And.intro hF (And.intro k1 k2))
 have HN4 : Hid (∀ y ∈ N4, w.heap.size ≤ y.1 ∧ y.1 ≠ w.heap.size + 1) := fun y hy => ⟨(hf y hy).1, fun h => (hf y hy).2 _ mH h.symm⟩
 clear hF k1 k2
 clear hf
 change anyH _ _ _ _ _ _ _ _ (N4 ++ ((w.heap.size + 1, oc (blkA noBlkM) 33) :: ((w.heap.size, oc (blkA b) 33) :: [])))
 refine anyH_one (i := 7) (by kernel_rfl) (qr rfl Tryz.func90 (fun u hu => HCX.out u (nl hu)) ?_)
 rintro x N7 hF hf he3
 obtain ⟨q7, A7, c7, rfl, k1, k2, kq, kr, kk⟩ := hF
 have HK1 := hD k1
 have HK2 := hD k2
 have HKQ := hD kq
 have HKR := hD kr
 have HKK := hD kk
 have HN7 : Hid (∀ y ∈ N7, w.heap.size ≤ y.1 ∧ y.1 ≠ w.heap.size + 1) := fun y hy => ⟨(hf y hy).1, fun h => (hf y hy).2 _ (mR mH) h.symm⟩
 clear k1 k2 kq kr kk
 clear hf
 refine phF [8] 1 rfl he3 (by kernel_rfl) fun hw => ?_
 refine qv (v := .agg (blkA ⟨b.h, b.l, A4, b.n1, c4, q7, A7, b.n2, c7⟩)) rfl (fun u hu => buildA_op u (built_blk (b := ⟨b.h, b.l, A4, b.n1, c4, q7, A7, b.n2, c7⟩) HOB.out.len)) hw ?_
 refine wpG_nil ?_
 refine anyH_one (i := 9) (by kernel_rfl) (hOp_store rfl (w.heap.size + 1) (blkA ⟨b.h, b.l, A4, b.n1, c4, q7, A7, b.n2, c7⟩) rfl rfl HLE.out 33 ((blkA noBlkM)) (mR (mR mH)) (infoBlk _ (blkA_size (b := ⟨b.h, b.l, A4, b.n1, c4, q7, A7, b.n2, c7⟩) HOB.out.len)) (blk_sizes (b := ⟨b.h, b.l, A4, b.n1, c4, q7, A7, b.n2, c7⟩) HOB.out.len) (blkA_one _) ((w.heap.size + 1, oc (blkA ⟨b.h, b.l, A4, b.n1, c4, q7, A7, b.n2, c7⟩) 33) :: (N7 ++ (N4 ++ []))) (mA ⟨.inl rfl, fun y hy => .inr ((List.mem_append.1 hy).elim (fun h => ⟨mL h, (HN7.out y h).2⟩) (fun h => ⟨mR (mL (by simpa using h)), (HN4.out y (by simpa using h)).2⟩))⟩) ?_)
 intro he5
 refine enM (by kernel_rfl) fun u7 EX6 => ?_
 have HIS : Hid (∀ w0 u M, EnvX w0 u M → (∀ y ∈ N7 ++ N4, y ∈ M) → IsBlk b.r ⟨b.h, b.l, A4, b.n1, c4, q7, A7, b.n2, c7⟩ u) := fun w0 u M hu hM => ⟨by show BlkR.mk b.h b.l (rsT q7) = BlkR.mk b.h b.l (rsT b.t); rw [HKR.out], ⟨HOB.out, HIL.out.1, HF4.out.2, HIL.out.2, kept_ids HF4.out.1 HIL.out.1 HIL.out.2 w0 u M hu (fun y hy => hM y (mR hy)), HKQ.out, ⟨HK1.out, HK2.out⟩, HKK.out w0 u M hu (fun y hy => hM y (mL hy))⟩⟩
 have HBX : Hid (∀ y ∈ N7 ++ N4, y ∈ ((w.heap.size + 1, oc (blkA ⟨b.h, b.l, A4, b.n1, c4, q7, A7, b.n2, c7⟩) 33) :: (N7 ++ (N4 ++ [])))) := fun y hy => mT (by simpa using hy)
 have HEX := hD EX6.out
 have HFR : Hid (∀ y ∈ N7 ++ N4, w.heap.size ≤ y.1 ∧ u7.heap[y.1]? = some y.2) := fun y hy => ⟨(List.mem_append.1 hy).elim (fun h => (HN7.out y h).1) (fun h => (HN4.out y h).1), EnvX.box HEX.out _ _ (HBX.out y hy)⟩
 have Q0 := hD (EnvX.box EX6.out _ _ mH)
 have HBEL := hD EX6.out.bel
 go_wp2_with ((with_reducible refine bodyPost_ret (v := .agg (blkA ⟨b.h, b.l, A4, b.n1, c4, q7, A7, b.n2, c7⟩)) ?_ ?_ ?_); (exact results_cell_row (p := 2) (ty := 33) Tryz.results52 _ _ (w.heap.size + 1) 33 (blkA ⟨b.h, b.l, A4, b.n1, c4, q7, A7, b.n2, c7⟩) (0, 0) _ rfl Q0.out Tryz.underlying33 rfl (infoBlk _ (blkA_size (b := ⟨b.h, b.l, A4, b.n1, c4, q7, A7, b.n2, c7⟩) HOB.out.len))); (rfl))
 first | exact ⟨_, N7 ++ N4, rfl, ⟨⟨b.h, b.l, A4, b.n1, c4, q7, A7, b.n2, c7⟩, rfl, HIS.out, _, HIS.out _ _ _ HEX.out HBX.out⟩, HBEL.out, HFR.out⟩ | exact ⟨N7 ++ N4, ⟨⟨b.h, b.l, A4, b.n1, c4, q7, A7, b.n2, c7⟩, rfl, HIS.out, _, HIS.out _ _ _ HEX.out HBX.out⟩, HBEL.out, fun a b hy => HFR.out (a, b) hy⟩
theorem vcopyTip (t : TipM) (w : World) (kt : TipOk w t) (mt : midTip t) : Hands 51 #[tipV t] w (RTip t.r) := by
 unfold Hands
 have HLT : Hid (lenH t.b.h) := kt.b.h.len
 have HLE : Hid (w.heap.size ≤ w.heap.size + 1) := by show _ ≤ _; omega
 have l1 := kt.l3
 have m1 := mt.2.1
 have l2 := kt.l4
 have m2 := mt.2.2.1
 have HP := hD (And.intro kt.l3 kt.o3)
 have HC := hD (And.intro kt.l4 kt.o4)
 have HCB : Hid (∀ u, EnvX w u [] → Hands 52 #[blkV t.b] u (RBlk t.b.r)) := fun u hu => vcopyBlock t.b u (kt.b.up (EnvX.bel hu)) ⟨mt.1, mt.2.2.2⟩
 have HCP : Hid (∀ u, EnvX w u [] → Calls Tryz.prog 67 #[.slice t.A3 t.n3 t.c3] u fun e w' => (∃ v, e = .returned v ∧ w'.ownsRow u.heap.size 56 37 v t.n3 ((t.p.map totC).flatten)) ∧ Below u.heap.size u w') := fun u hu => mclone_any t.p t.A3 t.n3 t.c3 u kt.l3 (by omega) kt.o3 (CellsIn.up kt.m3 (EnvX.bel hu))
 have HCC : Hid (∀ u, EnvX w u [] → Calls Tryz.prog 92 #[.slice t.A4 t.n4 t.c4] u fun e w' => (∃ v, e = .returned v ∧ w'.ownsRow u.heap.size 104 35 v t.n4 ((t.c.map coC).flatten)) ∧ Below u.heap.size u w') := fun u hu => pclone_any t.c t.A4 t.n4 t.c4 u kt.l4 (by omega) kt.o4 (CellsIn.up kt.m4 (EnvX.bel hu))
 have E1 : Hid (EnvX w ((w.alloc (.cells (tipA t) 37)).alloc (.cells (tipA noTipM) 37)) [(w.heap.size + 1, oc (tipA noTipM) 37), (w.heap.size, oc (tipA t) 37)]) := (EnvX.start w).two _ _
 clear kt mt l1 m1 l2 m2
 unfold tipV
 go_enter Tryz.func51, Tryz.ntmps51
 go_upto_region 1 with (fail)
 rw [← zero_tipA]
 generalize (w.alloc (.cells (tipA t) 37)).alloc (.cells (tipA noTipM) 37) = W at *
 refine rgK [0,1,3,4,6,7] 5 E1 rfl (by kernel_rfl) (by kernel_rfl) fun hw => ?_
 refine qf rfl hw ?_
 refine ql rfl (mT mH) HLT.out hw ?_
 refine qf rfl hw ?_
 refine ql rfl (mT mH) HLT.out hw ?_
 refine qf rfl hw ?_
 refine ql rfl (mT mH) HLT.out hw ?_
 refine wpG_nil ?_
 refine anyH_one (i := 2) (by kernel_rfl) (qr rfl Tryz.func52 (fun u hu => HCB.out u (nl hu)) ?_)
 rintro x N2 hF hf he2
 obtain ⟨b2, rfl, kk, kv⟩ := hF
 have HKK := hD kk
 have HKV := hD kv
 have HN2 : Hid (∀ y ∈ N2, w.heap.size ≤ y.1 ∧ y.1 ≠ w.heap.size + 1) := fun y hy => ⟨(hf y hy).1, fun h => (hf y hy).2 _ mH h.symm⟩
 clear kk kv
 have HLB : Hid (lenH b2.h) := by obtain ⟨v, hv⟩ := HKV.out; exact hv.2.h.len
 clear hf
 change anyH _ _ _ _ _ _ _ _ (N2 ++ ((w.heap.size + 1, oc (tipA noTipM) 37) :: ((w.heap.size, oc (tipA t) 37) :: [])))
 refine anyH_one (i := 5) (by kernel_rfl) (qr rfl Tryz.func67 (fun u hu => callsR_fresh (HCP.out u (nl hu))) ?_)
 rintro x N5 hF hf he3
 obtain ⟨A5, c5, rfl, k1, k2⟩ := FreshR.formR hF
 have HF5 := hD (And.intro hF (And.intro k1 k2))
 have HN5 : Hid (∀ y ∈ N5, w.heap.size ≤ y.1 ∧ y.1 ≠ w.heap.size + 1) := fun y hy => ⟨(hf y hy).1, fun h => (hf y hy).2 _ (mR mH) h.symm⟩
 clear hF k1 k2
 clear hf
 change anyH _ _ _ _ _ _ _ _ (N5 ++ (N2 ++ ((w.heap.size + 1, oc (tipA noTipM) 37) :: ((w.heap.size, oc (tipA t) 37) :: []))))
 refine anyH_one (i := 8) (by kernel_rfl) (qr rfl Tryz.func92 (fun u hu => callsR_fresh (HCC.out u (nl hu))) ?_)
 rintro x N8 hF hf he4
 obtain ⟨A8, c8, rfl, k1, k2⟩ := FreshR.formR hF
 have HF8 := hD (And.intro hF (And.intro k1 k2))
 have HN8 : Hid (∀ y ∈ N8, w.heap.size ≤ y.1 ∧ y.1 ≠ w.heap.size + 1) := fun y hy => ⟨(hf y hy).1, fun h => (hf y hy).2 _ (mR (mR mH)) h.symm⟩
 clear hF k1 k2
 clear hf
 refine phF [9] 1 rfl he4 (by kernel_rfl) fun hw => ?_
 refine qv (v := .agg (tipA ⟨b2, t.p, A5, t.n3, c5, t.c, A8, t.n4, c8⟩)) rfl (fun u hu => buildA_op u (built_tip (t := ⟨b2, t.p, A5, t.n3, c5, t.c, A8, t.n4, c8⟩) HLB.out)) hw ?_
 refine wpG_nil ?_
 refine anyH_one (i := 10) (by kernel_rfl) (hOp_store rfl (w.heap.size + 1) (tipA ⟨b2, t.p, A5, t.n3, c5, t.c, A8, t.n4, c8⟩) rfl rfl HLE.out 37 ((tipA noTipM)) (mR (mR (mR mH))) (infoTip _ (tipA_size (t := ⟨b2, t.p, A5, t.n3, c5, t.c, A8, t.n4, c8⟩) HLB.out)) (tip_sizes (t := ⟨b2, t.p, A5, t.n3, c5, t.c, A8, t.n4, c8⟩) HLB.out) (tipA_one _) ((w.heap.size + 1, oc (tipA ⟨b2, t.p, A5, t.n3, c5, t.c, A8, t.n4, c8⟩) 37) :: (N8 ++ (N5 ++ (N2 ++ [])))) (mA ⟨.inl rfl, fun y hy => .inr ((List.mem_append.1 hy).elim (fun h => ⟨mL h, (HN8.out y h).2⟩) (fun hy => (List.mem_append.1 hy).elim (fun h => ⟨mR (mL h), (HN5.out y h).2⟩) (fun h => ⟨mR (mR (mL (by simpa using h))), (HN2.out y (by simpa using h)).2⟩)))⟩) ?_)
 intro he6
 refine enM (by kernel_rfl) fun u8 EX7 => ?_
 have HIS : Hid (∀ w0 u M, EnvX w0 u M → (∀ y ∈ N8 ++ (N5 ++ N2), y ∈ M) → IsTip t.r ⟨b2, t.p, A5, t.n3, c5, t.c, A8, t.n4, c8⟩ u) := fun w0 u M hu hM => by
  have hb := HKK.out w0 u M hu (fun y hy => hM y (mR (mR hy)))
  exact ⟨by show TipR.mk b2.r t.p t.c = TipR.mk t.b.r t.p t.c; rw [hb.1], ⟨hb.2, HP.out.1, HF5.out.2, HP.out.2, kept_tots HF5.out.1 HP.out.1 HP.out.2 w0 u M hu (fun y hy => hM y (mR (mL hy))), HC.out.1, HF8.out.2, HC.out.2, kept_cells HF8.out.1 (by rw [flat35 HC.out.2.lens, HC.out.1]) w0 u M hu (fun y hy => hM y (mL hy))⟩⟩
 have HBX : Hid (∀ y ∈ N8 ++ (N5 ++ N2), y ∈ ((w.heap.size + 1, oc (tipA ⟨b2, t.p, A5, t.n3, c5, t.c, A8, t.n4, c8⟩) 37) :: (N8 ++ (N5 ++ (N2 ++ []))))) := fun y hy => mT (by simpa using hy)
 have HEX := hD EX7.out
 have HFR : Hid (∀ y ∈ N8 ++ (N5 ++ N2), w.heap.size ≤ y.1 ∧ u8.heap[y.1]? = some y.2) := fun y hy => ⟨(List.mem_append.1 hy).elim (fun h => (HN8.out y h).1) (fun hy => (List.mem_append.1 hy).elim (fun h => (HN5.out y h).1) (fun h => (HN2.out y h).1)), EnvX.box HEX.out _ _ (HBX.out y hy)⟩
 have Q0 := hD (EnvX.box EX7.out _ _ mH)
 have HBEL := hD EX7.out.bel
 go_wp2_with ((with_reducible refine bodyPost_ret (v := .agg (tipA ⟨b2, t.p, A5, t.n3, c5, t.c, A8, t.n4, c8⟩)) ?_ ?_ ?_); (exact results_cell_row (p := 2) (ty := 37) Tryz.results51 _ _ (w.heap.size + 1) 37 (tipA ⟨b2, t.p, A5, t.n3, c5, t.c, A8, t.n4, c8⟩) (0, 0) _ rfl Q0.out Tryz.underlying37 rfl (infoTip _ (tipA_size (t := ⟨b2, t.p, A5, t.n3, c5, t.c, A8, t.n4, c8⟩) HLB.out))); (rfl))
 first | exact ⟨_, N8 ++ (N5 ++ N2), rfl, ⟨⟨b2, t.p, A5, t.n3, c5, t.c, A8, t.n4, c8⟩, rfl, HIS.out, _, HIS.out _ _ _ HEX.out HBX.out⟩, HBEL.out, HFR.out⟩ | exact ⟨N8 ++ (N5 ++ N2), ⟨⟨b2, t.p, A5, t.n3, c5, t.c, A8, t.n4, c8⟩, rfl, HIS.out, _, HIS.out _ _ _ HEX.out HBX.out⟩, HBEL.out, fun a b hy => HFR.out (a, b) hy⟩
theorem vleafOf_any (id : List Int) (w : World) (hid : isId id) (ht : Tables w) :
  Rz 76 #[idv id] w (idv (leafT id)) := by
 unfold Rz
 have HSR : Hid (((arrB 32 id).toList.drop 0).take (id.map u8v).length = id.map u8v) := id_src hid.1
 have HLF : Hid (∀ u, Below w.heap.size w u → Bytes u u.heap.size (some ⟨w.heap.size, 0, none⟩) id → Calls Tryz.prog 130 #[.slice (some ⟨w.heap.size, 0, none⟩) 32 32] u fun e w' => e = .returned (idv (leafT id)) ∧ Below u.heap.size u w') := fun u hu hb => leaf_any _ 32 32 id u hid.1 (by omega) hb hid.2 (ht.below hu)
 have E1 : Hid (EnvX w ((w.alloc (.cells (arrB 32 id) 23)).alloc (.cells (arrB 32 []) 23)) [(w.heap.size + 1, oc (arrB 32 []) 23), (w.heap.size, oc (arrB 32 id) 23)]) := (EnvX.start w).two _ _
 have hlf : (leafT id).length = 32 := sumL_len _
 generalize leafT id = lf at *
 have HZ : Hid ((arrB 32 lf).size = 32) := arrB_size _ _ (by rw [hlf]; omega)
 clear hid ht hlf
 unfold idv
 go_enter Tryz.func76, Tryz.ntmps76
 go_upto_region 1 with (fail)
 rw [zero_cells]
 generalize (w.alloc (.cells (arrB 32 id) 23)).alloc (.cells (arrB 32 []) 23) = W at *
 refine rgQ [0,1] [2] E1 rfl fun hw => ?_
 refine qv (v := .slice (some ⟨w.heap.size, 0, none⟩) 32 32) rfl (fun u hu => sliceArr_op u rfl) hw ?_
 refine qc rfl Tryz.func130 (fun u hu => HLF.out u (EnvX.bel hu) (bytes_srcI (EnvX.lt hu (mT mH)) (src_box hu (mT mH) HSR.out))) hw ?_
 refine wpG_nil ?_
 refine (so rfl (Nat.le_succ _) mH (info26 _ HZ.out) ((arrB_size _ _ (by simp)).trans HZ.out.symm) (arrB_one _ _) ?_)
 refine fun _ => enL fun u4 EX3 => ?_
 have Q0 := hD (EnvX.box EX3.out _ _ mH)
 have HBEL := hD EX3.out.bel
 clear EX3
 go_wp2_with ((with_reducible refine bodyPost_ret (v := .agg (arrB 32 lf)) ?_ ?_ ?_); (exact results_cell_row (p := 2) (ty := 23) Tryz.results76 _ _ (w.heap.size + 1) 23 (arrB 32 lf) (0, 0) _ rfl Q0.out Tryz.underlying23 rfl (info26 _ HZ.out)); (rfl))
 first | exact HBEL.out | exact ⟨rfl, HBEL.out⟩
theorem veach_any (l : List (List Int)) (A : Option Addr) (n c : Nat) (w : World) (hl : l.length = n) (hn : n ≤ 1000000) (hnc : n ≤ c) (hcm : c ≤ maxLen) (hI : isIds l) (hA : IdsIn w w.heap.size A l) (ht : Tables w) :
  Calls Tryz.prog 75 #[.slice A n c, .func (.func 76) #[] #[]] w fun e w' => (∃ v, e = .returned v ∧ OwnI w' w.heap.size v (leavesL l)) ∧ Below w.heap.size w w' := by
 have HL := hD hl
 have HIA := hD (And.intro hI hA)
 have HTT := hD ht
 have HN6 : Hid (n ≤ 1000000) := hn
 have HN63 : Hid (n < 9223372036854775808) := by show _ < _; omega
 have HNM : Hid (n ≤ maxLen) := Nat.le_trans hnc hcm
 have E1 : Hid (EnvX w w []) := EnvX.start w
 clear hl hI hA ht hnc hcm
 go_enter Tryz.func75, Tryz.ntmps75
 go_upto_region 1 with (fail)
 refine rgQ [0,1] [2,3] E1 rfl fun hw => ?_
 refine qo rfl hw ?_
 refine qv rfl (fun u hu => len_op Tryz.underlying30 HN63.out u rfl) hw ?_
 refine wpG_nil ?_
 refine (hOp_fresh (R := fun v N => ∃ g cur, v = .slice (some ⟨g, 0, none⟩) 0 n ∧ N = [(g, oc cur 23)] ∧ cur.size = n * 32) (M0 := []) rfl rfl (fun _ h => h) (fun u hu => FAt_makeI HN6.out rfl u) ?_)
 rintro _ _ ⟨gm, cm, rfl, rfl, hcm⟩ hf he2; intro K' hK'; go_big_quiet_op; go_big_quiet_on
 have HCM := hD hcm
 have HGM := hD (hf _ (mS.2 rfl))
 clear hcm
 clear hf
 refine phE [3] [] he2 fun hw => ?_
 refine qo rfl hw ?_
 refine enP fun u5 EX4 => ?_
 go_upto_region 2 with (fail)
 refine rgQ [0,1,2] [] EX4 rfl fun hw => ?_
 refine qo rfl hw ?_
 refine qv rfl (fun u hu => len_op Tryz.underlying30 HN63.out u rfl) hw ?_
 refine qo rfl hw ?_
 refine enP fun u8 EX7 => ?_
 have HINV : Hid (OwnI u8 w.heap.size (.slice (some ⟨gm, 0, none⟩) 0 n) (leavesL (l.take 0)) ∧ Below w.heap.size w u8) := by
  refine ⟨?_, EnvX.bel EX7.out⟩
  have hF : FreshI [] (.slice (some ⟨gm, 0, none⟩) 0 n) [(gm, oc cm 23)] := .inl ⟨gm, n, cm, rfl, rfl, Nat.zero_le _, HNM.out, HCM.out, rfl⟩
  exact hF.own (fun y hy => by cases hy) (fun y hy => by cases mS.1 hy; exact ⟨HGM.out.1, EnvX.box EX7.out _ _ mH⟩)
 clear EX7 E1 HCM HGM HNM
 go_upto_region 3 with (fail)
 go_loopw [5, 13] (fun v iv u => ∃ k : Nat, k ≤ n ∧ iv = .int .i64 (k : Int) ∧ Hid (OwnI u w.heap.size v (leavesL (l.take k)) ∧ Below w.heap.size w u)) (fun _ iv _ => n - (intOf iv).toNat)
 case atStart => exact ⟨0, by omega, rfl, HINV⟩
 case round =>
  obtain ⟨k, hk, rfl, hinv⟩ := hrel
  obtain ⟨hO, hB⟩ := hinv.out
  clear hinv HINV
  by_cases hlt : k < n
  · have hlt2 : (k : Int) < (n : Int) := by omega
    have hkl : k < l.length := by rw [HL.out]; exact hlt
    obtain ⟨N, hF, hN⟩ := hO.fresh
    have HF := hD hF
    have HNB : Hid (∀ y ∈ N, w.heap.size ≤ y.1) := fun y hy => (hN y hy).1
    have EK : Hid (EnvX w wr (N ++ [])) := ⟨hB, fun g o hm => (hN (g, o) (by rwa [List.append_nil] at hm)).2.1⟩
    obtain ⟨ad, rfl, -⟩ := HIA.out.2.load HIA.out.1 hkl
    have HLD : Hid (∀ u, Below w.heap.size w u → (loadVar 23 (ad.add (k * 32))).run Tryz.prog u = .ok (idv (l.getD k [])) u) := fun u hu => by
     obtain ⟨ad2, e, h⟩ := (HIA.out.2.up hu).load HIA.out.1 hkl
     cases e
     exact h
    have hst := lleaves_step hkl
    have hQl : (leavesL (l.take k)).length = k := by rw [leavesL_len, List.length_take]; omega
    have HX : Hid (isId (l.getD k [])) := HIA.out.1.get hkl
    have HLF : Hid (Rb w 76 #[idv (l.getD k [])] (idv (leafT (l.getD k [])))) := fun u hu => vleafOf_any _ u HX.out (HTT.out.below hu)
    have HQ : Hid (isIds (leavesL (l.take k)) ∧ (leavesL (l.take k)).length ≤ 1000000) := ⟨leavesL_ids _, by omega⟩
    have HKN := hD hlt
    have HST := hD hst
    clear hO hB hF hN hst hQl hkl hlt
    generalize leavesL (l.take k) = Q at *
    generalize l.getD k [] = x at *
    have HLX : Hid ((leafT x).length = 32) := sumL_len _
    go_upto_region 4 with (fail)
    refine rgQ [0,1] [2,3] EK rfl fun hw => ?_
    refine qv rfl (fun u hu => idxSl_op Tryz.underlying30 aggIdT.size HKN.out u rfl rfl) hw ?_
    refine qv rfl (fun u hu => load_any_op u (HLD.out u (EnvX.bel hu)) rfl) hw ?_
    refine wpG_nil ?_
    refine qn rfl (new_id _) fun g7 HG7 he10 => ?_
    change lexH _ _ _ _ _ _ ((g7, oc (arrB 32 []) 23) :: (N ++ []))
    refine (sh rfl HG7 (info26 _ (arrB_size _ _ (by rw [HX.out.1]; omega))) ((arrB_size _ _ (by simp)).trans (arrB_size _ _ (by rw [HX.out.1]; omega)).symm) (arrB_one _ _) ?_)
    refine fun _ => enL fun u13 EX12 => ?_
    go_upto_region 5 with (fail)
    refine rgP [0,1,2,3] [4,5,6] EX12 rfl ?_; intro hw14 hone
    iterate 2 refine qo rfl ⟨_, hw14⟩ ?_
    refine qv rfl (fun u hu => load_run_op u (box_load hu mH HX.out.1) rfl) ⟨_, hw14⟩ ?_
    (refine wpG_callV (f := 76) (args := #[idv x]) (caps := #[]) (all := #[idv x]) (v := idv (leafT x)) rfl rfl rfl rfl rfl Tryz.func76 rfl rfl (fun u hu => HLF.out u (EnvX.bel hu)) ?_ hw14; intro K hK; go_big_quiet_op; go_big_quiet_on)
    clear hone hw14
    refine wpG_nil ?_
    refine (hOp_fresh (R := BuiltI (leafT x)) (M0 := ((g7, oc (arrB 32 x) 23) :: (N ++ []))) rfl rfl (fun _ h => h) (fun u hu => FAt_buildI HLX.out rfl u) ?_)
    rintro _ _ ⟨gq, rfl, rfl⟩ hf he15; intro K' hK'; go_big_quiet_op; go_big_quiet_on
    clear hf
    change lexH _ _ _ _ _ _ ((gq, oc (arrB 32 (leafT x)) 23) :: ((g7, oc (arrB 32 x) 23) :: (N ++ [])))
    refine (hOp_own (gd := none) (R := GrownI w (Q ++ [leafT x]) []) rfl rfl rfl rfl (fun u hu => appI_op [] hu HQ.out.1 HLX.out HF.out (fun y hy => ⟨mT (mT (mL hy)), HNB.out y hy⟩) mH (fun _ h => by cases h) HQ.out.2 rfl rfl) ?_)
    rintro x9 M' ⟨N9, rfl, hF9, hn9⟩ he16; intro K' hK'; go_big_quiet_op; go_big_quiet_on
    have HF9 := hD (And.intro hF9 hn9)
    clear hF9 hn9
    refine phE [6] [] he16 fun hw => ?_
    refine qo rfl hw ?_
    refine enP fun u19 EX18 => ?_
    have HNX : Hid (OwnI u19 w.heap.size x9 (leavesL (l.take (k + 1))) ∧ Below w.heap.size w u19) := by
     refine ⟨?_, EnvX.bel EX18.out⟩
     rw [HST.out]
     refine HF9.out.1.own (fun y hy => ?_) (fun y hy => ⟨(HF9.out.2 y hy).1, EnvX.box EX18.out _ _ (mL hy)⟩)
     rcases List.mem_append.1 hy with h | h
     · exact HQ.out.1 y h
     · cases mS.1 h; exact ⟨sumL_len _, sumL_byte _⟩
    go_wp2
    go_roundw
    case rel => exact ⟨k + 1, by omega, by go_num, HNX⟩
    case measure => simp [intOf]; omega
  · obtain rfl : k = n := by omega
    have hge : ¬ (k : Int) < (k : Int) := by omega
    rw [tL (by rw [HL.out]; exact Nat.le_refl _)] at hO
    have HO := hD hO
    have HB := hD hB
    clear hO hB
    go_wp2
    go_ret
    exact ⟨⟨_, rfl, HO.out⟩, HB.out⟩
theorem vlink_root (l : List (List Int)) (A : Option Addr) (n c : Nat) (w : World) (hl : l.length = n) (hn : n ≤ 1000000) (hnc : n ≤ c) (hcm : c ≤ maxLen) (hI : isIds l) (hA : IdsIn w w.heap.size A l) (ht : Tables w) :
  Rz 34 #[.slice A n c] w (idv (rootT (leavesL l))) := by
 unfold Rz
 have HLV : Hid (∀ u, Below w.heap.size w u → Calls Tryz.prog 75 #[.slice A n c, .func (.func 76) #[] #[]] u fun e w' => (∃ v, e = .returned v ∧ OwnI w' u.heap.size v (leavesL l)) ∧ Below u.heap.size u w') := fun u hu => veach_any l A n c u hl hn hnc hcm hI (hA.up hu) (ht.below hu)
 have hri := root_id (leavesL_ids l)
 have HRT : Hid (∀ (u : World) (A1 : Option Addr) (c1 : Nat), Below w.heap.size w u → (leavesL l).length ≤ c1 → c1 ≤ maxLen → IdsIn u u.heap.size A1 (leavesL l) → Calls Tryz.prog 74 #[.slice A1 (leavesL l).length c1] u fun e w' => e = .returned (idv (rootT (leavesL l))) ∧ Below u.heap.size u w') := fun u A1 c1 hb h1 h2 h3 => root_any (leavesL l) A1 _ c1 u rfl (by rw [leavesL_len, hl]; exact hn) (leavesL_ids l) h3 (ht.below hb)
 have E1 : Hid (EnvX w (w.alloc (.cells (arrB 32 []) 23)) [(w.heap.size, oc (arrB 32 []) 23)]) := (EnvX.start w).new _
 generalize rootT (leavesL l) = rt at *
 have HZ : Hid ((arrB 32 rt).size = 32) := arrB_size _ _ (by rw [hri.1]; omega)
 clear hl hI hA hri ht hnc hcm
 unfold idv
 go_enter Tryz.func34, Tryz.ntmps34
 go_upto_region 1 with (fail)
 rw [zero_cells]
 generalize w.alloc (.cells (arrB 32 []) 23) = W at *
 refine rgQ [0] [1,2,3] E1 rfl fun hw => ?_
 refine qo rfl hw ?_
 refine wpG_nil ?_
 refine qr rfl Tryz.func75 (fun u hu => callsI_fresh (HLV.out u (EnvX.bel hu))) ?_
 rintro x N1 hF hf he2
 obtain ⟨A1, c1, rfl, hc1, hc2⟩ := FreshI.form hF
 have HF := hD (And.intro hF (And.intro hc1 hc2))
 clear hF hc1 hc2
 clear hf
 refine phE [2] [3] he2 fun hw => ?_
 refine qc rfl Tryz.func74 (fun u hu => HRT.out u A1 c1 (EnvX.bel hu) HF.out.2.1 HF.out.2.2 (HF.out.1.ids (leavesL_ids l) hu (fun y hy => mL hy))) hw ?_
 refine wpG_nil ?_
 refine (so rfl (Nat.le_refl _) (mR mH) (info26 _ HZ.out) ((arrB_size _ _ (by simp)).trans HZ.out.symm) (arrB_one _ _) ?_)
 refine fun _ => enL fun u6 EX5 => ?_
 have Q0 := hD (EnvX.box EX5.out _ _ mH)
 have HBEL := hD EX5.out.bel
 clear EX5
 go_wp2_with ((with_reducible refine bodyPost_ret (v := .agg (arrB 32 rt)) ?_ ?_ ?_); (exact results_cell_row (p := 2) (ty := 23) Tryz.results34 _ _ (w.heap.size) 23 (arrB 32 rt) (0, 0) _ rfl Q0.out Tryz.underlying23 rfl (info26 _ HZ.out)); (rfl))
 first | exact HBEL.out | exact ⟨rfl, HBEL.out⟩
theorem mayh_any (k : Int) (w : World) :
   Rz 120 #[.int .i64 k] w (.bool (decide (0 ≤ k ∧ k ≤ 1048576))) := by
 unfold Rz
 by_cases h0 : 0 ≤ k
 · by_cases h1 : k ≤ 1048576
   · go_enter Tryz.func120, Tryz.ntmps120
     go_wp2
     go_ret
     exact ⟨by simp [h0, h1], Below.refl _ _⟩
   · go_enter Tryz.func120, Tryz.ntmps120
     go_wp2
     go_ret
     exact ⟨by simp [h1], Below.refl _ _⟩
 · go_enter Tryz.func120, Tryz.ntmps120
   go_wp2
   go_ret
   exact ⟨by simp; omega, Below.refl _ _⟩
section
variable {a : Act} {dst : Option Tmp} {x0 x1 x2 x3 x4 x5 x6 x7 : Operand} {ty : TypeId} {pos : String} {after : Array Edge} {gd : Option (Nat × Bool)}
def row8 (A0 A1 A2 A3 A4 A5 A6 A7 : Option Addr) (n0 c0 n1 c1 n2 c2 n3 c3 n4 c4 n5 c5 n6 c6 n7 c7 : Nat) : Array Value := #[.slice A0 n0 c0, .slice A1 n1 c1, .slice A2 n2 c2, .slice A3 n3 c3, .slice A4 n4 c4, .slice A5 n5 c5, .slice A6 n6 c6, .slice A7 n7 c7]
theorem FAt_rows8 {A0 A1 A2 A3 A4 A5 A6 A7 : Option Addr} {n0 c0 n1 c1 n2 c2 n3 c3 n4 c4 n5 c5 n6 c6 n7 c7 : Nat} (h0 : a.eval x0 = .slice A0 n0 c0) (h1 : a.eval x1 = .slice A1 n1 c1) (h2 : a.eval x2 = .slice A2 n2 c2) (h3 : a.eval x3 = .slice A3 n3 c3) (h4 : a.eval x4 = .slice A4 n4 c4) (h5 : a.eval x5 = .slice A5 n5 c5) (h6 : a.eval x6 = .slice A6 n6 c6) (h7 : a.eval x7 = .slice A7 n7 c7) (u : World) :
  FAt Tryz.prog ⟨dst, .buildSlice 143 8 #[(0, x0), (1, x1), (2, x2), (3, x3), (4, x4), (5, x5), (6, x6), (7, x7)], ty, pos, after, gd⟩ a (fun v N => ∃ g, v = .slice (some ⟨g, 0, none⟩) 8 8 ∧ N = [(g, oc (row8 A0 A1 A2 A3 A4 A5 A6 A7 n0 c0 n1 c1 n2 c2 n3 c3 n4 c4 n5 c5 n6 c6 n7 c7) 106)]) u := by
 have h : (execOp a.eval ⟨dst, .buildSlice 143 8 #[(0, x0), (1, x1), (2, x2), (3, x3), (4, x4), (5, x5), (6, x6), (7, x7)], ty, pos, after, gd⟩).run Tryz.prog u = .ok (.value (.slice (some ⟨u.heap.size, 0, none⟩) 8 8)) (u.alloc (.cells (row8 A0 A1 A2 A3 A4 A5 A6 A7 n0 c0 n1 c1 n2 c2 n3 c3 n4 c4 n5 c5 n6 c6 n7 c7) 106)) := by
  unfold execOp row8
  simp only [List.map_toArray, List.map_cons, List.map_nil, h0, h1, h2, h3, h4, h5, h6, h7]
  go_simp
 unfold FAt
 rw [h]
 refine ⟨(Below.refl _ _).alloc (Nat.le_refl _) _, _, ⟨_, rfl, rfl⟩, fun y hy => ?_⟩
 cases mS.1 hy
 exact ⟨Nat.le_refl _, heap_alloc_new u _⟩
end
theorem hput_no (h : Hd) (w : World) (hh : okHd h) (k : mayPut h = false) :
  Calls Tryz.prog 69 #[hdV h] w fun e w' => (∃ v, e = .returned (.tuple #[v, .bool (putH h).2]) ∧ OwnB w' w.heap.size v (putH h).1) ∧ Below w.heap.size w w' := by
 have hp : putH h = ([], false) := by unfold putH; rw [if_neg (by rw [k]; exact Bool.noConfusion)]
 rw [hp]
 have E1 : Hid (EnvX w (w.alloc (.cells (hdA h) 29)) [(w.heap.size, oc (hdA h) 29)]) := (EnvX.start w).new _
 have HMH : Hid (∀ u, Calls Tryz.prog 120 #[.int .i64 h.height] u fun e w' => e = .returned (.bool (mayPut h)) ∧ Below u.heap.size u w') := fun u => mayh_any h.height u
 rw [k] at HMH
 clear hh k hp
 unfold hdV
 go_enter Tryz.func69, Tryz.ntmps69
 go_upto_region 1 with (fail)
 generalize w.alloc (.cells (hdA h) 29) = W at *
 refine rgQ [0,1,2,3] [] E1 rfl fun hw => ?_
 refine qo rfl hw ?_
 refine ql rfl mH trivial hw ?_
 refine qc rfl Tryz.func120 (fun u hu => HMH.out u) hw ?_
 refine qo rfl hw ?_
 refine enP fun u3 EX2 => ?_
 have HBE := hD (EnvX.bel EX2.out)
 go_wp2
 go_returns
 exact ⟨⟨_, rfl, OwnB.nil _ _⟩, HBE.out⟩
theorem hput_yes (h : Hd) (w : World) (hh : okHd h) (k : mayPut h = true) :
  Calls Tryz.prog 69 #[hdV h] w fun e w' => (∃ v, e = .returned (.tuple #[v, .bool (putH h).2]) ∧ OwnB w' w.heap.size v (putH h).1) ∧ Below w.heap.size w w' := by
 have hp : putH h = (bodyH h, true) := by unfold putH; rw [if_pos k]
 rw [hp]
 have hm : 0 ≤ h.height ∧ h.height ≤ 1048576 := of_decide_eq_true k
 have HL := hD hh.len
 have HOK := hD hh
 have HBL := hD (And.intro (body_len hh) (body_byte hh))
 have HU : Hid (h.height.toNat < 18446744073709551616 ∧ IntKind.u64.wrap h.height = ((h.height.toNat : Nat) : Int)) := by
  rw [IntKind.wrap_u64]
  exact ⟨by omega, by omega⟩
 have HN32 : Hid (h.bits < 18446744073709551616 ∧ IntKind.u64.wrap (h.bits : Int) = ((h.bits : Nat) : Int)) := by
  have := hh.2.2.2.2.2.2.1
  rw [IntKind.wrap_u64]
  exact ⟨by omega, by omega⟩
 have HN64 : Hid (h.nonce < 18446744073709551616) := hh.2.2.2.2.2.2.2
 have HBY : Hid (∀ u, Calls Tryz.prog 121 #[.agg (wcs h.work)] u fun e w' => e = .returned (.agg (arrB 32 (bytesW h.work))) ∧ Below u.heap.size u w') := fun u => bytes_any h.work u
 have HPT : Hid (∀ (n k : Nat), n < 18446744073709551616 → k ≤ 8 → ∀ u, Calls Tryz.prog 123 #[.int .u64 (n : Int), .int .i64 k] u fun e w' => (∃ v, e = .returned v ∧ OwnB w' u.heap.size v (putL n k)) ∧ Below u.heap.size u w') := fun n k hn hk u => put_any n k u hn hk
 have HCC : Hid (∀ u g, Parts u u.heap.size (some ⟨g, 0, none⟩) [putL h.height.toNat 4, h.prev, h.links, h.txs, h.past, bytesW h.work, putL h.bits 4, putL h.nonce 8] → Calls Tryz.prog 122 #[.slice (some ⟨g, 0, none⟩) 8 8] u fun e w' => (∃ v, e = .returned v ∧ w'.ownsRow u.heap.size 5 1 v 176 ((bodyH h).map u8v)) ∧ Below u.heap.size u w') := fun u g hP => by
  have hf : ([putL h.height.toNat 4, h.prev, h.links, h.txs, h.past, bytesW h.work, putL h.bits 4, putL h.nonce 8] : List (List Int)).flatten = bodyH h := by simp [bodyH]
  have hl := body_len hh
  have k := concat_any (some ⟨g, 0, none⟩) 8 8 _ u rfl hP (by omega) (by rw [hf, hl]; omega) (by rw [hf, hl]; omega)
  rw [hf] at k
  unfold OwnB at k
  rwa [hl] at k
 have HZ : Hid ((arrB 32 (bytesW h.work)).size = 32) := arrB_size _ _ (by rw [bytesW_len]; omega)
 have HSW : Hid (((arrB 32 (bytesW h.work)).toList.drop 0).take ((bytesW h.work).map u8v).length = (bytesW h.work).map u8v) := by
  show _ = _
  rw [arrId_map (bytesW_len _), List.drop_zero, List.take_length]
 clear hm
 have E1 : Hid (EnvX w (w.alloc (.cells (hdA h) 29)) [(w.heap.size, oc (hdA h) 29)]) := (EnvX.start w).new _
 have HMH : Hid (∀ u, Calls Tryz.prog 120 #[.int .i64 h.height] u fun e w' => e = .returned (.bool (mayPut h)) ∧ Below u.heap.size u w') := fun u => mayh_any h.height u
 rw [k] at HMH
 clear hh k hp
 unfold hdV
 go_enter Tryz.func69, Tryz.ntmps69
 go_upto_region 1 with (fail)
 generalize w.alloc (.cells (hdA h) 29) = W at *
 refine rgQ [0,1,2,3] [] E1 rfl fun hw => ?_
 refine qo rfl hw ?_
 refine ql rfl mH trivial hw ?_
 refine qc rfl Tryz.func120 (fun u hu => HMH.out u) hw ?_
 refine qo rfl hw ?_
 refine enP fun u3 EX2 => ?_
 go_upto_region 3 with (fail)
 refine rgQ [0,1,2] [3,4] EX2 rfl fun hw => ?_
 refine qo rfl hw ?_
 refine ql rfl mH HL.out hw ?_
 refine qc rfl Tryz.func121 (fun u hu => HBY.out u) hw ?_
 refine wpG_nil ?_
 refine qn rfl (new_id _) fun gw HGW he5 => ?_
 change lexH _ _ _ _ _ _ [(gw, oc (arrB 32 []) 23), (w.heap.size, oc (hdA h) 29)]
 refine (sh rfl HGW (info26 _ HZ.out) ((arrB_size _ _ (by simp)).trans HZ.out.symm) (arrB_one _ _) ?_)
 refine fun _ => enL fun u8 EX7 => ?_
 go_upto_region 4 with (fail)
 refine rgK [0,1,2,4,5,6,7,8,9,10,11,12,13,14,15,17,18] 7 EX7 rfl (by kernel_rfl) (by kernel_rfl) fun hw => ?_
 refine qo rfl hw ?_
 refine ql rfl (mT mH) trivial hw ?_
 refine qv (v := .int .u64 ((h.height.toNat : Nat) : Int)) rfl (fun u hu => conv_u64_op u HU.out.2 rfl) hw ?_
 refine qo rfl hw ?_
 refine qv (v := .slice (some ⟨w.heap.size, 1, none⟩) 32 32) rfl (fun u hu => sliceArr_op u rfl) hw ?_
 refine qo rfl hw ?_
 refine qv (v := .slice (some ⟨w.heap.size, 33, none⟩) 32 32) rfl (fun u hu => sliceArr_op u rfl) hw ?_
 refine qo rfl hw ?_
 refine qv (v := .slice (some ⟨w.heap.size, 65, none⟩) 32 32) rfl (fun u hu => sliceArr_op u rfl) hw ?_
 refine qo rfl hw ?_
 refine qv (v := .slice (some ⟨w.heap.size, 97, none⟩) 32 32) rfl (fun u hu => sliceArr_op u rfl) hw ?_
 refine qv (v := .slice (some ⟨gw, 0, none⟩) 32 32) rfl (fun u hu => sliceArr_op u rfl) hw ?_
 refine qo rfl hw ?_
 refine ql rfl (mT mH) HL.out hw ?_
 refine qv (v := .int .u64 ((h.bits : Nat) : Int)) rfl (fun u hu => conv32_op u HN32.out.2 rfl) hw ?_
 refine qo rfl hw ?_
 refine ql rfl (mT mH) HL.out hw ?_
 refine wpG_nil ?_
 refine anyH_one (i := 3) (by kernel_rfl) (qr (R := FreshR 5 1 4 ((putL h.height.toNat 4).map u8v)) rfl Tryz.func123 (fun u hu => by have h := callsR_fresh (HPT.out h.height.toNat 4 HU.out.1 (by omega) u); rw [putL_len] at h; exact h) ?_)
 rintro x N hF hf he10
 obtain ⟨g0, capg0, curg0, rfl, rfl, hcg0⟩ | ⟨_, _, h0, _⟩ := hF
 case inr => cases h0
 have HCg0 := hD hcg0
 clear hcg0
 clear hf
 change anyH _ _ _ _ _ _ _ _ [(g0, oc curg0 5), (gw, oc (arrB 32 (bytesW h.work)) 23), (w.heap.size, oc (hdA h) 29)]
 refine anyH_one (i := 16) (by kernel_rfl) (qr (R := FreshR 5 1 4 ((putL h.bits 4).map u8v)) rfl Tryz.func123 (fun u hu => by have h := callsR_fresh (HPT.out h.bits 4 HN32.out.1 (by omega) u); rw [putL_len] at h; exact h) ?_)
 rintro x N hF hf he11
 obtain ⟨gp, capgp, curgp, rfl, rfl, hcgp⟩ | ⟨_, _, h0, _⟩ := hF
 case inr => cases h0
 have HCgp := hD hcgp
 clear hcgp
 clear hf
 change anyH _ _ _ _ _ _ _ _ [(gp, oc curgp 5), (g0, oc curg0 5), (gw, oc (arrB 32 (bytesW h.work)) 23), (w.heap.size, oc (hdA h) 29)]
 refine anyH_one (i := 19) (by kernel_rfl) (qr (R := FreshR 5 1 8 ((putL h.nonce 8).map u8v)) rfl Tryz.func123 (fun u hu => by have h := callsR_fresh (HPT.out h.nonce 8 HN64.out (by omega) u); rw [putL_len] at h; exact h) ?_)
 rintro x N hF hf he12
 obtain ⟨gq, capgq, curgq, rfl, rfl, hcgq⟩ | ⟨_, _, h0, _⟩ := hF
 case inr => cases h0
 have HCgq := hD hcgq
 clear hcgq
 clear hf
 change anyH _ _ _ _ _ _ _ _ [(gq, oc curgq 5), (gp, oc curgp 5), (g0, oc curg0 5), (gw, oc (arrB 32 (bytesW h.work)) 23), (w.heap.size, oc (hdA h) 29)]
 refine anyH_one (i := 20) (by kernel_rfl) (hOp_fresh (R := fun v N => ∃ g, v = .slice (some ⟨g, 0, none⟩) 8 8 ∧ N = [(g, oc (row8 (some ⟨g0, 0, none⟩) (some ⟨w.heap.size, 1, none⟩) (some ⟨w.heap.size, 33, none⟩) (some ⟨w.heap.size, 65, none⟩) (some ⟨w.heap.size, 97, none⟩) (some ⟨gw, 0, none⟩) (some ⟨gp, 0, none⟩) (some ⟨gq, 0, none⟩) 4 capg0 32 32 32 32 32 32 32 32 32 32 4 capgp 8 capgq) 106)]) (M0 := [(gq, oc curgq 5), (gp, oc curgp 5), (g0, oc curg0 5), (gw, oc (arrB 32 (bytesW h.work)) 23), (w.heap.size, oc (hdA h) 29)]) rfl rfl (fun _ h => h) (fun u hu => FAt_rows8 rfl rfl rfl rfl rfl rfl rfl rfl u) ?_)
 rintro _ _ ⟨gr, rfl, rfl⟩ hf he13; intro K' hK'; go_big_quiet_op; go_big_quiet_on
 clear hf
 change anyH _ _ _ _ _ _ _ _ [(gr, oc (row8 (some ⟨g0, 0, none⟩) (some ⟨w.heap.size, 1, none⟩) (some ⟨w.heap.size, 33, none⟩) (some ⟨w.heap.size, 65, none⟩) (some ⟨w.heap.size, 97, none⟩) (some ⟨gw, 0, none⟩) (some ⟨gp, 0, none⟩) (some ⟨gq, 0, none⟩) 4 capg0 32 32 32 32 32 32 32 32 32 32 4 capgp 8 capgq) 106), (gq, oc curgq 5), (gp, oc curgp 5), (g0, oc curg0 5), (gw, oc (arrB 32 (bytesW h.work)) 23), (w.heap.size, oc (hdA h) 29)]
 refine anyH_one (i := 21) (by kernel_rfl) (qr (R := FreshR 5 1 176 ((bodyH h).map u8v)) rfl Tryz.func122 (fun u hu => callsR_fresh (HCC.out u gr (parts_of_at (EnvX.lt hu mH) (PartsAt.cons (by have h := box_cell (k := 0) hu mH rfl; exact h) (putL_len _ _) (boxR_bytes hu (mT (mT (mT mH))) (putL_len _ _) HCg0.out) (putL_byte _ 4) (PartsAt.cons (by have h := box_cell (k := 1) hu mH rfl; exact h) HL.out.1 (bytes_src (EnvX.lt hu (mT (mT (mT (mT (mT mH)))))) (src_box hu (mT (mT (mT (mT (mT mH))))) (src_hd_prev HL.out))) HOK.out.2.1.2 (PartsAt.cons (by have h := box_cell (k := 2) hu mH rfl; exact h) HL.out.2.1 (bytes_src (EnvX.lt hu (mT (mT (mT (mT (mT mH)))))) (src_box hu (mT (mT (mT (mT (mT mH))))) (src_hd_links HL.out))) HOK.out.2.2.1.2 (PartsAt.cons (by have h := box_cell (k := 3) hu mH rfl; exact h) HL.out.2.2.1 (bytes_src (EnvX.lt hu (mT (mT (mT (mT (mT mH)))))) (src_box hu (mT (mT (mT (mT (mT mH))))) (src_hd_txs HL.out))) HOK.out.2.2.2.1.2 (PartsAt.cons (by have h := box_cell (k := 4) hu mH rfl; exact h) HL.out.2.2.2 (bytes_src (EnvX.lt hu (mT (mT (mT (mT (mT mH)))))) (src_box hu (mT (mT (mT (mT (mT mH))))) (src_hd_past HL.out))) HOK.out.2.2.2.2.1.2 (PartsAt.cons (by have h := box_cell (k := 5) hu mH rfl; exact h) (bytesW_len _) (bytes_src (EnvX.lt hu (mT (mT (mT (mT mH))))) (src_box hu (mT (mT (mT (mT mH)))) HSW.out)) (bytesW_byte _) (PartsAt.cons (by have h := box_cell (k := 6) hu mH rfl; exact h) (putL_len _ _) (boxR_bytes hu (mT (mT mH)) (putL_len _ _) HCgp.out) (putL_byte _ 4) (PartsAt.cons (by have h := box_cell (k := 7) hu mH rfl; exact h) (putL_len _ _) (boxR_bytes hu (mT mH) (putL_len _ _) HCgq.out) (putL_byte _ 8) PartsAt.nil))))))))))) ?_)
 rintro x N hF hf he14
 obtain ⟨gc, capc, curc, rfl, rfl, hcc⟩ | ⟨_, _, h0, _⟩ := hF
 case inr => cases h0
 have HCC2 := hD hcc
 have HGC := hD (hf _ (mS.2 rfl))
 clear hcc
 clear hf
 refine phF [22,23] 0 rfl he14 (by kernel_rfl) fun hw => ?_
 refine qw 2 hw ?_
 refine enH (by kernel_rfl) fun u17 EX16 => ?_
 go_wp2
 go_returns
 refine ⟨⟨_, rfl, ?_⟩, EnvX.bel EX16.out⟩
 unfold OwnB
 rw [HBL.out.1]
 exact ⟨by rw [lM, HBL.out.1], .inr ⟨gc, capc, curc, rfl, HGC.out.1, EnvX.box EX16.out _ _ mH, HCC2.out⟩⟩
theorem hput_any (h : Hd) (w : World) (hh : okHd h) :
  Calls Tryz.prog 69 #[hdV h] w fun e w' => (∃ v, e = .returned (.tuple #[v, .bool (putH h).2]) ∧ OwnB w' w.heap.size v (putH h).1) ∧ Below w.heap.size w w' := by
 cases k : mayPut h with
 | true => exact hput_yes h w hh k
 | false => exact hput_no h w hh k
theorem hid_no (h : Hd) (w : World) (hh : okHd h) (ht : Tables w) (k : mayPut h = false) :
  Rz 28 #[hdV h] w (idv (idH h)) := by
 unfold Rz
 have hp : putH h = ([], false) := by unfold putH; rw [if_neg (by rw [k]; exact Bool.noConfusion)]
 have hi : idH h = z32 := by unfold idH; rw [if_neg (by rw [k]; exact Bool.noConfusion)]
 rw [hi]
 have HZ : Hid ((arrB 32 z32).size = 32) := arrB_size _ _ (by decide)
 clear k hi
 have HL := hD hh.len
 have HLE : Hid (w.heap.size ≤ w.heap.size + 1) := by show _ ≤ _; omega
 have E1 : Hid (EnvX w ((w.alloc (.cells (hdA h) 29)).alloc (.cells (arrB 32 []) 23)) [(w.heap.size + 1, oc (arrB 32 []) 23), (w.heap.size, oc (hdA h) 29)]) := (EnvX.start w).two _ _
 have HPT : Hid (∀ u, Calls Tryz.prog 69 #[hdV h] u fun e w' => (∃ v, e = .returned (.tuple #[v, .bool (putH h).2]) ∧ OwnB w' u.heap.size v (putH h).1) ∧ Below u.heap.size u w') := fun u => hput_any h u hh
 rw [hp] at HPT
 clear hp hh
 unfold hdV
 go_enter Tryz.func28, Tryz.ntmps28
 go_upto_region 1 with (fail)
 rw [zero_cells]
 generalize (w.alloc (.cells (hdA h) 29)).alloc (.cells (arrB 32 []) 23) = W at *
 have HLD : Hid ((loadVar 29 ⟨w.heap.size, 0, none⟩).run Tryz.prog W = .ok (.agg (hdA h)) W) := box_hd E1.out (mT mH) HL.out
 go_wp2_with ((with_reducible refine wpList_load_run (o := ⟨some 6, _, _, _, _, _⟩) ?_ 29 (.tmp 1) ?_ ⟨w.heap.size, 0, none⟩ ?_ HLD.out ?_); (rfl); (rfl); (rfl))
 refine (HPT.out W).mono ?_
 rintro e w1 ⟨⟨v, rfl, hv⟩, hb⟩
 have E2 : Hid (EnvX w w1 [(w.heap.size + 1, oc (arrB 32 []) 23), (w.heap.size, oc (hdA h) 29)]) := EnvX.below E1.out hb
 clear hv hb E1 HLD ht
 go_upto_region 3 with (fail)
 refine rgQ [0] [1] E2 rfl fun hw => ?_
 refine qv (v := .agg (arrB 32 z32)) rfl (fun u hu => buildA_op u hbuilt0) hw ?_
 refine wpG_nil ?_
 refine (so rfl HLE.out mH (info26 _ HZ.out) ((arrB_size _ _ (by simp)).trans HZ.out.symm) (arrB_one _ _) ?_)
 refine fun _ => enL fun u4 EX3 => ?_
 have Q0 := hD (EnvX.box EX3.out _ _ mH)
 have HBEL := hD EX3.out.bel
 clear EX3
 go_wp2_with ((with_reducible refine bodyPost_ret (v := .agg (arrB 32 z32)) ?_ ?_ ?_); (exact results_cell_row (p := 2) (ty := 23) Tryz.results28 _ _ (w.heap.size + 1) 23 (arrB 32 z32) (0, 0) _ rfl Q0.out Tryz.underlying23 rfl (info26 _ HZ.out)); (rfl))
 exact ⟨rfl, HBEL.out⟩
theorem hid_yes (h : Hd) (w : World) (hh : okHd h) (ht : Tables w) (k : mayPut h = true) :
   Rz 28 #[hdV h] w (idv (idH h)) := by
 unfold Rz
 have hp : putH h = (bodyH h, true) := by unfold putH; rw [if_pos k]
 have hi : idH h = sumL (5 :: bodyH h) := by unfold idH; rw [if_pos k]
 rw [hi]
 obtain ⟨su, hsu⟩ : ∃ su, sumL (5 :: bodyH h) = su := ⟨_, rfl⟩
 have HZ : Hid ((arrB 32 su).size = 32) := arrB_size _ _ (by rw [← hsu, sumL_len]; omega)
 have HSU := hD hsu
 rw [hsu]
 clear hsu
 have HBO := hD (And.intro (body_len hh) (body_byte hh))
 clear k hi
 have HL := hD hh.len
 have HLE : Hid (w.heap.size ≤ w.heap.size + 1) := by show _ ≤ _; omega
 have E1 : Hid (EnvX w ((w.alloc (.cells (hdA h) 29)).alloc (.cells (arrB 32 []) 23)) [(w.heap.size + 1, oc (arrB 32 []) 23), (w.heap.size, oc (hdA h) 29)]) := (EnvX.start w).two _ _
 have HPT : Hid (∀ u, Calls Tryz.prog 69 #[hdV h] u fun e w' => (∃ v, e = .returned (.tuple #[v, .bool (putH h).2]) ∧ OwnB w' u.heap.size v (putH h).1) ∧ Below u.heap.size u w') := fun u => hput_any h u hh
 rw [hp] at HPT
 clear hp hh
 unfold hdV
 go_enter Tryz.func28, Tryz.ntmps28
 go_upto_region 1 with (fail)
 rw [zero_cells]
 generalize (w.alloc (.cells (hdA h) 29)).alloc (.cells (arrB 32 []) 23) = W at *
 have HLD : Hid ((loadVar 29 ⟨w.heap.size, 0, none⟩).run Tryz.prog W = .ok (.agg (hdA h)) W) := box_hd E1.out (mT mH) HL.out
 go_wp2_with ((with_reducible refine wpList_load_run (o := ⟨some 6, _, _, _, _, _⟩) ?_ 29 (.tmp 1) ?_ ⟨w.heap.size, 0, none⟩ ?_ HLD.out ?_); (rfl); (rfl); (rfl))
 refine (HPT.out W).mono ?_
 rintro e w1 ⟨⟨v, rfl, hv⟩, hb⟩
 obtain ⟨hv1, ⟨_, h0⟩ | ⟨gv, capv, curv, rfl, hg1, hg2, hg3⟩⟩ := hv
 · have := HBO.out.1
   omega
 have E2 : Hid (EnvX w w1 [(gv, oc curv 5), (w.heap.size + 1, oc (arrB 32 []) 23), (w.heap.size, oc (hdA h) 29)]) := ⟨(EnvX.below E1.out hb).bel, fun g o hm => by
   rcases List.mem_cons.1 hm with e | e
   · cases e
     exact hg2
   · exact (EnvX.below E1.out hb).box g o e⟩
 rw [HBO.out.1] at hg3 ⊢
 have HGV := hD hg3
 have HOF : Hid (∀ (u : World) (gr : Nat), EnvX w u [] → Parts u u.heap.size (some ⟨gr, 0, none⟩) [[5], bodyH h] → Calls Tryz.prog 64 #[.slice (some ⟨gr, 0, none⟩) 2 2] u fun e w' => e = .returned (.agg (arrB 32 su)) ∧ Below u.heap.size u w') := fun u gr hE hp => by
   have e : [[5], bodyH h].flatten = 5 :: bodyH h := by simp
   have h1 := shaof_any (some ⟨gr, 0, none⟩) 2 2 [[5], bodyH h] u rfl hp (by omega) (by rw [e, List.length_cons, HBO.out.1]; decide) (ht.below hE.bel)
   rwa [e, HSU.out] at h1
 clear hv1 hb E1 HLD hg1 hg2 hg3 ht
 go_upto_region 4 with (fail)
 refine wp_region_Hx (w0 := w) [0, 1, 2, 3, 4] [(gv, oc curv 5), (w.heap.size + 1, oc (arrB 32 []) 23), (w.heap.size, oc (hdA h) 29)] rfl E2.out ?_
 refine (hOp_fresh (R := fun v N => ∃ g, v = .slice (some ⟨g, 0, none⟩) 1 1 ∧ N = [(g, oc #[.int .u8 5] 5)]) (M0 := [(gv, oc curv 5), (w.heap.size + 1, oc (arrB 32 []) 23), (w.heap.size, oc (hdA h) 29)]) rfl rfl (fun _ h => h) (fun u hu => FAt_byte1 5 u) ?_)
 rintro _ _ ⟨g5, rfl, rfl⟩ hf he1; intro K' hK'; go_big_quiet_op; go_big_quiet_on
 clear hf
 refine phE [1] [2,3,4] he1 fun hw => ?_
 refine qo rfl hw ?_
 refine wpG_nil ?_
 refine (hOp_fresh (R := fun v N => ∃ g, v = .slice (some ⟨g, 0, none⟩) 2 2 ∧ N = [(g, oc #[.slice (some ⟨g5, 0, none⟩) 1 1, .slice (some ⟨gv, 0, none⟩) 176 capv] 106)]) (M0 := [(g5, oc #[.int .u8 5] 5), (gv, oc curv 5), (w.heap.size + 1, oc (arrB 32 []) 23), (w.heap.size, oc (hdA h) 29)]) rfl rfl (fun _ h => h) (fun u hu => FAt_rows2 rfl rfl u) ?_)
 rintro _ _ ⟨gr, rfl, rfl⟩ hf he3; intro K' hK'; go_big_quiet_op; go_big_quiet_on
 clear hf
 refine phE [3] [4] he3 fun hw => ?_
 refine qc rfl Tryz.func64 (fun u hu => HOF.out u gr (nl hu) (parts_two (EnvX.lt hu mH) (by have h := box_cell (k := 0) hu mH rfl; exact h) (boxR_bytes (cap := 1) hu (mT mH) rfl ⟨by decide, by decide, rfl, rfl⟩) (by intro x hx; cases mS.1 hx; omega) (by have h := box_cell (k := 1) hu mH rfl; rw [HBO.out.1]; exact h) (boxR_bytes hu (mT (mT mH)) HBO.out.1 HGV.out) HBO.out.2)) hw ?_
 refine wpG_nil ?_
 refine (so rfl HLE.out (mT (mT (mT mH))) (info26 _ HZ.out) ((arrB_size _ _ (by simp)).trans HZ.out.symm) (arrB_one _ _) ?_)
 refine fun _ => enL fun u7 EX6 => ?_
 have Q0 := hD (EnvX.box EX6.out _ _ mH)
 have HBEL := hD EX6.out.bel
 clear EX6
 go_wp2_with ((with_reducible refine bodyPost_ret (v := .agg (arrB 32 su)) ?_ ?_ ?_); (exact results_cell_row (p := 2) (ty := 23) Tryz.results28 _ _ (w.heap.size + 1) 23 (arrB 32 su) (0, 0) _ rfl Q0.out Tryz.underlying23 rfl (info26 _ HZ.out)); (rfl))
 exact ⟨rfl, HBEL.out⟩
theorem hid_any (h : Hd) (w : World) (hh : okHd h) (ht : Tables w) :
  Rz 28 #[hdV h] w (idv (idH h)) := by
 unfold Rz
 cases k : mayPut h with
 | true => exact hid_yes h w hh ht k
 | false => exact hid_no h w hh ht k
theorem hlevel_a (h : Hd) (w : World) (hh : okHd h) (ht : Tables w) (hc : isC h.bits = false) :
  Rz 72 #[hdV h] w (.int .i64 (levelH h)) := by
 unfold Rz
 have hv : levelH h = -1 := by unfold levelH; rw [hc, Bool.and_false]; rfl
 rw [hv]
 clear hv
 have HL := hD hh.len
 have E1 : Hid (EnvX w (w.alloc (.cells (hdA h) 29)) [(w.heap.size, oc (hdA h) 29)]) := (EnvX.start w).new _
 have HTG : Hid (∀ u, Calls Tryz.prog 33 #[.int .u32 (h.bits : Int)] u fun e w' => e = .returned (.tuple #[.agg (wcs (tv h.bits)), .bool (isC h.bits)]) ∧ Below u.heap.size u w') := fun u => target_any h.bits u hh.2.2.2.2.2.2.1
 rw [hc] at HTG
 clear hh hc ht
 unfold hdV
 go_enter Tryz.func72, Tryz.ntmps72
 go_upto_region 1 with (fail)
 generalize w.alloc (.cells (hdA h) 29) = W at *
 refine rgQ [0,1,2,3,4,5] [6,7,8] E1 rfl fun hw => ?_
 refine qo rfl hw ?_
 refine ql rfl mH HL.out hw ?_
 refine qc rfl Tryz.func33 (fun u hu => HTG.out u) hw ?_
 refine qw 3 hw ?_
 refine wpG_nil ?_
 refine qn rfl (new_wd _) fun gt HGT he2 => ?_
 change lexH _ _ _ _ _ _ [(gt, oc (wcs 0) 26), (w.heap.size, oc (hdA h) 29)]
 refine (sh rfl HGT (wc_info _) ((wc_size _).trans (wc_size _).symm) (wc_one _) ?_)
 intro he3
 refine phE [8] [] he3 fun hw => ?_
 refine qo rfl hw ?_
 refine enP fun u6 EX5 => ?_
 go_upto_region 2 with (fail)
 refine rgQ [0,1,2,3,4,5,6,7,8] [] EX5 rfl fun hw => ?_
 refine qw 9 hw ?_
 refine enP fun u9 EX8 => ?_
 have HBE := hD (EnvX.bel EX8.out)
 go_wp2
 go_ret
 exact ⟨rfl, HBE.out⟩
theorem hlevel_b (h : Hd) (w : World) (hh : okHd h) (ht : Tables w) (hc : isC h.bits = true) (k : mayPut h = false) :
  Rz 72 #[hdV h] w (.int .i64 (levelH h)) := by
 unfold Rz
 have hv : levelH h = -1 := by unfold levelH; rw [k]; rfl
 rw [hv]
 clear hv
 have HL := hD hh.len
 have E1 : Hid (EnvX w (w.alloc (.cells (hdA h) 29)) [(w.heap.size, oc (hdA h) 29)]) := (EnvX.start w).new _
 have HTG : Hid (∀ u, Calls Tryz.prog 33 #[.int .u32 (h.bits : Int)] u fun e w' => e = .returned (.tuple #[.agg (wcs (tv h.bits)), .bool (isC h.bits)]) ∧ Below u.heap.size u w') := fun u => target_any h.bits u hh.2.2.2.2.2.2.1
 rw [hc] at HTG
 have HMH : Hid (∀ u, Calls Tryz.prog 120 #[.int .i64 h.height] u fun e w' => e = .returned (.bool (mayPut h)) ∧ Below u.heap.size u w') := fun u => mayh_any h.height u
 rw [k] at HMH
 clear hh hc k ht
 unfold hdV
 go_enter Tryz.func72, Tryz.ntmps72
 go_upto_region 1 with (fail)
 generalize w.alloc (.cells (hdA h) 29) = W at *
 refine rgQ [0,1,2,3,4,5] [6,7,8] E1 rfl fun hw => ?_
 refine qo rfl hw ?_
 refine ql rfl mH HL.out hw ?_
 refine qc rfl Tryz.func33 (fun u hu => HTG.out u) hw ?_
 refine qw 3 hw ?_
 refine wpG_nil ?_
 refine qn rfl (new_wd _) fun gt HGT he2 => ?_
 change lexH _ _ _ _ _ _ [(gt, oc (wcs 0) 26), (w.heap.size, oc (hdA h) 29)]
 refine (sh rfl HGT (wc_info _) ((wc_size _).trans (wc_size _).symm) (wc_one _) ?_)
 intro he3
 refine phE [8] [] he3 fun hw => ?_
 refine qo rfl hw ?_
 refine enP fun u6 EX5 => ?_
 go_upto_region 2 with (fail)
 refine rgQ [0,1,2,3,4,5,6,7,8] [] EX5 rfl fun hw => ?_
 refine qw 4 hw ?_
 refine ql rfl (mT mH) trivial hw ?_
 refine qc rfl Tryz.func120 (fun u hu => HMH.out u) hw ?_
 refine qw 3 hw ?_
 refine enP fun u9 EX8 => ?_
 have HBE := hD (EnvX.bel EX8.out)
 go_wp2
 go_ret
 exact ⟨rfl, HBE.out⟩
theorem hlevel_c (h : Hd) (w : World) (hh : okHd h) (ht : Tables w) (hc : isC h.bits = true) (k : mayPut h = true) (h0 : h.height = 0) :
  Rz 72 #[hdV h] w (.int .i64 (levelH h)) := by
 unfold Rz
 have hv : levelH h = 31 := by unfold levelH; rw [k, hc]; exact if_pos h0
 rw [hv]
 have C0 : Hid (decide (h.height = 0) = true) := decide_eq_true h0
 clear hv h0
 have HL := hD hh.len
 have E1 : Hid (EnvX w (w.alloc (.cells (hdA h) 29)) [(w.heap.size, oc (hdA h) 29)]) := (EnvX.start w).new _
 have HTG : Hid (∀ u, Calls Tryz.prog 33 #[.int .u32 (h.bits : Int)] u fun e w' => e = .returned (.tuple #[.agg (wcs (tv h.bits)), .bool (isC h.bits)]) ∧ Below u.heap.size u w') := fun u => target_any h.bits u hh.2.2.2.2.2.2.1
 rw [hc] at HTG
 have HMH : Hid (∀ u, Calls Tryz.prog 120 #[.int .i64 h.height] u fun e w' => e = .returned (.bool (mayPut h)) ∧ Below u.heap.size u w') := fun u => mayh_any h.height u
 rw [k] at HMH
 clear hh hc k ht
 unfold hdV
 go_enter Tryz.func72, Tryz.ntmps72
 go_upto_region 1 with (fail)
 generalize w.alloc (.cells (hdA h) 29) = W at *
 refine rgQ [0,1,2,3,4,5] [6,7,8] E1 rfl fun hw => ?_
 refine qo rfl hw ?_
 refine ql rfl mH HL.out hw ?_
 refine qc rfl Tryz.func33 (fun u hu => HTG.out u) hw ?_
 refine qw 3 hw ?_
 refine wpG_nil ?_
 refine qn rfl (new_wd _) fun gt HGT he2 => ?_
 change lexH _ _ _ _ _ _ [(gt, oc (wcs 0) 26), (w.heap.size, oc (hdA h) 29)]
 refine (sh rfl HGT (wc_info _) ((wc_size _).trans (wc_size _).symm) (wc_one _) ?_)
 intro he3
 refine phE [8] [] he3 fun hw => ?_
 refine qo rfl hw ?_
 refine enP fun u6 EX5 => ?_
 go_upto_region 2 with (fail)
 refine rgQ [0,1,2,3,4,5,6,7,8] [] EX5 rfl fun hw => ?_
 refine qw 4 hw ?_
 refine ql rfl (mT mH) trivial hw ?_
 refine qc rfl Tryz.func120 (fun u hu => HMH.out u) hw ?_
 refine qw 3 hw ?_
 refine enP fun u9 EX8 => ?_
 go_upto_region 4 with (fail)
 refine rgQ [0,1,2,3] [] EX8 rfl fun hw => ?_
 refine qo rfl hw ?_
 refine ql rfl (mT mH) trivial hw ?_
 refine qv rfl (fun u hu => eqlI_op u C0.out rfl rfl) hw ?_
 refine qo rfl hw ?_
 refine enP fun u12 EX11 => ?_
 have HBE := hD (EnvX.bel EX11.out)
 go_wp2
 go_ret
 exact ⟨rfl, HBE.out⟩
theorem hlevel_d (h : Hd) (w : World) (hh : okHd h) (ht : Tables w) (hc : isC h.bits = true) (k : mayPut h = true) (h0 : h.height ≠ 0) :
  Rz 72 #[hdV h] w (.int .i64 (levelH h)) := by
 unfold Rz
 have hv : levelH h = lvI (numB (idH h)) (tv h.bits) := by unfold levelH; rw [k, hc]; exact if_neg h0
 rw [hv]
 have C0 : Hid (decide (h.height = 0) = false) := decide_eq_false h0
 clear hv h0
 have HL := hD hh.len
 have E1 : Hid (EnvX w (w.alloc (.cells (hdA h) 29)) [(w.heap.size, oc (hdA h) 29)]) := (EnvX.start w).new _
 have HTG : Hid (∀ u, Calls Tryz.prog 33 #[.int .u32 (h.bits : Int)] u fun e w' => e = .returned (.tuple #[.agg (wcs (tv h.bits)), .bool (isC h.bits)]) ∧ Below u.heap.size u w') := fun u => target_any h.bits u hh.2.2.2.2.2.2.1
 rw [hc] at HTG
 have HMH : Hid (∀ u, Calls Tryz.prog 120 #[.int .i64 h.height] u fun e w' => e = .returned (.bool (mayPut h)) ∧ Below u.heap.size u w') := fun u => mayh_any h.height u
 rw [k] at HMH
 have HID : Hid (Rt w 28 #[hdV h] (idv (idH h))) := fun u hE => hid_any h u hh (ht.below hE.bel)
 have HLV : Hid (∀ u, Calls Tryz.prog 126 #[idv (idH h), .agg (wcs (tv h.bits))] u fun e w' => e = .returned (.int .i64 (lvI (numB (idH h)) (tv h.bits))) ∧ Below u.heap.size u w') := fun u => by
  unfold idv
  rw [arr_idF (id_len h) (id_byte h)]
  exact level_any (fun i => ((idH h).getD i 0).toNat) (byte_toNat (id_byte h)) (tv h.bits) u (tv_big h.bits)
 clear hh hc k ht
 unfold hdV
 go_enter Tryz.func72, Tryz.ntmps72
 go_upto_region 1 with (fail)
 generalize w.alloc (.cells (hdA h) 29) = W at *
 refine rgQ [0,1,2,3,4,5] [6,7,8] E1 rfl fun hw => ?_
 refine qo rfl hw ?_
 refine ql rfl mH HL.out hw ?_
 refine qc rfl Tryz.func33 (fun u hu => HTG.out u) hw ?_
 refine qw 3 hw ?_
 refine wpG_nil ?_
 refine qn rfl (new_wd _) fun gt HGT he2 => ?_
 change lexH _ _ _ _ _ _ [(gt, oc (wcs 0) 26), (w.heap.size, oc (hdA h) 29)]
 refine (sh rfl HGT (wc_info _) ((wc_size _).trans (wc_size _).symm) (wc_one _) ?_)
 intro he3
 refine phE [8] [] he3 fun hw => ?_
 refine qo rfl hw ?_
 refine enP fun u6 EX5 => ?_
 go_upto_region 2 with (fail)
 refine rgQ [0,1,2,3,4,5,6,7,8] [] EX5 rfl fun hw => ?_
 refine qw 4 hw ?_
 refine ql rfl (mT mH) trivial hw ?_
 refine qc rfl Tryz.func120 (fun u hu => HMH.out u) hw ?_
 refine qw 3 hw ?_
 refine enP fun u9 EX8 => ?_
 go_upto_region 4 with (fail)
 refine rgQ [0,1,2,3] [] EX8 rfl fun hw => ?_
 refine qo rfl hw ?_
 refine ql rfl (mT mH) trivial hw ?_
 refine qv rfl (fun u hu => eqlI_op u C0.out rfl rfl) hw ?_
 refine qo rfl hw ?_
 refine enP fun u12 EX11 => ?_
 go_upto_region 6 with (fail)
 refine rgK [0,1,2,3,4] 0 EX11 rfl (by kernel_rfl) (by kernel_rfl) fun hw => ?_
 refine ql rfl (mT mH) HL.out hw ?_
 refine qc rfl Tryz.func28 (fun u hu => HID.out u (nl hu)) hw ?_
 refine qv rfl (fun u hu => load_any_op u (box_wide hu mH) rfl) hw ?_
 refine qc rfl Tryz.func126 (fun u hu => HLV.out u) hw ?_
 refine qo rfl hw ?_
 refine enH (by kernel_rfl) fun u15 EX14 => ?_
 have HBE := hD (EnvX.bel EX14.out)
 go_wp2
 go_ret
 exact ⟨rfl, HBE.out⟩
theorem hlevel_any (h : Hd) (w : World) (hh : okHd h) (ht : Tables w) :
  Rz 72 #[hdV h] w (.int .i64 (levelH h)) := by
 unfold Rz
 cases hc : isC h.bits with
 | false => exact hlevel_a h w hh ht hc
 | true =>
  cases k : mayPut h with
  | false => exact hlevel_b h w hh ht hc k
  | true =>
   by_cases h0 : h.height = 0
   · exact hlevel_c h w hh ht hc k h0
   · exact hlevel_d h w hh ht hc k h0
theorem hmay_any (h : Hd) (w : World) (hh : okHd h) (ht : Tables w) :
  Rz 31 #[hdV h] w (.bool (mayH h)) := by
 unfold Rz
 have HL := hD hh.len
 have E1 : Hid (EnvX w (w.alloc (.cells (hdA h) 29)) [(w.heap.size, oc (hdA h) 29)]) := (EnvX.start w).new _
 have HLV : Hid (Rt w 72 #[hdV h] (.int .i64 (levelH h))) := fun u hE => hlevel_any h u hh (ht.below hE.bel)
 have HM : Hid (decide (0 ≤ levelH h) = mayH h) := rfl
 clear hh ht
 unfold hdV
 go_enter Tryz.func31, Tryz.ntmps31
 go_upto_region 1 with (fail)
 generalize w.alloc (.cells (hdA h) 29) = W at *
 refine rgQ [0,1,2,3] [] E1 rfl fun hw => ?_
 refine ql rfl mH HL.out hw ?_
 refine qc rfl Tryz.func72 (fun u hu => HLV.out u (nl hu)) hw ?_
 refine qv rfl (fun u hu => geq_op u HM.out rfl rfl) hw ?_
 refine qo rfl hw ?_
 refine enP fun u3 EX2 => ?_
 have HBE := hD (EnvX.bel EX2.out)
 go_wp2
 go_ret
 exact ⟨rfl, HBE.out⟩
theorem hwork_no (h : Hd) (w : World) (hh : okHd h) (hc : isC h.bits = false) :
  Rz 30 #[hdV h] w (.agg (wcs (workH h))) := by
 unfold Rz
 have hw : workH h = 0 := by unfold workH; rw [hc]; rfl
 rw [hw]
 have HL := hD hh.len
 have HLE : Hid (w.heap.size ≤ w.heap.size + 1) := by show _ ≤ _; omega
 have E1 : Hid (EnvX w ((w.alloc (.cells (hdA h) 29)).alloc (.cells (wcs 0) 26)) [(w.heap.size + 1, oc (wcs 0) 26), (w.heap.size, oc (hdA h) 29)]) := (EnvX.start w).two _ _
 have HTG : Hid (∀ u, Calls Tryz.prog 33 #[.int .u32 (h.bits : Int)] u fun e w' => e = .returned (.tuple #[.agg (wcs (tv h.bits)), .bool (isC h.bits)]) ∧ Below u.heap.size u w') := fun u => target_any h.bits u hh.2.2.2.2.2.2.1
 rw [hc] at HTG
 have HWK : Hid (∀ u, Calls Tryz.prog 71 #[.agg (wcs (tv h.bits))] u fun e w' => e = .returned (.agg (wcs (wkV (tv h.bits)))) ∧ Below u.heap.size u w') := fun u => work_any (tv h.bits) u (tv_big h.bits)
 clear hh hc hw
 unfold hdV
 go_enter Tryz.func30, Tryz.ntmps30
 go_upto_region 1 with (fail)
 rw [zero_wcs]
 generalize (w.alloc (.cells (hdA h) 29)).alloc (.cells (wcs 0) 26) = W at *
 refine rgQ [0,1,2,3,4,5] [6,7,8] E1 rfl fun hw => ?_
 refine qo rfl hw ?_
 refine ql rfl (mT mH) HL.out hw ?_
 refine qc rfl Tryz.func33 (fun u hu => HTG.out u) hw ?_
 refine qw 3 hw ?_
 refine wpG_nil ?_
 refine qn rfl (new_wd _) fun gt HGT he2 => ?_
 change lexH _ _ _ _ _ _ [(gt, oc (wcs 0) 26), (w.heap.size + 1, oc (wcs 0) 26), (w.heap.size, oc (hdA h) 29)]
 refine (sh rfl HGT (wc_info _) ((wc_size _).trans (wc_size _).symm) (wc_one _) ?_)
 intro he3
 refine phE [8] [] he3 fun hw => ?_
 refine qo rfl hw ?_
 refine enP fun u6 EX5 => ?_
 go_upto_region 2 with (fail)
 refine rgQ [0,1] [] EX5 rfl fun hw => ?_
 refine qw 2 hw ?_
 refine enP fun u9 EX8 => ?_
 go_upto_region 3 with (fail)
 refine rgQ [0] [1] EX8 rfl fun hw => ?_
 refine qv (v := .agg (wcs 0)) rfl (fun u hu => buildA_op u hbuilt_w0) hw ?_
 refine wpG_nil ?_
 refine (so rfl HLE.out (mT mH) (wc_info _) ((wc_size _).trans (wc_size _).symm) (wc_one _) ?_)
 refine fun _ => enL fun u13 EX12 => ?_
 have Q0 := hD (EnvX.box EX12.out _ _ mH)
 have HBEL := hD EX12.out.bel
 clear EX12
 go_wp2_with ((with_reducible refine bodyPost_ret (v := .agg (wcs 0)) ?_ ?_ ?_); (exact results_cell_row (p := 2) (ty := 26) Tryz.results30 _ _ (w.heap.size + 1) 26 (wcs 0) (0, 0) _ rfl Q0.out Tryz.underlying26 rfl (wc_info _)); (rfl))
 first | exact HBEL.out | exact ⟨rfl, HBEL.out⟩
theorem hwork_yes (h : Hd) (w : World) (hh : okHd h) (hc : isC h.bits = true) :
  Rz 30 #[hdV h] w (.agg (wcs (workH h))) := by
 unfold Rz
 have hw : workH h = wkV (tv h.bits) := by unfold workH; rw [hc]; rfl
 rw [hw]
 have HL := hD hh.len
 have HLE : Hid (w.heap.size ≤ w.heap.size + 1) := by show _ ≤ _; omega
 have E1 : Hid (EnvX w ((w.alloc (.cells (hdA h) 29)).alloc (.cells (wcs 0) 26)) [(w.heap.size + 1, oc (wcs 0) 26), (w.heap.size, oc (hdA h) 29)]) := (EnvX.start w).two _ _
 have HTG : Hid (∀ u, Calls Tryz.prog 33 #[.int .u32 (h.bits : Int)] u fun e w' => e = .returned (.tuple #[.agg (wcs (tv h.bits)), .bool (isC h.bits)]) ∧ Below u.heap.size u w') := fun u => target_any h.bits u hh.2.2.2.2.2.2.1
 rw [hc] at HTG
 have HWK : Hid (∀ u, Calls Tryz.prog 71 #[.agg (wcs (tv h.bits))] u fun e w' => e = .returned (.agg (wcs (wkV (tv h.bits)))) ∧ Below u.heap.size u w') := fun u => work_any (tv h.bits) u (tv_big h.bits)
 clear hh hc hw
 unfold hdV
 go_enter Tryz.func30, Tryz.ntmps30
 go_upto_region 1 with (fail)
 rw [zero_wcs]
 generalize (w.alloc (.cells (hdA h) 29)).alloc (.cells (wcs 0) 26) = W at *
 refine rgQ [0,1,2,3,4,5] [6,7,8] E1 rfl fun hw => ?_
 refine qo rfl hw ?_
 refine ql rfl (mT mH) HL.out hw ?_
 refine qc rfl Tryz.func33 (fun u hu => HTG.out u) hw ?_
 refine qw 3 hw ?_
 refine wpG_nil ?_
 refine qn rfl (new_wd _) fun gt HGT he2 => ?_
 change lexH _ _ _ _ _ _ [(gt, oc (wcs 0) 26), (w.heap.size + 1, oc (wcs 0) 26), (w.heap.size, oc (hdA h) 29)]
 refine (sh rfl HGT (wc_info _) ((wc_size _).trans (wc_size _).symm) (wc_one _) ?_)
 intro he3
 refine phE [8] [] he3 fun hw => ?_
 refine qo rfl hw ?_
 refine enP fun u6 EX5 => ?_
 go_upto_region 2 with (fail)
 refine rgQ [0,1] [] EX5 rfl fun hw => ?_
 refine qw 2 hw ?_
 refine enP fun u9 EX8 => ?_
 go_upto_region 4 with (fail)
 refine rgQ [0,1] [2] EX8 rfl fun hw => ?_
 refine qv rfl (fun u hu => load_any_op u (box_wide hu mH) rfl) hw ?_
 refine qc rfl Tryz.func71 (fun u hu => HWK.out u) hw ?_
 refine wpG_nil ?_
 refine (so rfl HLE.out (mT mH) (wc_info _) ((wc_size _).trans (wc_size _).symm) (wc_one _) ?_)
 refine fun _ => enL fun u13 EX12 => ?_
 have Q0 := hD (EnvX.box EX12.out _ _ mH)
 have HBEL := hD EX12.out.bel
 clear EX12
 go_wp2_with ((with_reducible refine bodyPost_ret (v := .agg (wcs (wkV (tv h.bits)))) ?_ ?_ ?_); (exact results_cell_row (p := 2) (ty := 26) Tryz.results30 _ _ (w.heap.size + 1) 26 (wcs (wkV (tv h.bits))) (0, 0) _ rfl Q0.out Tryz.underlying26 rfl (wc_info _)); (rfl))
 first | exact HBEL.out | exact ⟨rfl, HBEL.out⟩
theorem hwork_any (h : Hd) (w : World) (hh : okHd h) :
  Rz 30 #[hdV h] w (.agg (wcs (workH h))) := by
 unfold Rz
 cases hc : isC h.bits with
 | false => exact hwork_no h w hh hc
 | true => exact hwork_yes h w hh hc
open Go.RowKit Go.Shelf
theorem nonces_any (q : Int) (k : Int) (w : World) :
  Calls Tryz.prog 93 #[.int .u64 q, .int .i64 k] w fun e w' => e = .returned (.func (.func 145) #[] #[.pointer (some ⟨w.heap.size + 1, 0, none⟩), .pointer (some ⟨w.heap.size, 0, none⟩)]) ∧
   w' = (w.alloc (.cells #[.int .u64 q] 24)).alloc (.cells #[.int .i64 k] 3) := by
 go_enter Tryz.func93, Tryz.ntmps93
 go_wp2
 go_ret
 exact ⟨rfl, rfl⟩
attribute [local go_sem] Oper.semAt_some
theorem nonces1_in (n : Nat) (h1n : 1 ≤ n) (l Bc Bf n₀ q : Nat) (hq : q < 18446744073709551616) (cnt : Int) (K : Nat) (hcn : I64 cnt) (hK : cnt.toNat = K) (J Jx : List Nat → World → Prop)
  (hY : ∀ pre x W, J pre W → pre.length < K → YieldAt Fence.wide (n - 1) Tryz.prog l #[.int .u64 (((q + x) % 18446744073709551616 : Nat) : Int)] W fun e W' =>
    (e = .returned (.bool true) ∧ J (pre ++ [x]) W' ∧ KpB n₀ Bf W W') ∨ (e = .returned (.bool false) ∧ Jx (pre ++ [x]) W'))
  (W : World) (hBc : W.cell? ⟨Bc, 0, none⟩ = some (.int .i64 cnt)) (hBf : Boxed W Bf 24 (.int .u64 (q : Int))) (h0 : J [] W) :
  CallsIn Fence.wide n Tryz.prog 145 #[.func (.yield l) #[] #[], .pointer (some ⟨Bc, 0, none⟩), .pointer (some ⟨Bf, 0, none⟩)] W fun e W' => (∃ v, e = .returned v) ∧
    ((∃ ys, ys = List.range K ∧ J ys W') ∨ (∃ pre, (∃ j, pre = List.range (j + 1) ∧ j < K) ∧ Jx pre W')) := by
 unfold I64 at hcn
 have HYY := hD hY
 have HBB := hD hBf
 have HKK := hD hK
 clear hY hBf
 refine callsIn_of_wp Tryz.func145 rfl trivial ?_ rfl
 simp only [Tryz.ntmps145, List.size_toArray, List.length_cons, List.length_nil, Nat.reduceAdd, Nat.reduceSub, Array.replicate_succ, Array.replicate_zero, List.push_toArray, List.append_toArray, List.nil_append, List.cons_append]
 gi_wp2
 gi_loopw [6] (fun i wr => ∃ j : Nat, j ≤ K ∧ i = .int .i64 (j : Int) ∧ Hid (J (List.range j) wr ∧ KpB n₀ Bf W wr))
  (fun i _ => K - (intOf i).toNat)
 case atStart => exact ⟨0, Nat.zero_le _, rfl, h0, ⟨Below.refl _ _, fun _ h => h⟩⟩
 case round =>
  obtain ⟨j, hj, rfl, hinv⟩ := hrel
  obtain ⟨hJ, hKp⟩ := hinv.out
  by_cases hlt : j < K
  · have hj2 : (j : Int) < cnt := by omega
    have hbx : Boxed wr Bf 24 (.int .u64 (q : Int)) := hKp.2 _ HBB.out
    have hcb := hbx.cell
    obtain ⟨fn, tmps, assign, body, hy, hR⟩ := HYY.out (List.range j) j wr hJ (by rw [List.length_range]; exact hlt)
    obtain ⟨z, hz⟩ : ∃ z, (q + j) % 18446744073709551616 = z := ⟨_, rfl⟩
    rw [hz] at hy
    have s1 : IntKind.u64.wrap (j : Int) = (j : Int) := by rw [IntKind.wrap_u64]; omega
    have s2 : IntKind.u64.wrap ((q : Int) + (j : Int)) = (z : Int) := by rw [IntKind.wrap_u64]; omega
    have HR := hD hR
    have HKP := hD hKp
    have HS : Hid (List.range j ++ [j] = List.range (j + 1)) := List.range_succ.symm
    clear hJ hKp hinv hR hz hbx
    gi_wp2
    refine HR.out.mono ?_
    rintro e W3 (⟨rfl, hJ3, hk3⟩ | ⟨rfl, hJx3⟩)
    · rw [HS.out] at hJ3
      have HJ3 := hD hJ3
      have HK3 := hD hk3
      clear hJ3 hk3
      gi_wp2
      go_roundw
      case rel => exact ⟨j + 1, by omega, by go_num, HJ3.out, HKP.out.trans HK3.out⟩
      case measure => simp [intOf]; omega
    · rw [HS.out] at hJx3
      gi_wp2
      refine bodyPost_ret (results_none rfl _ _ _) rfl ?_
      exact ⟨⟨_, rfl⟩, .inr ⟨_, ⟨j, rfl, hlt⟩, hJx3⟩⟩
  · obtain rfl : j = K := by omega
    have hj3 : ¬ (j : Int) < cnt := by omega
    have HJ := hD hJ
    clear hJ hKp hinv
    gi_wp2
    go_end0
    first | exact ⟨⟨_, rfl⟩, .inl HJ.out⟩ | exact ⟨⟨_, rfl⟩, .inl ⟨_, rfl, HJ.out⟩⟩
def nextN (q k : Nat) : Nat := (q + k) % 18446744073709551616
theorem nonces_stops (n : Nat) (h1n : 1 ≤ n) (Bc Bf n₀ q : Nat) (hq : q < 18446744073709551616) (cnt : Int) (K : Nat) (hcn : I64 cnt) (hK : cnt.toNat = K) (w : World) (hBc : Boxed w Bc 3 (.int .i64 cnt)) (hBf : Boxed w Bf 24 (.int .u64 (q : Int))) :
  SeqStopsK Fence.wide n Tryz.prog 145 #[.pointer (some ⟨Bc, 0, none⟩), .pointer (some ⟨Bf, 0, none⟩)] (fun k : Nat => #[.int .u64 (nextN q k : Int)]) (KpB n₀ Bf) (fun ys => ys = List.range K) (fun pre => ∃ j, pre = List.range (j + 1) ∧ j < K) K w := fun l J Jx W hW _ _ hY h0 =>
 nonces1_in n h1n l Bc Bf n₀ q hq cnt K hcn hK J Jx hY W ((hW.cell (p := ⟨Bc, 0, none⟩) hBc.lt).trans hBc.cell) ((hW.block Bf hBf.lt).trans hBf) h0
theorem callsR_nonces {q k : Int} {u : World} : Calls Tryz.prog 93 #[.int .u64 q, .int .i64 k] u (fun e w'' => ∃ x N, e = .returned x ∧ (∃ g1 g2, x = .func (.func 145) #[] #[.pointer (some ⟨g2, 0, none⟩), .pointer (some ⟨g1, 0, none⟩)] ∧ N = [(g2, oc #[.int .i64 k] 3), (g1, oc #[.int .u64 q] 24)]) ∧ Below u.heap.size u w'' ∧ ∀ y ∈ N, u.heap.size ≤ y.1 ∧ w''.heap[y.1]? = some y.2) := by
 refine (nonces_any q k u).mono ?_
 rintro e w' ⟨rfl, rfl⟩
 refine ⟨_, _, rfl, ⟨_, _, rfl, rfl⟩, ((Below.refl _ _).alloc (Nat.le_refl _) _).alloc (by simp) _, fun y hy => ?_⟩
 have E := ((EnvX.start u).two (.cells #[.int .u64 q] 24) (.cells #[.int .i64 k] 3))
 rcases List.mem_cons.1 hy with rfl | hy
 · exact ⟨Nat.le_succ _, E.box _ _ mH⟩
 · cases mS.1 hy
   exact ⟨Nat.le_refl _, E.box _ _ (mT mH)⟩
section
variable {a : Act} {dst : Option Tmp} {x y : Operand} {ty : TypeId} {pos : String} {after : Array Edge} {gd : Option (Nat × Bool)}
theorem minI_op {m k r : Int} (u : World) (hr : min m k = r) (hx : a.eval x = .int .i64 m) (hy : a.eval y = .int .i64 k) :
  (execOp a.eval ⟨dst, .call { callee := .builtin .min, args := #[x, y], argTypes := #[3, 3] }, ty, pos, after, gd⟩).run Tryz.prog u = .ok (.value (.int .i64 r)) u := by
 subst hr
 unfold execOp
 simp only [resolve, invoke, builtin, Sem.run_bind, Sem.run_pure, Result.andThen_ok, List.map_toArray, List.map_cons, List.map_nil, hx, hy]
 go_simp
 split <;> omega
end
theorem oneBoolH : ∀ w, (isAgg 4).run Tryz.prog w = .ok false w := fun w => by simp [isAgg, run_underlying Tryz.underlying4]
theorem infoBoolH : (Tryz.prog.info? 4).map (·.size) = some 1 := by kernel_rfl
theorem hdA_put {h : Hd} (k : lenH h) (z : Nat) : (hdA h).setIfInBounds 134 (.int .u64 (z : Int)) = hdA { h with nonce := z } := by
 obtain ⟨p, hp, hl⟩ : ∃ p : List Value, (∀ n : Nat, hdC { h with nonce := n } = p ++ [.int .u64 (n : Int)]) ∧ p.length = 134 := by
  refine ⟨[.int .i64 h.height] ++ ((arrB 32 h.prev).toList ++ ((arrB 32 h.links).toList ++ ((arrB 32 h.txs).toList ++ ((arrB 32 h.past).toList ++ ((wcs h.work).toList ++ [.int .u32 h.bits]))))), fun n => ?_, ?_⟩
  · unfold hdC
    simp only [aA]
  · simp only [lA, idA_list k.1, idA_list k.2.1, idA_list k.2.2.1, idA_list k.2.2.2, wcs_list, List.length_cons, List.length_nil]
 have e1 : hdC h = p ++ [.int .u64 (h.nonce : Int)] := hp h.nonce
 unfold hdA
 rw [e1, hp z, List.setIfInBounds_toArray, List.set_append_right _ _ (by omega), hl]
 rfl
attribute [local go_sem] Oper.semAt_some
theorem hmine_any (h : Hd) (tries : Int) (w : World) (hh : okHd h) (ht : I64 tries) (hT : Tables w) :
  Calls Tryz.prog 46 #[hdV h, .int .i64 tries] w fun e w' => e = .returned (.tuple #[hdV (mineH h tries).1, .bool (mineH h tries).2]) ∧ Below w.heap.size w w' := by
 have HL := Lib.hid hh.len
 have HOK := Lib.hid hh
 have HTB := Lib.hid hT
 have HLE : Hid (w.heap.size ≤ w.heap.size + 1) := by show _ ≤ _; omega
 have HZN : Hid (lenH noHd) := ⟨rfl, rfl, rfl, rfl⟩
 have HLE2 : Hid (w.heap.size ≤ w.heap.size + 1 + 1) := by show _ ≤ _; omega
 obtain ⟨K, hK⟩ : ∃ K, (min tries 200).toNat = K := ⟨_, rfl⟩
 have HK := Lib.hid hK
 obtain ⟨cnt, hcnt⟩ : ∃ cnt, min tries 200 = cnt := ⟨_, rfl⟩
 have HCN := Lib.hid hcnt
 have E1 : Hid (EnvX w (((w.alloc (.cells (hdA h) 29)).alloc (.cells (hdA noHd) 29)).alloc (.cells #[.bool false] 4)) [(w.heap.size + 1 + 1, Obj.cells #[.bool false] 4 (0, 0)), (w.heap.size + 1, Obj.cells (hdA noHd) 29 (0, 0)), (w.heap.size, Obj.cells (hdA h) 29 (0, 0))]) := by
  have k := ((EnvX.start w).two (.cells (hdA h) 29) (.cells (hdA noHd) 29)).new (.cells #[.bool false] 4)
  rwa [World.size_alloc, World.size_alloc] at k
 obtain ⟨res, hres⟩ : ∃ res, mineH h tries = res := ⟨_, rfl⟩
 have HRES := Lib.hid hres
 rw [hres]
 clear hres
 unfold I64 at ht
 clear hh hT
 unfold hdV
 refine (callsIn_wide (n := 4)).1 (callsIn_of_wp_marks Tryz.func46 rfl trivial ((wpIn_wide (n := 4)).2 ?_) rfl)
 simp only [Tryz.ntmps46, List.size_toArray, List.length_cons, List.length_nil, Nat.reduceAdd, Nat.reduceSub, Array.replicate_succ, Array.replicate_zero, List.push_toArray, List.append_toArray, List.nil_append, List.cons_append]
 go_upto_region 1 with (fail)
 rw [← zero_hdA]
 generalize ((w.alloc (.cells (hdA h) 29)).alloc (.cells (hdA noHd) 29)).alloc (.cells #[.bool false] 4) = W at *
 refine rgP [0] [1, 2] E1 rfl ?_; intro hw1 hone
 (refine wpG_val (v := hdV h) rfl rfl (fun u hu => load_any_op u (box_hd hu (List.Mem.tail _ (List.Mem.tail _ (List.Mem.head _))) HL.out) rfl) ?_ hw1; intro K hK; go_big_quiet_op; go_big_quiet_on)
 clear hone hw1
 refine wpG_nil ?_
 refine (hOp_fresh (R := fun x N => ∃ g, x = .pointer (some ⟨g, 0, none⟩) ∧ N = [(g, Obj.cells (hdA noHd) 29 (0, 0))]) (M0 := [(w.heap.size + 1 + 1, Obj.cells #[.bool false] 4 (0, 0)), (w.heap.size + 1, Obj.cells (hdA noHd) 29 (0, 0)), (w.heap.size, Obj.cells (hdA h) 29 (0, 0))]) rfl rfl (fun _ h => h) (fun u hu => FAt_new (new_hd _) u) ?_)
 rintro _ _ ⟨gx, rfl, rfl⟩ hf he2; intro K' hK'; go_big_quiet_op; go_big_quiet_on
 have HGX := Lib.hid (hf _ (List.mem_singleton.2 rfl))
 clear hf
 change lexH _ _ _ _ _ _ [(gx, Obj.cells (hdA noHd) 29 (0, 0)), (w.heap.size + 1 + 1, Obj.cells #[.bool false] 4 (0, 0)), (w.heap.size + 1, Obj.cells (hdA noHd) 29 (0, 0)), (w.heap.size, Obj.cells (hdA h) 29 (0, 0))]
 refine (hOp_store rfl (gx) (hdA h) rfl rfl HGX.out.1 29 ((hdA noHd)) (List.Mem.head _) (infoHd _ (hdA_size HL.out)) ((hdA_size HZN.out).trans (hdA_size HL.out).symm) (hdA_one _) [(gx, Obj.cells (hdA h) 29 (0, 0)), (w.heap.size + 1 + 1, Obj.cells #[.bool false] 4 (0, 0)), (w.heap.size + 1, Obj.cells (hdA noHd) 29 (0, 0)), (w.heap.size, Obj.cells (hdA h) 29 (0, 0))] (List.forall_mem_cons.2 ⟨.inl rfl, fun y hy => .inr ⟨List.mem_cons_of_mem _ hy, HGX.out.2 y hy⟩⟩) ?_)
 intro he3
 intro u5 E2'
 have EX4 := Lib.hid E2'
 clear E2'
 go_upto_region 2 with (fail)
 refine rgP [0, 1, 2, 3] [4] EX4 rfl ?_; intro hw6 hone
 (refine wpG_op rfl rfl rfl ?_; intro K hK; go_big_quiet_op; go_big_quiet_on)
 (refine wpG_val (v := .int .u64 (h.nonce : Int)) rfl rfl (fun u hu => load_any_op u (box_hd_nonce hu (List.Mem.tail _ (List.Mem.tail _ (List.Mem.tail _ (List.Mem.head _)))) HL.out) rfl) ?_ hw6; intro K hK; go_big_quiet_op; go_big_quiet_on)
 (refine wpG_op rfl rfl rfl ?_; intro K hK; go_big_quiet_op; go_big_quiet_on)
 (refine wpG_val (v := .int .i64 cnt) rfl rfl (fun u hu => minI_op u HCN.out rfl rfl) ?_ hw6; intro K hK; go_big_quiet_op; go_big_quiet_on)
 clear hone hw6
 refine wpG_nil ?_
 refine (hOp_fresh (R := fun x N => ∃ g1 g2, x = .func (.func 145) #[] #[.pointer (some ⟨g2, 0, none⟩), .pointer (some ⟨g1, 0, none⟩)] ∧ N = [(g2, Obj.cells #[.int .i64 cnt] 3 (0, 0)), (g1, Obj.cells #[.int .u64 (h.nonce : Int)] 24 (0, 0))]) (M0 := [(gx, Obj.cells (hdA h) 29 (0, 0)), (w.heap.size + 1 + 1, Obj.cells #[.bool false] 4 (0, 0)), (w.heap.size + 1, Obj.cells (hdA noHd) 29 (0, 0)), (w.heap.size, Obj.cells (hdA h) 29 (0, 0))]) rfl rfl (fun _ h => h) (fun u hu => FAt_call (fid := 93) (xs := #[.tmp 10, .tmp 12]) (args := #[.int .u64 (h.nonce : Int), .int .i64 cnt]) rfl Tryz.func93 rfl rfl u (callsR_nonces)) ?_)
 rintro _ _ ⟨gf, gc, rfl, rfl⟩ hf he7; intro K' hK'; go_big_quiet_op; go_big_quiet_on
 have HGC := Lib.hid (hf _ (List.Mem.head _))
 have HGF := Lib.hid (hf _ (List.Mem.tail _ (List.Mem.head _)))
 clear hf
 change lexH _ _ _ _ _ _ [(gc, Obj.cells #[.int .i64 cnt] 3 (0, 0)), (gf, Obj.cells #[.int .u64 (h.nonce : Int)] 24 (0, 0)), (gx, Obj.cells (hdA h) 29 (0, 0)), (w.heap.size + 1 + 1, Obj.cells #[.bool false] 4 (0, 0)), (w.heap.size + 1, Obj.cells (hdA noHd) 29 (0, 0)), (w.heap.size, Obj.cells (hdA h) 29 (0, 0))]
 refine enL fun u9 EX8 => ?_
 clear he2 he3 EX4 E1
 have EX := EX8.out
 clear EX8
 have hsz := EX.bel.size
 have hnon := HOK.out.2.2.2.2.2.2.2
 have hcn : I64 cnt := by unfold I64; omega
 have hck : cnt.toNat = K := by omega
 have HGX2 : Hid (w.heap.size ≤ gx ∧ gx ≠ gc ∧ gx ≠ gf ∧ gx ≠ w.heap.size + 1 + 1 ∧ gx ≠ w.heap.size + 1 ∧ gx ≠ w.heap.size) := by
  have a1 := HGX.out.2 _ (List.Mem.head _)
  have a2 := HGX.out.2 _ (List.Mem.tail _ (List.Mem.head _))
  have a3 := HGX.out.2 _ (List.Mem.tail _ (List.Mem.tail _ (List.Mem.head _)))
  have b1 := HGC.out.2 _ (List.Mem.head _)
  have b2 := HGF.out.2 _ (List.Mem.head _)
  dsimp only at a1 a2 a3 b1 b2
  exact ⟨HGX.out.1, b1, b2, Ne.symm a1, Ne.symm a2, Ne.symm a3⟩
 have HGF2 : Hid (gf ≠ w.heap.size + 1 + 1 ∧ gf ≠ w.heap.size + 1) := by
  have b1 := HGF.out.2 _ (List.Mem.tail _ (List.Mem.head _))
  have b2 := HGF.out.2 _ (List.Mem.tail _ (List.Mem.tail _ (List.Mem.head _)))
  dsimp only at b1 b2
  exact ⟨Ne.symm b1, Ne.symm b2⟩
 have HCL : Hid (∀ (m : Nat), ∀ x ∈ [(gc, Obj.cells #[.int .i64 cnt] 3 (0, 0)), (gf, Obj.cells #[.int .u64 (h.nonce : Int)] 24 (0, 0)), (gx, Obj.cells (hdA { h with nonce := m }) 29 (0, 0)), (w.heap.size + 1 + 1, Obj.cells #[.bool false] 4 (0, 0)), (w.heap.size + 1, Obj.cells (hdA noHd) 29 (0, 0)), (w.heap.size, Obj.cells (hdA h) 29 (0, 0))], x.2.isCells = true) := fun m x hx => by
  simp only [List.mem_cons, List.not_mem_nil, or_false] at hx
  rcases hx with rfl | rfl | rfl | rfl | rfl | rfl <;> rfl
 go_wp2_with fail
 refine (wpIn_wide (n := 4)).1 ?_
 refine wpIn_rangeFunc_ownF (F := Fence.wide) (α := Nat) (gf := 145) (lb := #[.pointer (some ⟨gc, 0, none⟩), .pointer (some ⟨gf, 0, none⟩)]) rfl (by decide) rfl trivial (enters_of Tryz.func145 (by kernel_rfl) rfl)
  (nonces_stops 3 (by decide) gc gf w.heap.size h.nonce hnon cnt K hcn hck u9 (EnvX.box EX _ _ (List.Mem.head _)) (EnvX.box EX _ _ (List.Mem.tail _ (List.Mem.head _)))) KpB.trans (KpB.put hsz (EnvX.lt EX (List.Mem.tail _ (List.Mem.head _)))) (Below.refl _ _) (fun _ => rfl)
  (fun pre W => (∀ x ∈ pre, mayH (nonceAt h x) = false) ∧ ∃ m : Nat, EnvX w W [(gc, Obj.cells #[.int .i64 cnt] 3 (0, 0)), (gf, Obj.cells #[.int .u64 (h.nonce : Int)] 24 (0, 0)), (gx, Obj.cells (hdA { h with nonce := m }) 29 (0, 0)), (w.heap.size + 1 + 1, Obj.cells #[.bool false] 4 (0, 0)), (w.heap.size + 1, Obj.cells (hdA noHd) 29 (0, 0)), (w.heap.size, Obj.cells (hdA h) 29 (0, 0))])
  (fun c pre W => c = .ret ∧ ∃ (pre' : List Nat) (k : Nat), pre = pre' ++ [k] ∧ (∀ x ∈ pre', mayH (nonceAt h x) = false) ∧ mayH (nonceAt h k) = true ∧ EnvX w W [(w.heap.size + 1 + 1, Obj.cells #[.bool true] 4 (0, 0)), (w.heap.size + 1, Obj.cells (hdA (nonceAt h k)) 29 (0, 0))])
  (fun s A B row hs hg hr => ⟨hs.1, hs.2.imp fun m he => envx_turn he (HCL.out m) hsz hg hr⟩)
  (fun c s A B row hs hg hr => ⟨hs.1, hs.2.imp fun pre' hs => hs.imp fun k hs => ⟨hs.1, hs.2.1, hs.2.2.1, envx_turn hs.2.2.2 (fun x hx => by
   simp only [List.mem_cons, List.not_mem_nil, or_false] at hx
   rcases hx with rfl | rfl <;> rfl) hsz hg hr⟩⟩)
  ⟨(fun x hx => by cases hx), h.nonce, EX⟩
  (fun k => { tmps := #[.agg (hdA h), .int .i64 tries, .pointer (some ⟨w.heap.size, 0, none⟩), undef, .pointer (some ⟨w.heap.size + 1, 0, none⟩), .pointer (some ⟨w.heap.size + 1 + 1, 0, none⟩), .pointer (some ⟨gx, 0, none⟩), .int .u64 (nextN h.nonce k : Int), hdV h, .pointer (some ⟨w.heap.size, 134, none⟩), .int .u64 (h.nonce : Int), .int .i64 tries, .int .i64 cnt, .func (.func 145) #[] #[.pointer (some ⟨gc, 0, none⟩), .pointer (some ⟨gf, 0, none⟩)], .int .u64 (nextN h.nonce k : Int), undef, undef, undef, undef, undef, undef], defers := [] }) ?assign ?body ?done ?stop
 case assign =>
  intro l k W K hK
  gi_wp2
  exact hK
 case body =>
  rintro l pre k W ⟨hno, m, hI⟩ hlen
  have r0 : Row W gx 29 (hdA { h with nonce := m }) := EnvX.box hI _ _ (List.Mem.tail _ (List.Mem.tail _ (List.Mem.head _)))
  have hc : W.cell? ⟨gx, 134, none⟩ = some (.int .u64 (m : Int)) := (r0.cell 134).trans (hdC_nonce (h := { h with nonce := m }) HL.out)
  have hf := r0.frozen 134
  refine wpIn_block (wpIn_seq ?_)
  refine region_round_list (by kernel_rfl) (fun h => by obtain ⟨_, _, h⟩ := h; exact h) ?_
  go_wp2
  have E1 : Hid (EnvX w (W.setCell ⟨gx, 134, none⟩ (.int .u64 (nextN h.nonce k : Int))) [(gc, Obj.cells #[.int .i64 cnt] 3 (0, 0)), (gf, Obj.cells #[.int .u64 (h.nonce : Int)] 24 (0, 0)), (gx, Obj.cells (hdA (nonceAt h k)) 29 (0, 0)), (w.heap.size + 1 + 1, Obj.cells #[.bool false] 4 (0, 0)), (w.heap.size + 1, Obj.cells (hdA noHd) 29 (0, 0)), (w.heap.size, Obj.cells (hdA h) 29 (0, 0))]) := by
   refine ⟨hI.bel.setCell (p := ⟨gx, 134, none⟩) HGX2.out.1 _, fun g o hm => ?_⟩
   have hne : ∀ g' o', (g', o') ∈ [(gc, Obj.cells #[.int .i64 cnt] 3 (0, 0)), (gf, Obj.cells #[.int .u64 (h.nonce : Int)] 24 (0, 0)), (gx, Obj.cells (hdA { h with nonce := m }) 29 (0, 0)), (w.heap.size + 1 + 1, Obj.cells #[.bool false] 4 (0, 0)), (w.heap.size + 1, Obj.cells (hdA noHd) 29 (0, 0)), (w.heap.size, Obj.cells (hdA h) 29 (0, 0))] → gx ≠ g' → (W.setCell ⟨gx, 134, none⟩ (.int .u64 (nextN h.nonce k : Int))).heap[g']? = some o' := fun g' o' hm hn => (Below.heap_setCell W ⟨gx, 134, none⟩ _ g' (Ne.symm hn)).trans (hI.box g' o' hm)
   have hG := HGX2.out.2
   simp only [List.mem_cons, Prod.mk.injEq, List.not_mem_nil, or_false] at hm
   rcases hm with ⟨rfl, rfl⟩ | ⟨rfl, rfl⟩ | ⟨rfl, rfl⟩ | ⟨rfl, rfl⟩ | ⟨rfl, rfl⟩ | ⟨rfl, rfl⟩
   · exact hne _ _ (List.Mem.head _) hG.1
   · exact hne _ _ (List.Mem.tail _ (List.Mem.head _)) hG.2.1
   · have := r0.put 134 (.int .u64 (nextN h.nonce k : Int))
     rw [hdA_put (h := { h with nonce := m }) HL.out] at this
     exact this
   · exact hne _ _ (List.Mem.tail _ (List.Mem.tail _ (List.Mem.tail _ (List.Mem.head _)))) hG.2.2.1
   · exact hne _ _ (List.Mem.tail _ (List.Mem.tail _ (List.Mem.tail _ (List.Mem.tail _ (List.Mem.head _))))) hG.2.2.2.1
   · exact hne _ _ (List.Mem.tail _ (List.Mem.tail _ (List.Mem.tail _ (List.Mem.tail _ (List.Mem.tail _ (List.Mem.head _)))))) hG.2.2.2.2
  have HKO : Hid (KeepsOthers W (W.setCell ⟨gx, 134, none⟩ (.int .u64 (nextN h.nonce k : Int))) ∧ Below w.heap.size W (W.setCell ⟨gx, 134, none⟩ (.int .u64 (nextN h.nonce k : Int)))) := ⟨KeepsOthers.setCell _ _ _, (Below.refl _ _).setCell (p := ⟨gx, 134, none⟩) HGX2.out.1 _⟩
  have HNO := Lib.hid hno
  have HI := Lib.hid hI
  have HLK : lenH (nonceAt h k) := HL.out
  have HWS : Hid (w.heap.size ≤ W.heap.size) := hI.bel.size
  clear hc hf r0 hno hI
  generalize W.setCell ⟨gx, 134, none⟩ (.int .u64 (nextN h.nonce k : Int)) = W1 at *
  refine wpIn_seq ?_
  refine region_round_list (by kernel_rfl) (fun h => by obtain ⟨_, _, h⟩ := h; exact h) ?_
  have HLD : Hid ((loadVar 29 ⟨gx, 0, none⟩).run Tryz.prog W1 = .ok (.agg (hdA (nonceAt h k))) W1) := box_hd E1.out (List.Mem.tail _ (List.Mem.tail _ (List.Mem.head _))) HLK
  go_wp2_with ((with_reducible refine wpList_load_run (o := ⟨some 17, _, _, _, _, _⟩) ?_ 29 (.tmp 6) ?_ ⟨gx, 0, none⟩ ?_ HLD.out ?_); (rfl); (rfl); (rfl))
  refine (hmay_any (nonceAt h k) W1 (okHd_nonce HOK.out k) (HTB.out.below E1.out.bel)).mono ?_
  rintro e W2 ⟨rfl, hb2⟩
  have E2 : Hid (EnvX w W2 [(gc, Obj.cells #[.int .i64 cnt] 3 (0, 0)), (gf, Obj.cells #[.int .u64 (h.nonce : Int)] 24 (0, 0)), (gx, Obj.cells (hdA (nonceAt h k)) 29 (0, 0)), (w.heap.size + 1 + 1, Obj.cells #[.bool false] 4 (0, 0)), (w.heap.size + 1, Obj.cells (hdA noHd) 29 (0, 0)), (w.heap.size, Obj.cells (hdA h) 29 (0, 0))]) := EnvX.below E1.out hb2
  have HKO2 : Hid (KeepsOthers W W2 ∧ Below w.heap.size W W2) := ⟨HKO.out.1.trans (keepsOthers_below hb2), HKO.out.2.trans (hb2.mono (Nat.le_trans HWS.out HKO.out.2.size))⟩
  clear hb2 E1 HLD HKO
  cases hm : mayH (nonceAt h k) with
  | false =>
   have HNO2 : Hid (∀ x ∈ pre ++ [k], mayH (nonceAt h x) = false) := fun x hx => by
     rcases List.mem_append.1 hx with hx | hx
     · exact HNO.out x hx
     · cases List.mem_singleton.1 hx
       exact hm
   clear hm
   go_wp2
   refine wpIn_cond_false rfl (wpIn_skip ?_)
   exact ⟨HKO2.out.1, ⟨HKO2.out.2, fun o ho => by
     rw [EnvX.box HI.out _ _ (List.Mem.tail _ (List.Mem.head _))] at ho
     cases ho
     exact EnvX.box E2.out _ _ (List.Mem.tail _ (List.Mem.head _))⟩, HNO2.out, nextN h.nonce k, E2.out⟩
  | true =>
   go_wp2
   refine wpIn_cond_true rfl (wpIn_seq ?_)
   refine region_round_list (by kernel_rfl) (fun h => by obtain ⟨_, _, h⟩ := h; exact h) ?_
   have HM := Lib.hid hm
   have HLD : Hid ((loadVar 29 ⟨gx, 0, none⟩).run Tryz.prog W2 = .ok (.agg (hdA (nonceAt h k))) W2) := box_hd E2.out (List.Mem.tail _ (List.Mem.tail _ (List.Mem.head _))) HLK
   have R1 : Hid (W2.heap[w.heap.size + 1]? = some (.cells (hdA noHd) 29 (0, 0))) := EnvX.box E2.out _ _ (List.Mem.tail _ (List.Mem.tail _ (List.Mem.tail _ (List.Mem.tail _ (List.Mem.head _)))))
   have R2 : Hid (Row (W2.setRow (w.heap.size + 1) (hdA (nonceAt h k))) (w.heap.size + 1 + 1) 4 #[.bool false]) := Row.setRowFar (EnvX.box E2.out _ _ (List.Mem.tail _ (List.Mem.tail _ (List.Mem.tail _ (List.Mem.head _))))) (by omega)
   have R3 : Hid (Row (W2.setRow (w.heap.size + 1) (hdA (nonceAt h k))) (w.heap.size + 1) 29 (hdA (nonceAt h k))) := Row.setRow R1.out
   have hc2 := R2.out.cell 0
   have hf2 := R2.out.frozen 0
   have HK3 : Hid (KeepsOthers W (W2.setRow (w.heap.size + 1) (hdA (nonceAt h k))) ∧ Below w.heap.size W (W2.setRow (w.heap.size + 1) (hdA (nonceAt h k)))) := ⟨HKO2.out.1.trans (KeepsOthers.setRow' R1.out), below_setRow HKO2.out.2 (Nat.le_succ _) _⟩
   have hszk : Hid ((hdA (nonceAt h k)).size = 135) := hdA_size HLK
   have hsz0 : Hid ((hdA noHd).size = 135) := hdA_size HZN.out
   have ho := Lib.hid (hdA_one (nonceAt h k))
   clear hm E2 HKO2
   generalize hE2 : hdA (nonceAt h k) = cs at *
   have HE := Lib.hid hE2
   clear hE2
   generalize hdA noHd = zs at *
   go_wp2_with (first
     | ((with_reducible refine wpList_load_run (o := ⟨some 19, _, _, _, _, _⟩) ?_ 29 (.tmp 6) ?_ ⟨gx, 0, none⟩ ?_ HLD.out ?_); (rfl); (rfl); (rfl))
     | ((with_reducible refine wpList_store_row (o := ⟨none, .store 29 _ _, _, _, _, _⟩) ?_ 29 (.tmp 4) (.tmp 19) ?_ (w.heap.size + 1) cs ?_ ?_ 29 zs R1.out (infoHd cs hszk.out) (by rw [hsz0.out, hszk.out]) ho.out ?_); (rfl); (rfl); (rfl); (rfl)))
   refine wpIn_ret ?_
   refine ⟨HK3.out.1.trans (KeepsOthers.setCell _ _ _), rfl, pre, k, rfl, HNO.out, HM.out, ⟨?_, fun g o hm => ?_⟩⟩
   · exact (HI.out.bel.trans HK3.out.2).setCell (p := ⟨w.heap.size + 1 + 1, 0, none⟩) (by show w.heap.size ≤ w.heap.size + 1 + 1; omega) _
   · rw [HE.out] at hm
     simp only [List.mem_cons, Prod.mk.injEq, List.not_mem_nil, or_false] at hm
     rcases hm with ⟨rfl, rfl⟩ | ⟨rfl, rfl⟩
     · exact R2.out.put 0 (.bool true)
     · exact R3.out.farAt (by omega) _
 case done =>
  rintro D ys W hD rfl ⟨hno, m, hI⟩ hK
  have HMI : mineH h tries = (h, false) := mine_none (by rw [HK.out]; exact fun j hj => hno j (List.mem_range.2 hj))
  have hs1 := EnvX.lt EX (List.Mem.tail _ (List.Mem.tail _ (List.Mem.tail _ (List.Mem.tail _ (List.Mem.head _)))))
  have hs2 := EnvX.lt EX (List.Mem.tail _ (List.Mem.tail _ (List.Mem.tail _ (List.Mem.head _))))
  have HD : Hid (w.heap.size + 1 ≠ D ∧ w.heap.size + 1 + 1 ≠ D ∧ w.heap.size ≤ D) := ⟨by omega, by omega, by omega⟩
  have EI : Hid (EnvX w W [(D, Obj.deferred (some [])), (w.heap.size + 1 + 1, Obj.cells #[.bool false] 4 (0, 0)), (w.heap.size + 1, Obj.cells (hdA noHd) 29 (0, 0)), (w.heap.size, Obj.cells (hdA h) 29 (0, 0))]) := ⟨hI.bel, fun g o hm => (List.mem_cons.1 hm).elim (fun e => by cases e; exact hK) (fun hm => hI.box g o (List.mem_cons_of_mem _ (List.mem_cons_of_mem _ (List.mem_cons_of_mem _ hm))))⟩
  have HRE : Hid (res = (h, false)) := HRES.out.symm.trans HMI
  clear hno hI hK hs1 hs2 hD HMI EX
  go_upto_region 7 with (fail)
  refine rgP [0] [1, 2] EI rfl ?_; intro hw701 hone
  (refine wpG_val (v := hdV h) rfl rfl (fun u hu => load_any_op u (box_hd hu (List.Mem.tail _ (List.Mem.tail _ (List.Mem.tail _ (List.Mem.head _)))) HL.out) rfl) ?_ hw701; intro K hK; go_big_quiet_op; go_big_quiet_on)
  clear hone hw701
  refine wpG_nil ?_
  refine (hOp_store rfl (w.heap.size + 1) (hdA h) rfl rfl HLE.out 29 ((hdA noHd)) (List.Mem.tail _ (List.Mem.tail _ (List.Mem.head _))) (infoHd _ (hdA_size HL.out)) ((hdA_size HZN.out).trans (hdA_size HL.out).symm) (hdA_one _) [(w.heap.size + 1, Obj.cells (hdA h) 29 (0, 0)), (w.heap.size + 1 + 1, Obj.cells #[.bool false] 4 (0, 0)), (D, Obj.deferred (some []))] (List.forall_mem_cons.2 ⟨.inl rfl, List.forall_mem_cons.2 ⟨.inr ⟨(List.Mem.tail _ (List.Mem.head _)), (by show w.heap.size + 1 + 1 ≠ _; omega)⟩, List.forall_mem_cons.2 ⟨.inr ⟨(List.Mem.head _), (Ne.symm HD.out.1)⟩, (fun _ h => by cases h)⟩⟩⟩) ?_)
  intro he702
  refine (hOp_putAt rfl (w.heap.size + 1 + 1) (0) (.bool false) rfl rfl HLE2.out 4 (#[.bool false]) (#[.bool false]) (List.Mem.tail _ (List.Mem.head _)) infoBoolH (by decide) (by simp [Value.cells]; rfl) rfl [(w.heap.size + 1 + 1, Obj.cells (#[.bool false]) 4 (0, 0)), (w.heap.size + 1, Obj.cells (hdA h) 29 (0, 0)), (D, Obj.deferred (some []))] (List.forall_mem_cons.2 ⟨.inl rfl, List.forall_mem_cons.2 ⟨.inr ⟨(List.Mem.head _), (by show w.heap.size + 1 ≠ _; omega)⟩, List.forall_mem_cons.2 ⟨.inr ⟨(List.Mem.tail _ (List.Mem.tail _ (List.Mem.head _))), (Ne.symm HD.out.2.1)⟩, (fun _ h => by cases h)⟩⟩⟩) ?_)
  intro he703
  intro u705 E2'
  have EX704 := Lib.hid E2'
  clear E2'
  have EJ := EX704.out
  clear EX704
  have hkD := EnvX.box EJ _ _ (List.Mem.tail _ (List.Mem.tail _ (List.Mem.head _)))
  have hbelD : Hid (Below w.heap.size w (u705.putObj D (.deferred none))) := EJ.bel.trans (belowK_b (w := w) (Nat.le_refl _) u705 D _ _ HD.out.2.2 hkD rfl rfl)
  have g1 : (u705.putObj D (.deferred none)).heap[w.heap.size + 1]? = some (.cells (hdA h) 29 (0, 0)) := (World.putObj_heap_other HD.out.1).trans (EnvX.box EJ _ _ (List.Mem.tail _ (List.Mem.head _)))
  have g2 : Row (u705.putObj D (.deferred none)) (w.heap.size + 1 + 1) 4 #[.bool false] := (World.putObj_heap_other HD.out.2.1).trans (EnvX.box EJ _ _ (List.Mem.head _))
  have HKD := Lib.hid hkD
  have HG := Lib.hid (And.intro g1 g2)
  clear EJ hkD g1 g2
  go_wp2
  refine ⟨by simp, .inl ⟨_, _, rfl, run_takeDeferred HKD.out, ?_⟩⟩
  exact ⟨_, results_row_cell (p := 4) (q := 5) (ty := 29) (ty' := 4) Tryz.results46 _ _ (w.heap.size + 1) (w.heap.size + 1 + 1) 29 (hdA h) (0, 0) _ rfl rfl (.bool false) (run_load_one oneBoolH _ (HG.out.2.cell 0)) HG.out.1 Tryz.underlying29 rfl (infoHd _ (hdA_size HL.out)), by rw [HRE.out], hbelD.out⟩
 case stop =>
  rintro D c pre W hD ⟨j, hpre, hj⟩ ⟨rfl, pre', k, hpk, hno, hyes, hI⟩ hK
  obtain ⟨rfl, hkj⟩ := List.append_inj' (hpk.symm.trans (hpre.trans List.range_succ)) rfl
  obtain rfl : k = j := by simpa using hkj
  have HMI : mineH h tries = (nonceAt h k, true) := mine_some (by rw [HK.out]; exact hj) (fun i hi => hno i (List.mem_range.2 hi)) hyes
  have HLK : lenH (nonceAt h k) := HL.out
  have hs1 := EnvX.lt EX (List.Mem.tail _ (List.Mem.tail _ (List.Mem.tail _ (List.Mem.tail _ (List.Mem.head _)))))
  have hs2 := EnvX.lt EX (List.Mem.tail _ (List.Mem.tail _ (List.Mem.tail _ (List.Mem.head _))))
  have hbelD : Hid (Below w.heap.size w (W.putObj D (.deferred none))) := hI.bel.trans (belowK_b (w := w) (Nat.le_refl _) W D _ _ (by omega) hK rfl rfl)
  have g1 : (W.putObj D (.deferred none)).heap[w.heap.size + 1]? = some (.cells (hdA (nonceAt h k)) 29 (0, 0)) := (World.putObj_heap_other (by omega)).trans (EnvX.box hI _ _ (List.Mem.tail _ (List.Mem.head _)))
  have g2 : Row (W.putObj D (.deferred none)) (w.heap.size + 1 + 1) 4 #[.bool true] := (World.putObj_heap_other (by omega)).trans (EnvX.box hI _ _ (List.Mem.head _))
  have HKD := Lib.hid hK
  have HG := Lib.hid (And.intro g1 g2)
  have HRE : Hid (res = (nonceAt h k, true)) := HRES.out.symm.trans HMI
  refine wpIn_ret ?_
  refine ⟨by simp, .inl ⟨_, _, rfl, run_takeDeferred HKD.out, ?_⟩⟩
  exact ⟨_, results_row_cell (p := 4) (q := 5) (ty := 29) (ty' := 4) Tryz.results46 _ _ (w.heap.size + 1) (w.heap.size + 1 + 1) 29 (hdA (nonceAt h k)) (0, 0) _ rfl rfl (.bool true) (run_load_one oneBoolH _ (HG.out.2.cell 0)) HG.out.1 Tryz.underlying29 rfl (infoHd _ (hdA_size HLK)), by rw [HRE.out], hbelD.out⟩
theorem carry_okQ : ∀ (r : List Tot) (x : Tot), okT x → okTs r → okTs (carryT x r)
 | [], x, hx, _ => fun t ht => by cases mS.1 ht; exact hx
 | y :: r, x, hx, hr => by
  unfold carryT
  split
  · exact carry_okQ r _ join_ok (fun t ht => hr t (mT ht))
  · intro t ht
    rcases List.mem_cons.1 ht with rfl | h
    · exact hx
    · exact hr t h
theorem app_okQ {p : List Tot} {x : Tot} (hp : okTs p) (hx : okT x) : okTs (appT p x) := fun t ht => by
 unfold appT at ht
 exact carry_okQ p.reverse x hx (fun s hs => hp s (List.mem_reverse.1 hs)) t (List.mem_reverse.1 ht)
theorem up_okQ : ∀ (r : List Tot) (x : Tot), okT x → okT (upT x r)
 | [], x, hx => hx
 | y :: r, x, _ => up_okQ r _ join_ok
theorem JLeft.own {w0 w : World} {l : List Tot} {v : Value} {M' : Boxes} (h : JLeft w0 [] l v M') (hl : okTs l) (hE : EnvX w0 w M') : OwnT w w0.heap.size v l := by
 obtain ⟨N, rfl, hF, hn⟩ := h
 exact hF.own (flatT_len hl) (fun y hy => ⟨(hn y hy).1, EnvX.box hE _ _ (mL hy)⟩)
theorem mapp_any (p : List Tot) (leaf : Tot) (A : Option Addr) (n c : Nat) (w : World) (hl : p.length = n) (hn : n ≤ 1000000) (hI : okTs p) (hlf : okT leaf) (hA : TotsIn w w.heap.size A p) (ht : Tables w) :
  Calls Tryz.prog 78 #[.slice A n c, totV leaf] w fun e w' => (∃ v, e = .returned v ∧ OwnT w' w.heap.size v (appT p leaf)) ∧ Below w.heap.size w w' := by
 have HPL : Hid ((p.map totC).flatten.length = n * 37) := by show _ = _; rw [flatT_len hI, hl]
 have HLF := hD hlf
 have HNB : Hid (n ≤ 1000000) := hn
 have HOK := hD (app_okQ hI hlf)
 have HCL : Hid (∀ u, Below w.heap.size w u → Calls Tryz.prog 67 #[.slice A n c] u fun e w' => (∃ v, e = .returned v ∧ w'.ownsRow u.heap.size 56 37 v n (p.map totC).flatten) ∧ Below u.heap.size u w') := fun u hb => mclone_any p A n c u hl hn hI (hA.up hb)
 have HJL : Hid (∀ (v : Value) (N : Boxes) (u : World), FreshR 56 37 (n + 1) ((p.map totC).flatten ++ totC leaf) v N → freshN w N [] → EnvX w u (N ++ []) → Calls Tryz.prog 66 #[v, .func (.func 132) #[] #[]] u fun e w'' => ∃ x' M', e = .returned x' ∧ EnvX w w'' M' ∧ JLeft w [] (appT p leaf) x' M') := fun v N u hF hn2 hE => by
  have hlen : p.reverse.length + 1 = n + 1 := by rw [List.length_reverse, hl]
  have h := jlA w [] p.reverse leaf v N u (fun t ht => by
   rcases List.mem_cons.1 ht with rfl | h
   · exact hlf
   · exact hI t (List.mem_reverse.1 h)) (by rw [hlen]; omega) (by
   rw [hlen, List.reverse_cons, List.reverse_reverse, List.map_append, List.flatten_append, List.map_singleton, List.flatten_singleton]
   exact hF) hn2 hE ht
  rw [jl_carry] at h
  exact h
 have E1 : Hid (EnvX w (w.alloc (.cells (totA leaf) 56)) [(w.heap.size, oc (totA leaf) 56)]) := (EnvX.start w).new _
 clear hI hlf hA hl ht
 unfold totV
 go_enter Tryz.func78, Tryz.ntmps78
 go_upto_region 2 with (fail)
 generalize w.alloc (.cells (totA leaf) 56) = W at *
 refine rgK [0,2,5] 5 E1 rfl (by kernel_rfl) (by kernel_rfl) fun hw => ?_
 refine qo rfl hw ?_
 refine ql rfl mH HLF.out.len hw ?_
 refine qo rfl hw ?_
 refine wpG_nil ?_
 refine anyH_twoFreshG (i := 1) (j := 3) (fun _ _ _ hM hh => env_perm _ _ _ hM hh) (by kernel_rfl) (by kernel_rfl) (by kernel_rfl) rfl rfl (by decide) (by kernel_rfl) rfl rfl (FreshR 56 37 n (p.map totC).flatten) (BuiltR 56 (totC leaf)) [(w.heap.size, oc (totA leaf) 56)] [(w.heap.size, oc (totA leaf) 56)] (fun _ h => h) (fun _ h => h) (fun u hu => FAt_call (fid := 67) (xs := #[.tmp 6]) (args := #[.slice A n c]) rfl Tryz.func67 rfl rfl u (callsR_fresh (HCL.out u (EnvX.bel hu)))) (fun u hu => FAt_buildR elTot (totC_len HLF.out.len) (totC_one _) rfl u) ?_
 rintro x1 N1 x2 N2 hF ⟨gb, rfl, rfl⟩ hf1 hf2 he2 K1 hK1; go_big_quiet_op; go_big_quiet_on; intro K' hK'; go_big_quiet_op; go_big_quiet_on
 have HF := hD hF
 have HN := hD hf1
 clear hF
 clear hf1 hf2
 change anyH _ _ _ _ _ _ _ _ ((gb, oc (totC leaf).toArray 56) :: (N1 ++ ((w.heap.size, oc (totA leaf) 56) :: [])))
 refine anyH_one (i := 4) (by kernel_rfl) (hOp_own (gd := none) (R := GrownR w 56 37 (n + 1) ((p.map totC).flatten ++ totC leaf) []) rfl rfl rfl rfl (fun u hu => appX_op elTot (m := 1) [] hu HPL.out (by rw [Nat.one_mul]; exact totC_len HLF.out.len) (totC_one _) HF.out (fun y hy => ⟨mT (mL hy), (HN.out y hy).1⟩) (src_box (k := 0) hu mH (by rw [List.drop_zero, List.take_length])) (fun _ h => by cases h) (by have := HNB.out; omega) rfl rfl) ?_)
 rintro x9 M' ⟨N2, rfl, hF2, hn2⟩ he3; intro K' hK'; go_big_quiet_op; go_big_quiet_on
 have HF2 := hD (And.intro hF2 hn2)
 clear hF2 hn2
 change anyH _ _ _ _ _ _ _ _ (N2 ++ [])
 refine anyH_one (i := 6) (by kernel_rfl) (hOp_turn (gd := none) (R := JLeft w [] (appT p leaf)) rfl rfl rfl rfl (fun u hu => OUpon_call (fid := 66) (xs := #[.tmp 10, .tmp 11]) (args := #[x9, .func (.func 132) #[] #[]]) rfl Tryz.func66 rfl rfl u (HJL.out x9 N2 u HF2.out.1 HF2.out.2 hu)) ?_)
 rintro x7 M' ⟨N7, rfl, hF7, hn7⟩ he4; intro K' hK'; go_big_quiet_op; go_big_quiet_on
 have HJ : Hid (JLeft w [] (appT p leaf) x7 (N7 ++ [])) := ⟨N7, rfl, hF7, hn7⟩
 clear hF7 hn7
 refine phF [7] 0 rfl he4 (by kernel_rfl) fun hw => ?_
 refine qo rfl hw ?_
 refine enH (by kernel_rfl) fun u7 EX6 => ?_
 go_wp2
 go_ret
 exact ⟨⟨_, rfl, HJ.out.own HOK.out EX6.out⟩, EnvX.bel EX6.out⟩
theorem root_load {u : World} {g : Nat} {cur : Array Value} {x : Tot} (hu : Row u g 56 cur) (hx : okT x) (hc : cur.toList.take ([x].length * 37) = ([x].map totC).flatten) : (loadVar 56 ((⟨g, 0, none⟩ : Addr).add (0 * 37))).run Tryz.prog u = .ok (totV x) u := by
 have hok : okTs [x] := fun t ht => by cases mS.1 ht; exact hx
 obtain ⟨a1, e1, h1⟩ := (row_tots (cap := 0) hu hok rfl hc).loads hok (k := 0) (by simp)
 cases e1
 exact (h1 u (EnvX.start u)).1
theorem mroot_any (p : List Tot) (A : Option Addr) (n c : Nat) (w : World) (hl : p.length = n) (hn : n ≤ 1000000) (hI : okTs p) (hA : TotsIn w w.heap.size A p) (ht : Tables w) :
   Rz 26 #[.slice A n c] w (totV (rootP p)) := by
 unfold Rz
 unfold totV
 have E1 : Hid (EnvX w (w.alloc (.cells (totA zTot) 56)) [(w.heap.size, oc (totA zTot) 56)]) := (EnvX.start w).new _
 by_cases h0 : n = 0
 · subst h0
   obtain rfl := List.eq_nil_of_length_eq_zero hl
   rw [show rootP [] = noTot from rfl]
   have HOF : Hid (∀ u g, Below w.heap.size w u → Parts u u.heap.size (some ⟨g, 0, none⟩) [[4]] → Calls Tryz.prog 64 #[.slice (some ⟨g, 0, none⟩) 1 1] u fun e w' => e = .returned (idv (sumL [4])) ∧ Below u.heap.size u w') := fun u g hb hP => shaof_any (some ⟨g, 0, none⟩) 1 1 [[4]] u rfl hP (by omega) (by decide) (ht.below hb)
   clear hI hA hl ht
   go_enter Tryz.func26, Tryz.ntmps26
   go_upto_region 2 with (fail)
   rw [zero_totA]
   generalize w.alloc (.cells (totA zTot) 56) = W at *
   refine wp_region_Hx (w0 := w) [0, 1, 2, 3, 4] [(w.heap.size, oc (totA zTot) 56)] rfl E1.out ?_
   refine (hOp_fresh (R := fun v N => ∃ g, v = .slice (some ⟨g, 0, none⟩) 1 1 ∧ N = [(g, oc #[.int .u8 4] 5)]) (M0 := [(w.heap.size, oc (totA zTot) 56)]) rfl rfl (fun _ h => h) (fun u hu => FAt_byte1 4 u) ?_)
   rintro _ _ ⟨gt, rfl, rfl⟩ hf he1; intro K' hK'; go_big_quiet_op; go_big_quiet_on
   clear hf
   change lexH _ _ _ _ _ _ [(gt, oc #[.int .u8 4] 5), (w.heap.size, oc (totA zTot) 56)]
   refine (hOp_fresh (R := fun v N => ∃ g, v = .slice (some ⟨g, 0, none⟩) 1 1 ∧ N = [(g, oc #[.slice (some ⟨gt, 0, none⟩) 1 1] 106)]) (M0 := [(gt, oc #[.int .u8 4] 5), (w.heap.size, oc (totA zTot) 56)]) rfl rfl (fun _ h => h) (fun u hu => FAt_rows1 rfl u) ?_)
   rintro _ _ ⟨gr, rfl, rfl⟩ hf he2; intro K' hK'; go_big_quiet_op; go_big_quiet_on
   clear hf
   refine phE [2,3] [4] he2 fun hw => ?_
   refine qc rfl Tryz.func64 (fun u hu => HOF.out u gr (EnvX.bel hu) (parts_one (EnvX.lt hu mH) (by have h := box_cell (k := 0) hu mH rfl; exact h) (boxR_bytes (cap := 1) hu (mT mH) rfl ⟨by decide, by decide, rfl, rfl⟩) (by intro x hx; cases mS.1 hx; omega))) hw ?_
   refine qv (v := .agg (totA noTot)) rfl (fun u hu => buildA_op u (built_totH (sumL_len _))) hw ?_
   refine wpG_nil ?_
   refine (so rfl (Nat.le_refl _) (mT (mT mH)) (infoTot _ (totA_size noTot_ok.len)) (zTot_size.trans (totA_size noTot_ok.len).symm) (totA_one _) ?_)
   refine fun _ => enL fun u6 EX5 => ?_
   have Q0 := hD (EnvX.box EX5.out _ _ mH)
   have HBEL := hD EX5.out.bel
   clear EX5
   go_wp2_with ((with_reducible refine bodyPost_ret (v := .agg (totA (noTot))) ?_ ?_ ?_); (exact results_cell_row (p := 2) (ty := 56) Tryz.results26 _ _ w.heap.size 56 (totA (noTot)) (0, 0) _ rfl Q0.out Tryz.underlying56 rfl (infoTot _ (totA_size noTot_ok.len))); (rfl))
   exact HBEL.out
 · obtain ⟨q, z, rfl⟩ : ∃ q z, p = q ++ [z] := by
    rcases List.eq_nil_or_concat p with h | ⟨q, z, h⟩
    · subst h; exact absurd hl.symm h0
    · exact ⟨q, z, by rw [h, List.concat_eq_append]⟩
   have HRO : Hid (okT (rootP (q ++ [z]))) := by
    show okT _
    unfold rootP
    rw [List.reverse_append]
    exact up_okQ _ _ (hI z (mR (mS.2 rfl)))
   have HRT : rootP (q ++ [z]) = upT z q.reverse := by
    unfold rootP
    rw [List.reverse_append]
    rfl
   have HCL : Hid (∀ u, Below w.heap.size w u → Calls Tryz.prog 67 #[.slice A n c] u fun e w' => (∃ v, e = .returned v ∧ w'.ownsRow u.heap.size 56 37 v n ((q ++ [z]).map totC).flatten) ∧ Below u.heap.size u w') := fun u hb => mclone_any (q ++ [z]) A n c u hl hn hI (hA.up hb)
   have HJL : Hid (∀ (v : Value) (N : Boxes) (u : World), FreshR 56 37 n ((q ++ [z]).map totC).flatten v N → freshN w N [(w.heap.size, oc (totA zTot) 56)] → EnvX w u (N ++ [(w.heap.size, oc (totA zTot) 56)]) → Calls Tryz.prog 66 #[v, .func (.func 65) #[] #[]] u fun e w'' => ∃ x' M', e = .returned x' ∧ EnvX w w'' M' ∧ JLeft w [(w.heap.size, oc (totA zTot) 56)] [rootP (q ++ [z])] x' M') := fun v N u hF hn2 hE => by
    have hlen : q.reverse.length + 1 = n := by rw [List.length_reverse, ← hl, lA]; rfl
    have h := jlR w [(w.heap.size, oc (totA zTot) 56)] q.reverse z v N u (fun t ht => by
      rcases List.mem_cons.1 ht with rfl | h
      · exact hI _ (mR (mS.2 rfl))
      · exact hI t (mL (List.mem_reverse.1 h))) (by rw [hlen]; omega) (by
      rw [hlen, List.reverse_cons, List.reverse_reverse]
      exact hF) hn2 hE ht
    rw [jl_up] at h
    rw [HRT]
    exact h
   have h0' : ¬ (n : Int) = 0 := by omega
   clear hI hA hl ht HRT h0
   generalize q ++ [z] = p at *
   go_enter Tryz.func26, Tryz.ntmps26
   go_upto_region 4 with (fail)
   rw [zero_totA]
   generalize w.alloc (.cells (totA zTot) 56) = W at *
   refine rgQ [0] [1,2,3,4,5,6] E1 rfl fun hw => ?_
   refine qo rfl hw ?_
   refine wpG_nil ?_
   refine qr rfl Tryz.func67 (fun u hu => callsR_fresh (HCL.out u (EnvX.bel hu))) ?_
   rintro x N1 hF hf he2
   have HF := hD hF
   have HN := hD hf
   clear hF
   clear hf
   refine phE [2] [3,4,5,6] he2 fun hw => ?_
   refine qo rfl hw ?_
   refine wpG_nil ?_
   refine (hOp_turn (gd := none) (R := JLeft w [(w.heap.size, oc (totA zTot) 56)] [rootP p]) rfl rfl rfl rfl (fun u hu => OUpon_call (fid := 66) (xs := #[.tmp 12, .tmp 13]) (args := #[x, .func (.func 65) #[] #[]]) rfl Tryz.func66 rfl rfl u (HJL.out x N1 u HF.out HN.out hu)) ?_)
   rintro x3 M' hJ he4; intro K' hK'; go_big_quiet_op; go_big_quiet_on
   obtain ⟨N3, rfl, hF3, hn3⟩ := hJ
   obtain ⟨gr, cap, cur, rfl, rfl, hcur⟩ | ⟨_, _, h0, _⟩ := hF3
   case inr => cases h0
   have HCUR := hD hcur
   have HGR := hD (hn3 _ (mS.2 rfl))
   have HLR : Hid (∀ u, Row u gr 56 cur → (loadVar 56 ((⟨gr, 0, none⟩ : Addr).add (0 * 37))).run Tryz.prog u = .ok (.agg (totA (rootP p))) u) := fun u hu => root_load hu HRO.out hcur.2.2.2
   clear hcur hn3
   refine phE [4,5] [6] he4 fun hw => ?_
   refine qv (v := .pointer (some ((⟨gr, 0, none⟩ : Addr).add (0 * 37)))) rfl (fun u hu => idxSl_op (i := 0) Tryz.underlying34 aggTot.size (by simp) u rfl rfl) hw ?_
   refine qv rfl (fun u hu => load_any_op u (HLR.out u (EnvX.row hu mH)) rfl) hw ?_
   refine wpG_nil ?_
   refine (so rfl (Nat.le_refl _) (mT mH) (infoTot _ (totA_size HRO.out.len)) (zTot_size.trans (totA_size HRO.out.len).symm) (totA_one _) ?_)
   refine fun _ => enL fun u8 EX7 => ?_
   have Q0 := hD (EnvX.box EX7.out _ _ mH)
   have HBEL := hD EX7.out.bel
   clear EX7
   go_wp2_with ((with_reducible refine bodyPost_ret (v := .agg (totA (rootP p))) ?_ ?_ ?_); (exact results_cell_row (p := 2) (ty := 56) Tryz.results26 _ _ w.heap.size 56 (totA (rootP p)) (0, 0) _ rfl Q0.out Tryz.underlying56 rfl (infoTot _ (totA_size HRO.out.len))); (rfl))
   exact HBEL.out
theorem vwithLeaf (p : List Tot) (A : Option Addr) (n c : Nat) (h : Hd) (w : World) (hl : p.length = n) (hn : n ≤ 1000000) (hI : okTs p) (hA : TotsIn w w.heap.size A p) (hh : okHd h) (ht : Tables w) :
  Calls Tryz.prog 36 #[.slice A n c, hdV h] w fun e w' => (∃ v, e = .returned v ∧ w'.ownsRow w.heap.size 56 37 v (appT p (leafH h)).length ((appT p (leafH h)).map totC).flatten) ∧ Below w.heap.size w w' := by
 have HL := hD hh.len
 have HOP : Hid (okTs (appT p (leafH h))) := app_ok hI (leafH_ok _)
 have HID : Hid (Rt w 28 #[hdV h] (idv (idH h))) := fun u hu => hid_any h u hh (ht.below (EnvX.bel hu))
 have HWK : Hid (Rt w 30 #[hdV h] (.agg (wcs (workH h)))) := fun u hu => hwork_any h u hh
 have HLF : Hid (Rt w 79 #[idv (idH h), .agg (wcs (workH h))] (totV (leafH h))) := fun u hu => mleaf_any (idH h) (workH h) u (idH_id h) (workH_lt h)
 have HAP : Hid (∀ u, EnvX w u [] → Calls Tryz.prog 78 #[.slice A n c, totV (leafH h)] u fun e w' => (∃ v, e = .returned v ∧ w'.ownsRow u.heap.size 56 37 v (appT p (leafH h)).length (((appT p (leafH h)).map totC).flatten)) ∧ Below u.heap.size u w') := fun u hu => mapp_any p (leafH h) A n c u hl hn hI (leafH_ok h) (CellsIn.up hA (EnvX.bel hu)) (ht.below (EnvX.bel hu))
 have E1 : Hid (EnvX w (w.alloc (.cells (hdA h) 29)) [(w.heap.size, oc (hdA h) 29)]) := (EnvX.start w).new _
 clear hl hn hI hA hh ht
 unfold hdV
 go_enter Tryz.func36, Tryz.ntmps36
 go_upto_region 1 with (fail)
 generalize w.alloc (.cells (hdA h) 29) = W at *
 refine rgK [0,1,2,3,4,5] 2 E1 rfl (by kernel_rfl) (by kernel_rfl) fun hw => ?_
 refine qo rfl hw ?_
 refine ql rfl mH HL.out hw ?_
 refine qc rfl Tryz.func28 (fun u hu => HID.out u (nl hu)) hw ?_
 refine ql rfl mH HL.out hw ?_
 refine qc rfl Tryz.func30 (fun u hu => HWK.out u (nl hu)) hw ?_
 refine qc rfl Tryz.func79 (fun u hu => HLF.out u (nl hu)) hw ?_
 refine wpG_nil ?_
 refine anyH_one (i := 6) (by kernel_rfl) (qr rfl Tryz.func78 (fun u hu => callsR_fresh (HAP.out u (nl hu))) ?_)
 rintro x N1 hF hf he2
 obtain ⟨A1, c1, rfl, -, -⟩ := FreshR.formR hF
 have HF := hD hF
 have HN := hD (fun y hy => (hf y hy).1)
 clear hF
 clear hf
 refine phF [7] 0 rfl he2 (by kernel_rfl) fun hw => ?_
 refine qo rfl hw ?_
 refine enH (by kernel_rfl) fun u5 EX4 => ?_
 have HO := hD (FreshR.own (w := u5) (B := w.heap.size) HF.out (by rw [flatT_len HOP.out]) (fun y hy => ⟨HN.out y hy, EnvX.box EX4.out _ _ (mL hy)⟩))
 have HBE := hD (EnvX.bel EX4.out)
 go_wp2
 go_returns
 exact ⟨⟨_, rfl, HO.out⟩, HBE.out⟩
theorem vmayHeight (h : Hd) (w : World) (hh : okHd h) :
  Rz 44 #[hdV h] w (.bool (decide (h.height < 48))) := by
 unfold Rz
 have HL := hD hh.len
 obtain ⟨b, hb⟩ : ∃ b, decide (h.height < 48) = b := ⟨_, rfl⟩
 have C0 := hD hb
 have HF := hD hb
 have E1 : Hid (EnvX w (w.alloc (.cells (hdA h) 29)) [(w.heap.size, oc (hdA h) 29)]) := (EnvX.start w).new _
 clear hh hb
 unfold hdV
 go_enter Tryz.func44, Tryz.ntmps44
 go_upto_region 1 with (fail)
 generalize w.alloc (.cells (hdA h) 29) = W at *
 refine rgQ [0,1,2,3] [] E1 rfl fun hw => ?_
 refine qf rfl hw ?_
 refine qv rfl (fun u hu => load_any_op u (loads_hd HL.out (box_list hu mH)).2.1 rfl) hw ?_
 refine qv rfl (fun u hu => ltZ_op u C0.out rfl rfl) hw ?_
 refine qo rfl hw ?_
 refine enP fun u3 EX2 => ?_
 have HBE := hD (EnvX.bel EX2.out)
 go_wp2
 go_ret
 exact ⟨by rw [HF.out]; first | done | rfl, HBE.out⟩
theorem zero_plA : (#[Value.int IntKind.i64 0, Value.int IntKind.u8 0, Value.int IntKind.u8 0, Value.int IntKind.u8 0, Value.int IntKind.u8 0, Value.int IntKind.u8 0, Value.int IntKind.u8 0, Value.int IntKind.u8 0, Value.int IntKind.u8 0, Value.int IntKind.u8 0, Value.int IntKind.u8 0, Value.int IntKind.u8 0, Value.int IntKind.u8 0, Value.int IntKind.u8 0, Value.int IntKind.u8 0, Value.int IntKind.u8 0, Value.int IntKind.u8 0, Value.int IntKind.u8 0, Value.int IntKind.u8 0, Value.int IntKind.u8 0, Value.int IntKind.u8 0, Value.int IntKind.u8 0, Value.int IntKind.u8 0, Value.int IntKind.u8 0, Value.int IntKind.u8 0, Value.int IntKind.u8 0, Value.int IntKind.u8 0, Value.int IntKind.u8 0, Value.int IntKind.u8 0, Value.int IntKind.u8 0, Value.int IntKind.u8 0, Value.int IntKind.u8 0, Value.int IntKind.u8 0, Value.int IntKind.u32 0] : Array Value) = plA noHd := rfl
theorem vplaceOf (h : Hd) (w : World) (hh : okHd h) :
  Rz 151 #[hdV h] w (plV h) := by
 unfold Rz
 have HL := hD hh.len
 have HLE : Hid (w.heap.size ≤ w.heap.size + 1) := by show _ ≤ _; omega
 have E1 : Hid (EnvX w ((w.alloc (.cells (hdA h) 29)).alloc (.cells (plA noHd) 169)) [(w.heap.size + 1, oc (plA noHd) 169), (w.heap.size, oc (hdA h) 29)]) := (EnvX.start w).two _ _
 clear hh
 unfold hdV plV
 go_enter Tryz.func151, Tryz.ntmps151
 go_upto_region 1 with (fail)
 rw [zero_plA]
 generalize (w.alloc (.cells (hdA h) 29)).alloc (.cells (plA noHd) 169) = W at *
 refine rgQ [0,1,2,3,4,5,6] [7] E1 rfl fun hw => ?_
 refine qf rfl hw ?_
 refine qv rfl (fun u hu => load_any_op u (loads_hd HL.out (box_list hu (mT mH))).2.1 rfl) hw ?_
 refine qf rfl hw ?_
 refine qv rfl (fun u hu => load_any_op u (loads_hd HL.out (box_list hu (mT mH))).2.2.1 rfl) hw ?_
 refine qf rfl hw ?_
 refine qv rfl (fun u hu => load_any_op u (loads_hd HL.out (box_list hu (mT mH))).2.2.2.2.2.2.2.1 rfl) hw ?_
 refine qv (v := .agg (plA h)) rfl (fun u hu => buildA_op u (built_pl h HL.out)) hw ?_
 refine wpG_nil ?_
 refine (so rfl HLE.out mH (infoPl _ (plA_size HL.out)) ((plA_size (h := noHd) len_no).trans (plA_size HL.out).symm) (plA_one _) ?_)
 refine fun _ => enL fun u4 EX3 => ?_
 have Q0 := hD (EnvX.box EX3.out _ _ mH)
 have HBEL := hD EX3.out.bel
 clear EX3
 go_wp2_with ((with_reducible refine bodyPost_ret (v := .agg (plA h)) ?_ ?_ ?_); (exact results_cell_row (p := 2) (ty := 169) Tryz.results151 _ _ (w.heap.size + 1) 169 (plA h) (0, 0) _ rfl Q0.out Tryz.underlying169 rfl (infoPl _ (plA_size HL.out))); (rfl))
 exact HBEL.out
theorem zero_roA : roA noHd = Tryz.zeroCells172 := by kernel_rfl
theorem vrootsOf (h : Hd) (w : World) (hh : okHd h) :
  Rz 152 #[hdV h] w (roV h) := by
 unfold Rz
 have HL := hD hh.len
 have HLE : Hid (w.heap.size ≤ w.heap.size + 1) := by show _ ≤ _; omega
 have E1 : Hid (EnvX w ((w.alloc (.cells (hdA h) 29)).alloc (.cells (roA noHd) 172)) [(w.heap.size + 1, oc (roA noHd) 172), (w.heap.size, oc (hdA h) 29)]) := (EnvX.start w).two _ _
 clear hh
 unfold hdV roV
 go_enter Tryz.func152, Tryz.ntmps152
 go_upto_region 1 with (fail)
 rw [← zero_roA]
 generalize (w.alloc (.cells (hdA h) 29)).alloc (.cells (roA noHd) 172) = W at *
 refine rgQ [0,1,2,3,4,5,6] [7] E1 rfl fun hw => ?_
 refine qf rfl hw ?_
 refine qv rfl (fun u hu => load_any_op u (loads_hd HL.out (box_list hu (mT mH))).2.2.2.2.1 rfl) hw ?_
 refine qf rfl hw ?_
 refine qv rfl (fun u hu => load_any_op u (loads_hd HL.out (box_list hu (mT mH))).2.2.2.2.2.1 rfl) hw ?_
 refine qf rfl hw ?_
 refine qv rfl (fun u hu => load_any_op u (loads_hd HL.out (box_list hu (mT mH))).2.2.2.2.2.2.1 rfl) hw ?_
 refine qv (v := .agg (roA h)) rfl (fun u hu => buildA_op u (built_ro h HL.out)) hw ?_
 refine wpG_nil ?_
 refine (so rfl HLE.out mH (infoRo _ (roA_size HL.out)) ((roA_size (h := noHd) len_no).trans (roA_size HL.out).symm) (roA_one _) ?_)
 refine fun _ => enL fun u4 EX3 => ?_
 have Q0 := hD (EnvX.box EX3.out _ _ mH)
 have HBEL := hD EX3.out.bel
 clear EX3
 go_wp2_with ((with_reducible refine bodyPost_ret (v := .agg (roA h)) ?_ ?_ ?_); (exact results_cell_row (p := 2) (ty := 172) Tryz.results152 _ _ (w.heap.size + 1) 172 (roA h) (0, 0) _ rfl Q0.out Tryz.underlying172 rfl (infoRo _ (roA_size HL.out))); (rfl))
 exact HBEL.out
theorem vbehind (t : TipM) (l : List TxM) (A : Option Addr) (n c nonce : Nat) (w : World) (kt : TipOk w t) (mt : midTip t) (hl : l.length = n) (hnc : n ≤ c) (hcm : c ≤ maxLen) (hA : TxsIn w A l) (ml : midTxs l) (hno : nonce < 18446744073709551616) (ht : Tables w) : Hands 43 #[tipV t, .slice A n c, .int .u64 (nonce : Int)] w (RBlk ⟨nextK t.r (rsT l) nonce, linksK t.r, rsT l⟩) := by
 unfold Hands
 have HK : Hid (lenH t.b.h) := kt.b.h.len
 have HOK : Hid (okHd (nextK t.r (rsT l) nonce)) := nextK_ok (rsT l) (t := t.r) kt.o3 kt.b.h.2.2.2.2.2.2.1 hno
 have HLE : Hid (w.heap.size ≤ w.heap.size + 1) := by show _ ≤ _; omega
 have HRO : Hid (len32 (rootP t.p)) := (root_ok kt.o3).len
 have hm1 := kt.l3
 have hm2 := kt.b.l1
 have hm3 := mt.1
 have hm4 := mt.2.1
 have hm5 := ml.1
 have HIX : Hid (isId (idH t.b.h)) := idH_id _
 have HRT : Hid (Rt w 26 #[.slice t.A3 t.n3 t.c3] (totV (rootP t.p))) := fun u hu => mroot_any t.p t.A3 t.n3 t.c3 u kt.l3 (by omega) kt.o3 (CellsIn.up kt.m3 (EnvX.bel hu)) (ht.below (EnvX.bel hu))
 have HID : Hid (Rt w 28 #[hdV t.b.h] (idv (idH t.b.h))) := fun u hu => hid_any t.b.h u kt.b.h (ht.below (EnvX.bel hu))
 have HLV : Hid (Rt w 72 #[hdV t.b.h] (.int .i64 (levelH t.b.h))) := fun u hu => hlevel_any t.b.h u kt.b.h (ht.below (EnvX.bel hu))
 have HNX : Hid (∀ u, EnvX w u [] → Calls Tryz.prog 89 #[.slice t.b.A1 t.b.n1 t.b.c1, idv (idH t.b.h), .int .i64 (levelH t.b.h)] u fun e w' => (∃ v, e = .returned v ∧ w'.ownsRow u.heap.size 23 32 v (linksK t.r).length ((linksK t.r).flatten.map u8v)) ∧ Below u.heap.size u w') := fun u hu => link_next t.b.l (idH t.b.h) (levelH t.b.h) t.b.A1 t.b.n1 t.b.c1 u kt.b.l1 (by omega) (levelH_i64 _) kt.b.o1 (idH_id _) (kt.b.m1.up (EnvX.bel hu))
 have HLR : Hid (∀ u A1 c1, (linksK t.r).length ≤ c1 → c1 ≤ maxLen → IdsIn u u.heap.size A1 (linksK t.r) → EnvX w u [] → Calls Tryz.prog 34 #[.slice A1 (linksK t.r).length c1] u fun e w' => e = .returned (idv (rootT (leavesL (linksK t.r)))) ∧ Below u.heap.size u w') := fun u A1 c1 h1 h2 h3 hu => vlink_root (linksK t.r) A1 _ c1 u rfl (by have := linksK_len t.r; omega) h1 h2 (linksK_ids (t := t.r) kt.b.o1) h3 (ht.below (EnvX.bel hu))
 have HCR : Hid (Rt w 35 #[.slice A n c] (idv (rootT (idsX (rsT l))))) := fun u hu => prootX_any l A n c u hl (by omega) hnc hcm (hA.up (EnvX.bel hu)) (ht.below (EnvX.bel hu))
 have HCX : Hid (∀ u, EnvX w u [] → Hands 90 #[.slice A n c] u (RTxs l n)) := fun u hu => vcopyTxs l A n c u hl (by omega) (hA.up (EnvX.bel hu)) ml.2
 have HLI : Hid (isIds (linksK t.r)) := linksK_ids (t := t.r) kt.b.o1
 have E1 : Hid (EnvX w ((w.alloc (.cells (tipA t) 37)).alloc (.cells (blkA noBlkM) 33)) [(w.heap.size + 1, oc (blkA noBlkM) 33), (w.heap.size, oc (tipA t) 37)]) := (EnvX.start w).two _ _
 clear kt mt hl hnc hcm hA ml hno ht hm1 hm2 hm3 hm4 hm5
 unfold tipV
 go_enter Tryz.func43, Tryz.ntmps43
 go_upto_region 1 with (fail)
 rw [← zero_blkA]
 generalize (w.alloc (.cells (tipA t) 37)).alloc (.cells (blkA noBlkM) 33) = W at *
 refine rgK [0,1,2,3,4,5] 4 E1 rfl (by kernel_rfl) (by kernel_rfl) fun hw => ?_
 refine qw 2 hw ?_
 refine qv rfl (fun u hu => load_any_op u (loads_hd HK.out (box_tip_hd hu (mT mH) HK.out)).1 rfl) hw ?_
 refine qf rfl hw ?_
 refine ql rfl (mT mH) HK.out hw ?_
 refine qc rfl Tryz.func26 (fun u hu => HRT.out u (nl hu)) hw ?_
 refine wpG_nil ?_
 refine anyH_twoFreshG (i := 6) (j := 7) (fun _ _ _ hM hh => env_perm _ _ _ hM hh) (by kernel_rfl) (by kernel_rfl) (by kernel_rfl) rfl rfl (by decide) (by kernel_rfl) rfl rfl (fun x N => ∃ g, x = .pointer (some ⟨g, 0, none⟩) ∧ N = [(g, oc (hdA noHd) 29)]) (fun x N => ∃ g, x = .pointer (some ⟨g, 0, none⟩) ∧ N = [(g, oc (totA zTot) 56)]) [(w.heap.size + 1, oc (blkA noBlkM) 33), (w.heap.size, oc (tipA t) 37)] [(w.heap.size + 1, oc (blkA noBlkM) 33), (w.heap.size, oc (tipA t) 37)] (fun _ h => h) (fun _ h => h) (fun u hu => FAt_new (new_hd _) u) (fun u hu => FAt_new (new_tot _) u) ?_
 rintro x1 N1 x2 N2 ⟨g7, rfl, rfl⟩ ⟨g8, rfl, rfl⟩ hf1 hf2 he2 K1 hK1; go_big_quiet_op; go_big_quiet_on; intro K' hK'; go_big_quiet_op; go_big_quiet_on
 have HG7 := hD (hf1 _ (mS.2 rfl))
 have HG8 := hD (hf2 _ (mS.2 rfl))
 clear hf1 hf2
 change anyH _ _ _ _ _ _ _ _ [(g8, oc (totA zTot) 56), (g7, oc (hdA noHd) 29), (w.heap.size + 1, oc (blkA noBlkM) 33), (w.heap.size, oc (tipA t) 37)]
 refine anyH_one (i := 8) (by kernel_rfl) (hOp_store rfl (g7) (hdA t.b.h) rfl rfl HG7.out.1 29 ((hdA noHd)) (mT mH) (infoHd _ (hdA_size HK.out)) ((hdA_size (h := noHd) len_no).trans (hdA_size HK.out).symm) (hdA_one _) [(g7, oc (hdA t.b.h) 29), (g8, oc (totA zTot) 56), (w.heap.size + 1, oc (blkA noBlkM) 33), (w.heap.size, oc (tipA t) 37)] (mA ⟨.inl rfl, mA ⟨.inr ⟨mH, fun h => HG8.out.2 (g7, oc (hdA noHd) 29) mH h.symm⟩, fun y hy => .inr ⟨mT (mT hy), HG7.out.2 y hy⟩⟩⟩) ?_)
 intro he3
 refine anyH_one (i := 9) (by kernel_rfl) (hOp_store rfl (g8) (totA (rootP t.p)) rfl rfl HG8.out.1 56 ((totA zTot)) (mT mH) (infoTot _ (totA_size HRO.out)) (zTot_size.trans (totA_size HRO.out).symm) (totA_one _) [(g8, oc (totA (rootP t.p)) 56), (g7, oc (hdA t.b.h) 29), (w.heap.size + 1, oc (blkA noBlkM) 33), (w.heap.size, oc (tipA t) 37)] (mA ⟨.inl rfl, mA ⟨.inr ⟨mH, HG8.out.2 (g7, oc (hdA noHd) 29) mH⟩, fun y hy => .inr ⟨mT (mT hy), HG8.out.2 y (mT hy)⟩⟩⟩) ?_)
 intro he4
 refine enM (by kernel_rfl) fun u6 EX5 => ?_
 go_upto_region 2 with (fail)
 refine rgQ [0,1] [2,3] EX5 rfl fun hw => ?_
 refine ql rfl (mT mH) HK.out hw ?_
 refine qc rfl Tryz.func28 (fun u hu => HID.out u (nl hu)) hw ?_
 refine wpG_nil ?_
 refine qn rfl (new_id _) fun g9 HG9 he8 => ?_
 change lexH _ _ _ _ _ _ [(g9, oc (arrB 32 []) 23), (g8, oc (totA (rootP t.p)) 56), (g7, oc (hdA t.b.h) 29), (w.heap.size + 1, oc (blkA noBlkM) 33), (w.heap.size, oc (tipA t) 37)]
 refine (sh rfl HG9 (info26 _ (arrB_size _ _ (by rw [HIX.out.1]; omega))) ((arrB_size _ _ (by simp)).trans (arrB_size _ _ (by rw [HIX.out.1]; omega)).symm) (arrB_one _ _) ?_)
 refine fun _ => enL fun u11 EX10 => ?_
 go_upto_region 3 with (fail)
 refine rgK [0,1,2,3,4,5] 2 EX10 rfl (by kernel_rfl) (by kernel_rfl) fun hw => ?_
 refine qw 2 hw ?_
 refine ql rfl (mT (mT (mT (mT mH)))) HK.out hw ?_
 refine qv rfl (fun u hu => load_run_op u (box_load hu mH HIX.out.1) rfl) hw ?_
 refine ql rfl (mT (mT mH)) HK.out hw ?_
 refine qc rfl Tryz.func72 (fun u hu => HLV.out u (nl hu)) hw ?_
 refine wpG_nil ?_
 refine anyH_one (i := 6) (by kernel_rfl) (qr rfl Tryz.func89 (fun u hu => callsR_fresh (HNX.out u (nl hu))) ?_)
 rintro x N6 hF hf he13
 obtain ⟨A6, c6, rfl, k1, k2⟩ := FreshR.formR hF
 have HF6 := hD (And.intro hF (And.intro k1 k2))
 have HN6 : Hid (∀ y ∈ N6, w.heap.size ≤ y.1 ∧ y.1 ≠ w.heap.size + 1) := fun y hy => ⟨(hf y hy).1, fun h => (hf y hy).2 _ (mT (mT (mT mH))) h.symm⟩
 clear hF k1 k2
 clear hf
 refine phF [7] 0 rfl he13 (by kernel_rfl) fun hw => ?_
 refine qo rfl hw ?_
 refine enH (by kernel_rfl) fun u16 EX15 => ?_
 go_upto_region 4 with (fail)
 refine rgK [0,1,2,3,4,5,6,7,8,9,10,11,12,13,14,15,16,17] 3 EX15 rfl (by kernel_rfl) (by kernel_rfl) fun hw => ?_
 refine qf rfl hw ?_
 refine qv rfl (fun u hu => load_any_op u (loads_hd HK.out (box_list hu (mR (mT (mT mH))))).2.1 rfl) hw ?_
 refine qv (v := .int .i64 (nextK t.r (rsT l) nonce).height) rfl (fun u hu => addZ_op u (show IntKind.i64.wrap (t.b.h.height + 1) = (nextK t.r (rsT l) nonce).height from rfl) rfl rfl) hw ?_
 refine qv rfl (fun u hu => load_run_op u (box_load hu (mR mH) HIX.out.1) rfl) hw ?_
 refine qo rfl hw ?_
 refine qc rfl Tryz.func34 (fun u hu => HLR.out u A6 c6 HF6.out.2.1 HF6.out.2.2 (fresh_idsB HF6.out.1 HLI.out (fun y hy => EnvX.box hu _ _ (mL hy))) (nl hu)) hw ?_
 refine qo rfl hw ?_
 refine qc rfl Tryz.func35 (fun u hu => HCR.out u (nl hu)) hw ?_
 refine qf rfl hw ?_
 refine ql rfl (mR (mT mH)) HRO.out hw ?_
 refine qf rfl hw ?_
 refine ql rfl (mR (mT mH)) HRO.out hw ?_
 refine qf rfl hw ?_
 refine qv rfl (fun u hu => load_any_op u (loads_hd HK.out (box_list hu (mR (mT (mT mH))))).2.2.2.2.2.2.2.1 rfl) hw ?_
 refine qo rfl hw ?_
 refine qv (v := .agg (hdA (nextK t.r (rsT l) nonce))) rfl (fun u hu => buildA_op u (built_hd (nextK t.r (rsT l) nonce) HOK.out.len)) hw ?_
 refine qw 2 hw ?_
 refine wpG_nil ?_
 refine anyH_one (i := 18) (by kernel_rfl) (qr rfl Tryz.func90 (fun u hu => HCX.out u (nl hu)) ?_)
 rintro x N18 hF hf he18
 obtain ⟨q8, A18, c18, rfl, k1, k2, kq, kr, kk⟩ := hF
 have HK1 := hD k1
 have HK2 := hD k2
 have HKQ := hD kq
 have HKR := hD kr
 have HKK := hD kk
 have HN18 : Hid (∀ y ∈ N18, w.heap.size ≤ y.1 ∧ y.1 ≠ w.heap.size + 1) := fun y hy => ⟨(hf y hy).1, fun h => (hf y hy).2 _ (mR (mT (mT (mT mH)))) h.symm⟩
 clear k1 k2 kq kr kk
 clear hf
 refine phF [19] 1 rfl he18 (by kernel_rfl) fun hw => ?_
 refine qv (v := .agg (blkA ⟨(nextK t.r (rsT l) nonce), linksK t.r, A6, (linksK t.r).length, c6, q8, A18, n, c18⟩)) rfl (fun u hu => buildA_op u (built_blk (b := ⟨(nextK t.r (rsT l) nonce), linksK t.r, A6, (linksK t.r).length, c6, q8, A18, n, c18⟩) HOK.out.len)) hw ?_
 refine wpG_nil ?_
 refine anyH_one (i := 20) (by kernel_rfl) (hOp_store rfl (w.heap.size + 1) (blkA ⟨(nextK t.r (rsT l) nonce), linksK t.r, A6, (linksK t.r).length, c6, q8, A18, n, c18⟩) rfl rfl HLE.out 33 ((blkA noBlkM)) (mR (mR (mT (mT (mT mH))))) (infoBlk _ (blkA_size (b := ⟨(nextK t.r (rsT l) nonce), linksK t.r, A6, (linksK t.r).length, c6, q8, A18, n, c18⟩) HOK.out.len)) (blk_sizes (b := ⟨(nextK t.r (rsT l) nonce), linksK t.r, A6, (linksK t.r).length, c6, q8, A18, n, c18⟩) HOK.out.len) (blkA_one _) ((w.heap.size + 1, oc (blkA ⟨(nextK t.r (rsT l) nonce), linksK t.r, A6, (linksK t.r).length, c6, q8, A18, n, c18⟩) 33) :: (N18 ++ (N6 ++ []))) (mA ⟨.inl rfl, fun y hy => .inr ((List.mem_append.1 hy).elim (fun h => ⟨mL h, (HN18.out y h).2⟩) (fun h => ⟨mR (mL (by simpa using h)), (HN6.out y (by simpa using h)).2⟩))⟩) ?_)
 intro he20
 refine enM (by kernel_rfl) fun u22 EX21 => ?_
 have HIS : Hid (∀ w0 u M, EnvX w0 u M → (∀ y ∈ N18 ++ N6, y ∈ M) → IsBlk ⟨nextK t.r (rsT l) nonce, linksK t.r, rsT l⟩ ⟨(nextK t.r (rsT l) nonce), linksK t.r, A6, (linksK t.r).length, c6, q8, A18, n, c18⟩ u) := fun w0 u M hu hM => ⟨by show BlkR.mk _ _ (rsT q8) = BlkR.mk _ _ (rsT l); rw [HKR.out], ⟨HOK.out, rfl, HF6.out.2, HLI.out, kept_ids HF6.out.1 rfl HLI.out w0 u M hu (fun y hy => hM y (mR hy)), HKQ.out, ⟨HK1.out, HK2.out⟩, HKK.out w0 u M hu (fun y hy => hM y (mL hy))⟩⟩
 have HBX : Hid (∀ y ∈ N18 ++ N6, y ∈ ((w.heap.size + 1, oc (blkA ⟨(nextK t.r (rsT l) nonce), linksK t.r, A6, (linksK t.r).length, c6, q8, A18, n, c18⟩) 33) :: (N18 ++ (N6 ++ [])))) := fun y hy => mT (by simpa using hy)
 have HEX := hD EX21.out
 have HFR : Hid (∀ y ∈ N18 ++ N6, w.heap.size ≤ y.1 ∧ u22.heap[y.1]? = some y.2) := fun y hy => ⟨(List.mem_append.1 hy).elim (fun h => (HN18.out y h).1) (fun h => (HN6.out y h).1), EnvX.box HEX.out _ _ (HBX.out y hy)⟩
 have Q0 := hD (EnvX.box EX21.out _ _ mH)
 have HBEL := hD EX21.out.bel
 go_wp2_with ((with_reducible refine bodyPost_ret (v := .agg (blkA ⟨(nextK t.r (rsT l) nonce), linksK t.r, A6, (linksK t.r).length, c6, q8, A18, n, c18⟩)) ?_ ?_ ?_); (exact results_cell_row (p := 6) (ty := 33) Tryz.results43 _ _ (w.heap.size + 1) 33 (blkA ⟨(nextK t.r (rsT l) nonce), linksK t.r, A6, (linksK t.r).length, c6, q8, A18, n, c18⟩) (0, 0) _ rfl Q0.out Tryz.underlying33 rfl (infoBlk _ (blkA_size (b := ⟨(nextK t.r (rsT l) nonce), linksK t.r, A6, (linksK t.r).length, c6, q8, A18, n, c18⟩) HOK.out.len))); (rfl))
 first | exact ⟨_, N18 ++ N6, rfl, ⟨⟨(nextK t.r (rsT l) nonce), linksK t.r, A6, (linksK t.r).length, c6, q8, A18, n, c18⟩, rfl, HIS.out, _, HIS.out _ _ _ HEX.out HBX.out⟩, HBEL.out, HFR.out⟩ | exact ⟨N18 ++ N6, ⟨⟨(nextK t.r (rsT l) nonce), linksK t.r, A6, (linksK t.r).length, c6, q8, A18, n, c18⟩, rfl, HIS.out, _, HIS.out _ _ _ HEX.out HBX.out⟩, HBEL.out, fun a b hy => HFR.out (a, b) hy⟩
def ruleF : Nat → FuncId
  | 0 => 103
  | 1 => 104
  | 2 => 105
  | 3 => 106
  | _ => 107
def ruleE : Nat → Int
  | 0 => 3
  | 1 => 5
  | 2 => 6
  | 3 => 7
  | _ => 4
def ruleC (i : Nat) : List Value := [.func (.func (ruleF i)) #[] #[], .int .i64 (ruleE i)]
def ruleA (i : Nat) : Array Value := (ruleC i).toArray
def rulesC : List Value := ruleC 0 ++ (ruleC 1 ++ (ruleC 2 ++ (ruleC 3 ++ ruleC 4)))
def rulesA : Array Value := rulesC.toArray
theorem aggRS : AggT 138 2 := ⟨fun w => by simp [isAgg, run_underlying Tryz.underlying138], by kernel_rfl⟩
theorem aggRA : AggT 139 10 := ⟨fun w => by simp [isAgg, run_underlying Tryz.underlying139], by kernel_rfl⟩
theorem infoRS (cs : Array Value) (h : cs.size = 2) : (Tryz.prog.info? 138).map (·.size) = some cs.size := by rw [h]; exact aggRS.size
theorem infoRA (cs : Array Value) (h : cs.size = 10) : (Tryz.prog.info? 139).map (·.size) = some cs.size := by rw [h]; exact aggRA.size
theorem oneRF : ∀ w, (isAgg 137).run Tryz.prog w = .ok false w := fun w => by simp [isAgg, run_underlying Tryz.underlying137]
theorem oneEr : ∀ w, (isAgg 43).run Tryz.prog w = .ok false w := fun w => by simp [isAgg, run_underlying Tryz.underlying43]
theorem built_rs (f : FuncId) (k : Int) : Tryz.prog.built 138 [(0, .func (.func f) #[] #[]), (1, .int .i64 k)] = some #[.func (.func f) #[] #[], .int .i64 k] := by kernel_rfl
theorem built_ra : Tryz.prog.built 139 [(0, .agg (ruleA 0)), (1, .agg (ruleA 1)), (2, .agg (ruleA 2)), (3, .agg (ruleA 3)), (4, .agg (ruleA 4))] = some rulesA := by kernel_rfl
theorem rulesA_one : rulesA.all (·.oneCell') = true := by kernel_rfl
theorem ruleA_one (i : Nat) : (ruleA i).all (·.oneCell') = true := by
 rcases i with _ | _ | _ | _ | i
 all_goals kernel_rfl
def rule0A : Array Value := #[.nilFunc, .int .i64 0]
def rules0A : Array Value := #[.nilFunc, .int .i64 0, .nilFunc, .int .i64 0, .nilFunc, .int .i64 0, .nilFunc, .int .i64 0, .nilFunc, .int .i64 0]
section
variable {dst : Option Tmp} {ty : TypeId} {pos : String} {after : Array Edge} {gd : Option (Nat × Bool)}
theorem new_ra (a : Act) : NewAt Tryz.prog ⟨dst, .alloc 139, ty, pos, after, gd⟩ a (.cells rules0A 139 (0, 0)) := fun u => by
 unfold rules0A
 go_simp
theorem new_rs (a : Act) : NewAt Tryz.prog ⟨dst, .alloc 138, ty, pos, after, gd⟩ a (.cells rule0A 138 (0, 0)) := fun u => by
 unfold rule0A
 go_simp
end
theorem index_ra {i : Nat} (h : i < 5) (w : World) : (Instr.index 139 (.agg rulesA) (.int .i64 (i : Int))).run Tryz.prog w = .ok (.agg (ruleA i)) w := by
 rcases i with _ | _ | _ | _ | _ | i
 all_goals first | omega | kernel_rfl
section
variable {a : Act} {dst : Option Tmp} {x y : Operand} {ty : TypeId} {pos : String} {after : Array Edge} {gd : Option (Nat × Bool)}
theorem idxRA_op {i : Nat} (h : i < 5) (u : World) (hx : a.eval x = .agg rulesA) (hy : a.eval y = .int .i64 (i : Int)) :
  (execOp a.eval ⟨dst, .index 139 x y, ty, pos, after, gd⟩).run Tryz.prog u = .ok (.value (.agg (ruleA i))) u := by
 unfold execOp
 simp only [hx, hy, Sem.run_bind, index_ra h u, Result.andThen_ok, Sem.run_pure]
theorem fieldRS_op {k : Nat} (hk : k < 2) {ad : Addr} (u : World) (hx : a.eval x = .pointer (some ad)) :
  (execOp a.eval ⟨dst, .fieldAddr 138 x k, ty, pos, after, gd⟩).run Tryz.prog u = .ok (.value (.pointer (some (ad.add k)))) u := by
 unfold execOp
 simp only [hx]
 rcases k with _ | _ | k
 all_goals first | omega | go_simp
end
section
variable {w0 u : World} {M : Boxes} {g i : Nat} {ty : TypeId}
theorem box_ra (hu : EnvC w0 M u) (hm : (g, oc rulesA ty) ∈ M) : (loadVar 139 ⟨g, 0, none⟩).run Tryz.prog u = .ok (.agg rulesA) u := run_loadAgg aggRA rulesC rfl (box_list hu hm)
instance : Cell Tryz.prog rulesA 139 0 (.agg rulesA) (True) := ⟨fun hu hm k => box_ra hu hm⟩
theorem box_rsF (hu : EnvC w0 M u) (hm : (g, oc (ruleA i) ty) ∈ M) : (loadVar 137 ⟨g, 0, none⟩).run Tryz.prog u = .ok (.func (.func (ruleF i)) #[] #[]) u := run_load_one oneRF u (box_cell hu hm rfl)
instance : Cell Tryz.prog (ruleA i) 137 0 (.func (.func (ruleF i)) #[] #[]) (True) := ⟨fun hu hm k => box_rsF hu hm⟩
theorem box_rsE (hu : EnvC w0 M u) (hm : (g, oc (ruleA i) ty) ∈ M) : (loadVar 43 ⟨g, 1, none⟩).run Tryz.prog u = .ok (.int .i64 (ruleE i)) u := run_load_one oneEr u (box_cell hu hm rfl)
instance : Cell Tryz.prog (ruleA i) 43 1 (.int .i64 (ruleE i)) (True) := ⟨fun hu hm k => box_rsE hu hm⟩
end
theorem vhasRoom (b d : BlkM) (w : World) (hb : okHd b.h) (hd : okHd d.h) :
  Rz 103 #[trV b d] w (.bool (decide (b.h.height < 48))) := by
 unfold Rz
 have HB := hD hb
 have HD := hD hd
 have HMH : Hid (Rt w 44 #[hdV b.h] (.bool (decide (b.h.height < 48)))) := fun u hu => vmayHeight b.h u hb
 obtain ⟨x, hx⟩ : ∃ x, decide (b.h.height < 48) = x := ⟨_, rfl⟩
 have HF := hD hx
 rw [hx] at HMH
 have E1 : Hid (EnvX w (w.alloc (.cells (trA b d) 83)) [(w.heap.size, oc (trA b d) 83)]) := (EnvX.start w).new _
 clear hb hd hx
 unfold trV
 go_enter Tryz.func103, Tryz.ntmps103
 go_upto_region 1 with (fail)
 generalize w.alloc (.cells (trA b d) 83) = W at *
 refine rgQ [0,1,2,3,4] [] E1 rfl fun hw => ?_
 refine qw 2 hw ?_
 refine qv rfl (fun u hu => load_any_op u (loads_hd HB.out.len (is_hd hu mH HB.out.len)).1 rfl) hw ?_
 refine qc rfl Tryz.func44 (fun u hu => HMH.out u (nl hu)) hw ?_
 refine qo rfl hw ?_
 refine enP fun u3 EX2 => ?_
 have HBE := hD (EnvX.bel EX2.out)
 go_wp2
 go_ret
 exact ⟨by rw [HF.out]; first | done | rfl, HBE.out⟩
theorem vhasPlace (b d : BlkM) (w : World) (hb : okHd b.h) (hd : okHd d.h) :
  Rz 104 #[trV b d] w (.bool (eqPl b.h d.h)) := by
 unfold Rz
 have HB := hD hb
 have HD := hD hd
 have HP : Hid (∀ u, EnvX w u [] → ∀ h : Hd, okHd h → Calls Tryz.prog 151 #[hdV h] u fun e w' => e = .returned (plV h) ∧ Below u.heap.size u w') := fun u hu h hh => vplaceOf h u hh
 obtain ⟨x, hx⟩ : ∃ x, eqPl b.h d.h = x := ⟨_, rfl⟩
 have HF := hD hx
 have HX := hD hx
 have E1 : Hid (EnvX w (w.alloc (.cells (trA b d) 83)) [(w.heap.size, oc (trA b d) 83)]) := (EnvX.start w).new _
 clear hb hd hx
 unfold trV
 go_enter Tryz.func104, Tryz.ntmps104
 go_upto_region 1 with (fail)
 generalize w.alloc (.cells (trA b d) 83) = W at *
 refine rgK [0,1,2,3,4,5,6,7,8,9] 0 E1 rfl (by kernel_rfl) (by kernel_rfl) fun hw => ?_
 refine qw 2 hw ?_
 refine qv rfl (fun u hu => load_any_op u (loads_hd HB.out.len (is_hd hu mH HB.out.len)).1 rfl) hw ?_
 refine qc rfl Tryz.func151 (fun u hu => HP.out u (nl hu) b.h HB.out) hw ?_
 refine qf rfl hw ?_
 refine qf (o2 := 137) rfl hw ?_
 refine qv rfl (fun u hu => load_any_op u (loads_hd HD.out.len (must_hd hu mH HB.out.len HD.out.len)).1 rfl) hw ?_
 refine qc rfl Tryz.func151 (fun u hu => HP.out u (nl hu) d.h HD.out) hw ?_
 refine qv rfl (fun u hu => eqlPl_op HB.out HD.out HX.out u rfl rfl) hw ?_
 refine qo rfl hw ?_
 refine enH (by kernel_rfl) fun u3 EX2 => ?_
 have HBE := hD (EnvX.bel EX2.out)
 go_wp2
 go_ret
 exact ⟨by rw [HF.out]; first | done | rfl, HBE.out⟩
theorem vhasRoots (b d : BlkM) (w : World) (hb : okHd b.h) (hd : okHd d.h) :
  Rz 106 #[trV b d] w (.bool (eqRo b.h d.h)) := by
 unfold Rz
 have HB := hD hb
 have HD := hD hd
 have HP : Hid (∀ u, EnvX w u [] → ∀ h : Hd, okHd h → Calls Tryz.prog 152 #[hdV h] u fun e w' => e = .returned (roV h) ∧ Below u.heap.size u w') := fun u hu h hh => vrootsOf h u hh
 obtain ⟨x, hx⟩ : ∃ x, eqRo b.h d.h = x := ⟨_, rfl⟩
 have HF := hD hx
 have HX := hD hx
 have E1 : Hid (EnvX w (w.alloc (.cells (trA b d) 83)) [(w.heap.size, oc (trA b d) 83)]) := (EnvX.start w).new _
 clear hb hd hx
 unfold trV
 go_enter Tryz.func106, Tryz.ntmps106
 go_upto_region 1 with (fail)
 generalize w.alloc (.cells (trA b d) 83) = W at *
 refine rgK [0,1,2,3,4,5,6,7,8,9] 0 E1 rfl (by kernel_rfl) (by kernel_rfl) fun hw => ?_
 refine qw 2 hw ?_
 refine qv rfl (fun u hu => load_any_op u (loads_hd HB.out.len (is_hd hu mH HB.out.len)).1 rfl) hw ?_
 refine qc rfl Tryz.func152 (fun u hu => HP.out u (nl hu) b.h HB.out) hw ?_
 refine qf rfl hw ?_
 refine qf (o2 := 137) rfl hw ?_
 refine qv rfl (fun u hu => load_any_op u (loads_hd HD.out.len (must_hd hu mH HB.out.len HD.out.len)).1 rfl) hw ?_
 refine qc rfl Tryz.func152 (fun u hu => HP.out u (nl hu) d.h HD.out) hw ?_
 refine qv rfl (fun u hu => eqlRo_op HB.out HD.out HX.out u rfl rfl) hw ?_
 refine qo rfl hw ?_
 refine enH (by kernel_rfl) fun u3 EX2 => ?_
 have HBE := hD (EnvX.bel EX2.out)
 go_wp2
 go_ret
 exact ⟨by rw [HF.out]; first | done | rfl, HBE.out⟩
theorem vhasWork (b d : BlkM) (w : World) (hb : okHd b.h) (hd : okHd d.h) (ht : Tables w) :
  Rz 107 #[trV b d] w (.bool (mayH b.h)) := by
 unfold Rz
 have HB := hD hb
 have HD := hD hd
 have HMH : Hid (Rt w 31 #[hdV b.h] (.bool (mayH b.h))) := fun u hu => hmay_any b.h u hb (ht.below (EnvX.bel hu))
 obtain ⟨x, hx⟩ : ∃ x, mayH b.h = x := ⟨_, rfl⟩
 have HF := hD hx
 rw [hx] at HMH
 have E1 : Hid (EnvX w (w.alloc (.cells (trA b d) 83)) [(w.heap.size, oc (trA b d) 83)]) := (EnvX.start w).new _
 clear hb hd hx ht
 unfold trV
 go_enter Tryz.func107, Tryz.ntmps107
 go_upto_region 1 with (fail)
 generalize w.alloc (.cells (trA b d) 83) = W at *
 refine rgQ [0,1,2,3,4] [] E1 rfl fun hw => ?_
 refine qw 2 hw ?_
 refine qv rfl (fun u hu => load_any_op u (loads_hd HB.out.len (is_hd hu mH HB.out.len)).1 rfl) hw ?_
 refine qc rfl Tryz.func31 (fun u hu => HMH.out u (nl hu)) hw ?_
 refine qo rfl hw ?_
 refine enP fun u3 EX2 => ?_
 have HBE := hD (EnvX.bel EX2.out)
 go_wp2
 go_ret
 exact ⟨by rw [HF.out]; first | done | rfl, HBE.out⟩
theorem vhasLinks (b d : BlkM) (w : World) (hb : okHd b.h) (hd : okHd d.h) (hl1 : b.l.length = b.n1) (hl2 : d.l.length = d.n1) (hc1 : b.n1 ≤ b.c1 ∧ b.c1 ≤ maxLen) (hc2 : d.n1 ≤ d.c1 ∧ d.c1 ≤ maxLen) (hi1 : isIds b.l) (hi2 : isIds d.l) (hn1 : b.n1 ≤ 1000000) (hn2 : d.n1 ≤ 1000000) (hA1 : IdsIn w w.heap.size b.A1 b.l) (hA2 : IdsIn w w.heap.size d.A1 d.l) :
  Rz 105 #[trV b d] w (.bool (decide (b.l = d.l) && eqL b.h.links d.h.links)) := by
 unfold Rz
 have HB := hD hb
 have HD := hD hd
 have HEQ : Hid (Rt w 58 #[.slice b.A1 b.n1 b.c1, .slice d.A1 d.n1 d.c1] (.bool (decide (b.l = d.l)))) := fun u hu => veqIds b.l d.l b.A1 d.A1 b.n1 b.c1 d.n1 d.c1 u hl1 hl2 hn1 hn2 hc1.1 hc1.2 hc2.1 hc2.2 hi1 hi2 (hA1.up (EnvX.bel hu)) (hA2.up (EnvX.bel hu))
 obtain ⟨x, hx⟩ : ∃ x, decide (b.l = d.l) = x := ⟨_, rfl⟩
 obtain ⟨y, hy⟩ : ∃ y, eqL b.h.links d.h.links = y := ⟨_, rfl⟩
 have HX := hD hx
 have HY := hD hy
 rw [hx] at HEQ
 have E1 : Hid (EnvX w (w.alloc (.cells (trA b d) 83)) [(w.heap.size, oc (trA b d) 83)]) := (EnvX.start w).new _
 clear hb hd hl1 hl2 hc1 hc2 hi1 hi2 hn1 hn2 hA1 hA2 hx hy
 unfold trV
 go_enter Tryz.func105, Tryz.ntmps105
 go_upto_region 1 with (fail)
 generalize w.alloc (.cells (trA b d) 83) = W at *
 cases x with
 | false =>
  have HF : Hid ((decide (b.l = d.l) && eqL b.h.links d.h.links) = false) := by show _ = _; rw [HX.out, HY.out]; rfl
  refine rgQ [0,1,2,3,4,5,6,7,8,9,10,11,12,13,14,15,16,17,18] [] E1 rfl fun hw => ?_
  refine qw 2 hw ?_
  refine qv rfl (fun u hu => load_any_op u (is_l hu mH HB.out.len) rfl) hw ?_
  refine qf rfl hw ?_
  refine qf (o2 := 272) rfl hw ?_
  refine qv rfl (fun u hu => load_any_op u (must_l hu mH HB.out.len HD.out.len) rfl) hw ?_
  refine qc rfl Tryz.func58 (fun u hu => HEQ.out u (nl hu)) hw ?_
  refine qw 12 hw ?_
  refine enP fun u3 EX2 => ?_
  have HBE := hD (EnvX.bel EX2.out)
  go_wp2
  go_ret
  exact ⟨by rw [HF.out]; first | done | rfl, HBE.out⟩
 | true =>
  have HF : Hid ((decide (b.l = d.l) && eqL b.h.links d.h.links) = y) := by show _ = _; rw [HX.out, HY.out]; rfl
  refine rgQ [0,1,2,3,4,5,6,7,8,9,10,11,12,13,14,15,16,17,18] [] E1 rfl fun hw => ?_
  refine qw 2 hw ?_
  refine qv rfl (fun u hu => load_any_op u (is_l hu mH HB.out.len) rfl) hw ?_
  refine qf rfl hw ?_
  refine qf (o2 := 272) rfl hw ?_
  refine qv rfl (fun u hu => load_any_op u (must_l hu mH HB.out.len HD.out.len) rfl) hw ?_
  refine qc rfl Tryz.func58 (fun u hu => HEQ.out u (nl hu)) hw ?_
  refine qw 4 hw ?_
  refine qv rfl (fun u hu => load_any_op u (loads_hd HB.out.len (is_hd hu mH HB.out.len)).2.2.2.1 rfl) hw ?_
  refine qf rfl hw ?_
  refine qf (o2 := 137) rfl hw ?_
  refine qf (o2 := 170) rfl hw ?_
  refine qv rfl (fun u hu => load_any_op u (loads_hd HD.out.len (must_hd hu mH HB.out.len HD.out.len)).2.2.2.1 rfl) hw ?_
  refine qv rfl (fun u hu => eqlb_op HB.out.len.2.1 HD.out.len.2.1 HY.out u rfl rfl) hw ?_
  refine qw 2 hw ?_
  refine enP fun u3 EX2 => ?_
  have HBE := hD (EnvX.bel EX2.out)
  go_wp2
  go_ret
  exact ⟨by rw [HF.out]; first | done | rfl, HBE.out⟩
def FK (x0 x1 x2 x3 x4 : Bool) : Nat := if x0 = false then 3 else if x1 = false then 5 else if x2 = false then 6 else if x3 = false then 7 else if x4 = false then 4 else 0
theorem vfault (b d : BlkM) (w : World) (hb : okHd b.h) (hd : okHd d.h) (hl1 : b.l.length = b.n1) (hl2 : d.l.length = d.n1) (hc1 : b.n1 ≤ b.c1 ∧ b.c1 ≤ maxLen) (hc2 : d.n1 ≤ d.c1 ∧ d.c1 ≤ maxLen) (hi1 : isIds b.l) (hi2 : isIds d.l) (hn1 : b.n1 ≤ 1000000) (hn2 : d.n1 ≤ 1000000) (hA1 : IdsIn w w.heap.size b.A1 b.l) (hA2 : IdsIn w w.heap.size d.A1 d.l) (ht : Tables w) :
  Rz 50 #[trV b d] w (.int .i64 (FK (decide (b.h.height < 48)) (eqPl b.h d.h) (decide (b.l = d.l) && eqL b.h.links d.h.links) (eqRo b.h d.h) (mayH b.h) : Int)) := by
 unfold Rz
 have HB := hD hb
 have HD := hD hd
 have HC0 : Hid (Rt w 103 #[trV b d] (.bool (decide (b.h.height < 48)))) := fun u hu => vhasRoom b d u hb hd
 have HC1 : Hid (Rt w 104 #[trV b d] (.bool (eqPl b.h d.h))) := fun u hu => vhasPlace b d u hb hd
 have HC2 : Hid (Rt w 105 #[trV b d] (.bool (decide (b.l = d.l) && eqL b.h.links d.h.links))) := fun u hu => vhasLinks b d u hb hd hl1 hl2 hc1 hc2 hi1 hi2 hn1 hn2 (hA1.up (EnvX.bel hu)) (hA2.up (EnvX.bel hu))
 have HC3 : Hid (Rt w 106 #[trV b d] (.bool (eqRo b.h d.h))) := fun u hu => vhasRoots b d u hb hd
 have HC4 : Hid (Rt w 107 #[trV b d] (.bool (mayH b.h))) := fun u hu => vhasWork b d u hb hd (ht.below (EnvX.bel hu))
 obtain ⟨x0, hx0⟩ : ∃ x, (decide (b.h.height < 48)) = x := ⟨_, rfl⟩
 rw [hx0] at HC0 ⊢
 obtain ⟨x1, hx1⟩ : ∃ x, (eqPl b.h d.h) = x := ⟨_, rfl⟩
 rw [hx1] at HC1 ⊢
 obtain ⟨x2, hx2⟩ : ∃ x, (decide (b.l = d.l) && eqL b.h.links d.h.links) = x := ⟨_, rfl⟩
 rw [hx2] at HC2 ⊢
 obtain ⟨x3, hx3⟩ : ∃ x, (eqRo b.h d.h) = x := ⟨_, rfl⟩
 rw [hx3] at HC3 ⊢
 obtain ⟨x4, hx4⟩ : ∃ x, (mayH b.h) = x := ⟨_, rfl⟩
 rw [hx4] at HC4 ⊢
 have E1 : Hid (EnvX w (w.alloc (.cells (trA b d) 83)) [(w.heap.size, oc (trA b d) 83)]) := (EnvX.start w).new _
 clear hb hd hl1 hl2 hc1 hc2 hi1 hi2 hn1 hn2 hA1 hA2 ht hx0 hx1 hx2 hx3 hx4
 unfold trV at *
 go_enter Tryz.func50, Tryz.ntmps50
 go_upto_region 1 with (fail)
 generalize w.alloc (.cells (trA b d) 83) = W at *
 refine rgQ [0,1,2,3,4,5] [6,7] E1 rfl fun hw => ?_
 refine qv (v := .agg (ruleA 0)) rfl (fun u hu => buildA_op u (built_rs _ _)) hw ?_
 refine qv (v := .agg (ruleA 1)) rfl (fun u hu => buildA_op u (built_rs _ _)) hw ?_
 refine qv (v := .agg (ruleA 2)) rfl (fun u hu => buildA_op u (built_rs _ _)) hw ?_
 refine qv (v := .agg (ruleA 3)) rfl (fun u hu => buildA_op u (built_rs _ _)) hw ?_
 refine qv (v := .agg (ruleA 4)) rfl (fun u hu => buildA_op u (built_rs _ _)) hw ?_
 refine qv (v := .agg rulesA) rfl (fun u hu => buildA_op u built_ra) hw ?_
 refine wpG_nil ?_
 refine qn rfl (new_ra _) fun g3 HG3 he2 => ?_
 change lexH _ _ _ _ _ _ [(g3, oc rules0A 139), (w.heap.size, oc (trA b d) 83)]
 refine (sh (cs := rulesA) rfl HG3 (infoRA _ rfl) rfl rulesA_one ?_)
 refine fun _ => enL fun u5 EX4 => ?_
 go_upto_region 2 with (fail)
 refine rgQ [0,1] [] EX4 rfl fun hw => ?_
 refine ql rfl mH trivial hw ?_
 refine qo rfl hw ?_
 refine enP fun u8 EX7 => ?_
 have EJ := hD EX7.out
 clear EX7 E1
 go_upto_region 3 with (fail)
 go_loopw [13] (fun iv u => ∃ i : Nat, i ≤ 5 ∧ iv = .int .i64 (i : Int) ∧ Hid (((0 < i → x0 = true) ∧ (1 < i → x1 = true) ∧ (2 < i → x2 = true) ∧ (3 < i → x3 = true) ∧ (4 < i → x4 = true)) ∧ EnvX w u [(g3, oc (rulesA) 139), (w.heap.size, oc (trA b d) 83)])) (fun iv _ => 5 - (intOf iv).toNat)
 case atStart => exact ⟨0, by omega, rfl, ⟨fun h => absurd h (by omega), fun h => absurd h (by omega), fun h => absurd h (by omega), fun h => absurd h (by omega), fun h => absurd h (by omega)⟩, EJ.out⟩
 case round =>
  obtain ⟨i, hi, rfl, hinv⟩ := hrel
  have EK := hD hinv.out.2
  have HX := hD hinv.out.1
  clear hinv EJ
  have hcs : i = 0 ∨ i = 1 ∨ i = 2 ∨ i = 3 ∨ i = 4 ∨ i = 5 := by omega
  clear hi
  rcases hcs with rfl | rfl | rfl | rfl | rfl | rfl
  · have C2 : Hid (decide (((0 : Nat) : Int) < 5) = true) := by show _ = _; decide
    go_upto_region 3 with (fail)
    refine rgQ [0] [] EK rfl fun hw => ?_
    refine qv rfl (fun u hu => ltZ_op u C2.out rfl rfl) hw ?_
    refine enP fun u103 EX102 => ?_
    go_upto_region 4 with (fail)
    refine rgQ [0] [1,2] EX102 rfl fun hw => ?_
    refine qv (v := .agg (ruleA 0)) rfl (fun u hu => idxRA_op (i := 0) (by decide) u rfl rfl) hw ?_
    refine wpG_nil ?_
    refine qn rfl (new_rs _) fun g5 HG5 he105 => ?_
    change lexH _ _ _ _ _ _ [(g5, oc rule0A 138), (g3, oc (rulesA) 139), (w.heap.size, oc (trA b d) 83)]
    refine (sh (cs := ruleA 0) rfl HG5 (infoRS _ rfl) rfl (ruleA_one _) ?_)
    refine fun _ => enL fun u108 EX107 => ?_
    cases x0 with
    | false =>
     go_upto_region 5 with (fail)
     refine rgP [0,1,2,3,4] [] EX107 rfl ?_; intro hw109 hone
     refine qv (v := .pointer (some ⟨g5, 0, none⟩)) rfl (fun u hu => fieldRS_op (k := 0) (by decide) (ad := ⟨g5, 0, none⟩) u rfl) ⟨_, hw109⟩ ?_
     refine qv rfl (fun u hu => load_any_op u (box_rsF (i := 0) hu mH) rfl) ⟨_, hw109⟩ ?_
     refine qv rfl (fun u hu => load_any_op u (box_tr hu (mT (mT mH)) HB.out.len HD.out.len) rfl) ⟨_, hw109⟩ ?_
     (refine wpG_callV (f := 103) (args := #[.agg (trA b d)]) (caps := #[]) (all := #[.agg (trA b d)]) (v := .bool false) rfl rfl rfl rfl rfl Tryz.func103 rfl rfl (fun u hu => HC0.out u (nl hu)) ?_ hw109; intro K hK; go_big_quiet_op; go_big_quiet_on)
     refine qo rfl ⟨_, hw109⟩ ?_
     clear hone hw109; refine enP fun u111 EX110 => ?_
     go_upto_region 6 with (fail)
     refine rgQ [0,1,2] [] EX110 rfl fun hw => ?_
     refine qv (v := .pointer (some ⟨g5, 1, none⟩)) rfl (fun u hu => fieldRS_op (k := 1) (by decide) (ad := ⟨g5, 0, none⟩) u rfl) hw ?_
     refine qv rfl (fun u hu => load_any_op u (box_rsE (i := 0) hu mH) rfl) hw ?_
     refine qo rfl hw ?_
     refine enP fun u114 EX113 => ?_
     have HBE := hD (EnvX.bel EX113.out)
     go_wp2
     go_ret
     exact ⟨rfl, HBE.out⟩
    | true =>
     go_upto_region 5 with (fail)
     refine rgP [0,1,2,3,4] [] EX107 rfl ?_; intro hw109 hone
     refine qv (v := .pointer (some ⟨g5, 0, none⟩)) rfl (fun u hu => fieldRS_op (k := 0) (by decide) (ad := ⟨g5, 0, none⟩) u rfl) ⟨_, hw109⟩ ?_
     refine qv rfl (fun u hu => load_any_op u (box_rsF (i := 0) hu mH) rfl) ⟨_, hw109⟩ ?_
     refine qv rfl (fun u hu => load_any_op u (box_tr hu (mT (mT mH)) HB.out.len HD.out.len) rfl) ⟨_, hw109⟩ ?_
     (refine wpG_callV (f := 103) (args := #[.agg (trA b d)]) (caps := #[]) (all := #[.agg (trA b d)]) (v := .bool true) rfl rfl rfl rfl rfl Tryz.func103 rfl rfl (fun u hu => HC0.out u (nl hu)) ?_ hw109; intro K hK; go_big_quiet_op; go_big_quiet_on)
     refine qo rfl ⟨_, hw109⟩ ?_
     clear hone hw109; refine enP fun u111 EX110 => ?_
     go_wp2
     go_roundw
     case rel => exact ⟨1, by omega, by go_num, ⟨(fun _ => by simp), (fun h => absurd h (by omega)), (fun h => absurd h (by omega)), (fun h => absurd h (by omega)), (fun h => absurd h (by omega))⟩, EX110.out.sub (fun _ h => mT h)⟩
     case measure => simp [intOf]
  · have C2 : Hid (decide (((1 : Nat) : Int) < 5) = true) := by show _ = _; decide
    obtain rfl : x0 = true := HX.out.1 (by omega)
    go_upto_region 3 with (fail)
    refine rgQ [0] [] EK rfl fun hw => ?_
    refine qv rfl (fun u hu => ltZ_op u C2.out rfl rfl) hw ?_
    refine enP fun u203 EX202 => ?_
    go_upto_region 4 with (fail)
    refine rgQ [0] [1,2] EX202 rfl fun hw => ?_
    refine qv (v := .agg (ruleA 1)) rfl (fun u hu => idxRA_op (i := 1) (by decide) u rfl rfl) hw ?_
    refine wpG_nil ?_
    refine qn rfl (new_rs _) fun g5 HG5 he205 => ?_
    change lexH _ _ _ _ _ _ [(g5, oc rule0A 138), (g3, oc (rulesA) 139), (w.heap.size, oc (trA b d) 83)]
    refine (sh (cs := ruleA 1) rfl HG5 (infoRS _ rfl) rfl (ruleA_one _) ?_)
    refine fun _ => enL fun u208 EX207 => ?_
    cases x1 with
    | false =>
     go_upto_region 5 with (fail)
     refine rgP [0,1,2,3,4] [] EX207 rfl ?_; intro hw209 hone
     refine qv (v := .pointer (some ⟨g5, 0, none⟩)) rfl (fun u hu => fieldRS_op (k := 0) (by decide) (ad := ⟨g5, 0, none⟩) u rfl) ⟨_, hw209⟩ ?_
     refine qv rfl (fun u hu => load_any_op u (box_rsF (i := 1) hu mH) rfl) ⟨_, hw209⟩ ?_
     refine qv rfl (fun u hu => load_any_op u (box_tr hu (mT (mT mH)) HB.out.len HD.out.len) rfl) ⟨_, hw209⟩ ?_
     (refine wpG_callV (f := 104) (args := #[.agg (trA b d)]) (caps := #[]) (all := #[.agg (trA b d)]) (v := .bool false) rfl rfl rfl rfl rfl Tryz.func104 rfl rfl (fun u hu => HC1.out u (nl hu)) ?_ hw209; intro K hK; go_big_quiet_op; go_big_quiet_on)
     refine qo rfl ⟨_, hw209⟩ ?_
     clear hone hw209; refine enP fun u211 EX210 => ?_
     go_upto_region 6 with (fail)
     refine rgQ [0,1,2] [] EX210 rfl fun hw => ?_
     refine qv (v := .pointer (some ⟨g5, 1, none⟩)) rfl (fun u hu => fieldRS_op (k := 1) (by decide) (ad := ⟨g5, 0, none⟩) u rfl) hw ?_
     refine qv rfl (fun u hu => load_any_op u (box_rsE (i := 1) hu mH) rfl) hw ?_
     refine qo rfl hw ?_
     refine enP fun u214 EX213 => ?_
     have HBE := hD (EnvX.bel EX213.out)
     go_wp2
     go_ret
     exact ⟨rfl, HBE.out⟩
    | true =>
     go_upto_region 5 with (fail)
     refine rgP [0,1,2,3,4] [] EX207 rfl ?_; intro hw209 hone
     refine qv (v := .pointer (some ⟨g5, 0, none⟩)) rfl (fun u hu => fieldRS_op (k := 0) (by decide) (ad := ⟨g5, 0, none⟩) u rfl) ⟨_, hw209⟩ ?_
     refine qv rfl (fun u hu => load_any_op u (box_rsF (i := 1) hu mH) rfl) ⟨_, hw209⟩ ?_
     refine qv rfl (fun u hu => load_any_op u (box_tr hu (mT (mT mH)) HB.out.len HD.out.len) rfl) ⟨_, hw209⟩ ?_
     (refine wpG_callV (f := 104) (args := #[.agg (trA b d)]) (caps := #[]) (all := #[.agg (trA b d)]) (v := .bool true) rfl rfl rfl rfl rfl Tryz.func104 rfl rfl (fun u hu => HC1.out u (nl hu)) ?_ hw209; intro K hK; go_big_quiet_op; go_big_quiet_on)
     refine qo rfl ⟨_, hw209⟩ ?_
     clear hone hw209; refine enP fun u211 EX210 => ?_
     go_wp2
     go_roundw
     case rel => exact ⟨2, by omega, by go_num, ⟨(fun _ => by simp), (fun _ => by simp), (fun h => absurd h (by omega)), (fun h => absurd h (by omega)), (fun h => absurd h (by omega))⟩, EX210.out.sub (fun _ h => mT h)⟩
     case measure => simp [intOf]
  · have C2 : Hid (decide (((2 : Nat) : Int) < 5) = true) := by show _ = _; decide
    obtain rfl : x0 = true := HX.out.1 (by omega)
    obtain rfl : x1 = true := HX.out.2.1 (by omega)
    go_upto_region 3 with (fail)
    refine rgQ [0] [] EK rfl fun hw => ?_
    refine qv rfl (fun u hu => ltZ_op u C2.out rfl rfl) hw ?_
    refine enP fun u303 EX302 => ?_
    go_upto_region 4 with (fail)
    refine rgQ [0] [1,2] EX302 rfl fun hw => ?_
    refine qv (v := .agg (ruleA 2)) rfl (fun u hu => idxRA_op (i := 2) (by decide) u rfl rfl) hw ?_
    refine wpG_nil ?_
    refine qn rfl (new_rs _) fun g5 HG5 he305 => ?_
    change lexH _ _ _ _ _ _ [(g5, oc rule0A 138), (g3, oc (rulesA) 139), (w.heap.size, oc (trA b d) 83)]
    refine (sh (cs := ruleA 2) rfl HG5 (infoRS _ rfl) rfl (ruleA_one _) ?_)
    refine fun _ => enL fun u308 EX307 => ?_
    cases x2 with
    | false =>
     go_upto_region 5 with (fail)
     refine rgP [0,1,2,3,4] [] EX307 rfl ?_; intro hw309 hone
     refine qv (v := .pointer (some ⟨g5, 0, none⟩)) rfl (fun u hu => fieldRS_op (k := 0) (by decide) (ad := ⟨g5, 0, none⟩) u rfl) ⟨_, hw309⟩ ?_
     refine qv rfl (fun u hu => load_any_op u (box_rsF (i := 2) hu mH) rfl) ⟨_, hw309⟩ ?_
     refine qv rfl (fun u hu => load_any_op u (box_tr hu (mT (mT mH)) HB.out.len HD.out.len) rfl) ⟨_, hw309⟩ ?_
     (refine wpG_callV (f := 105) (args := #[.agg (trA b d)]) (caps := #[]) (all := #[.agg (trA b d)]) (v := .bool false) rfl rfl rfl rfl rfl Tryz.func105 rfl rfl (fun u hu => HC2.out u (nl hu)) ?_ hw309; intro K hK; go_big_quiet_op; go_big_quiet_on)
     refine qo rfl ⟨_, hw309⟩ ?_
     clear hone hw309; refine enP fun u311 EX310 => ?_
     go_upto_region 6 with (fail)
     refine rgQ [0,1,2] [] EX310 rfl fun hw => ?_
     refine qv (v := .pointer (some ⟨g5, 1, none⟩)) rfl (fun u hu => fieldRS_op (k := 1) (by decide) (ad := ⟨g5, 0, none⟩) u rfl) hw ?_
     refine qv rfl (fun u hu => load_any_op u (box_rsE (i := 2) hu mH) rfl) hw ?_
     refine qo rfl hw ?_
     refine enP fun u314 EX313 => ?_
     have HBE := hD (EnvX.bel EX313.out)
     go_wp2
     go_ret
     exact ⟨rfl, HBE.out⟩
    | true =>
     go_upto_region 5 with (fail)
     refine rgP [0,1,2,3,4] [] EX307 rfl ?_; intro hw309 hone
     refine qv (v := .pointer (some ⟨g5, 0, none⟩)) rfl (fun u hu => fieldRS_op (k := 0) (by decide) (ad := ⟨g5, 0, none⟩) u rfl) ⟨_, hw309⟩ ?_
     refine qv rfl (fun u hu => load_any_op u (box_rsF (i := 2) hu mH) rfl) ⟨_, hw309⟩ ?_
     refine qv rfl (fun u hu => load_any_op u (box_tr hu (mT (mT mH)) HB.out.len HD.out.len) rfl) ⟨_, hw309⟩ ?_
     (refine wpG_callV (f := 105) (args := #[.agg (trA b d)]) (caps := #[]) (all := #[.agg (trA b d)]) (v := .bool true) rfl rfl rfl rfl rfl Tryz.func105 rfl rfl (fun u hu => HC2.out u (nl hu)) ?_ hw309; intro K hK; go_big_quiet_op; go_big_quiet_on)
     refine qo rfl ⟨_, hw309⟩ ?_
     clear hone hw309; refine enP fun u311 EX310 => ?_
     go_wp2
     go_roundw
     case rel => exact ⟨3, by omega, by go_num, ⟨(fun _ => by simp), (fun _ => by simp), (fun _ => by simp), (fun h => absurd h (by omega)), (fun h => absurd h (by omega))⟩, EX310.out.sub (fun _ h => mT h)⟩
     case measure => simp [intOf]
  · have C2 : Hid (decide (((3 : Nat) : Int) < 5) = true) := by show _ = _; decide
    obtain rfl : x0 = true := HX.out.1 (by omega)
    obtain rfl : x1 = true := HX.out.2.1 (by omega)
    obtain rfl : x2 = true := HX.out.2.2.1 (by omega)
    go_upto_region 3 with (fail)
    refine rgQ [0] [] EK rfl fun hw => ?_
    refine qv rfl (fun u hu => ltZ_op u C2.out rfl rfl) hw ?_
    refine enP fun u403 EX402 => ?_
    go_upto_region 4 with (fail)
    refine rgQ [0] [1,2] EX402 rfl fun hw => ?_
    refine qv (v := .agg (ruleA 3)) rfl (fun u hu => idxRA_op (i := 3) (by decide) u rfl rfl) hw ?_
    refine wpG_nil ?_
    refine qn rfl (new_rs _) fun g5 HG5 he405 => ?_
    change lexH _ _ _ _ _ _ [(g5, oc rule0A 138), (g3, oc (rulesA) 139), (w.heap.size, oc (trA b d) 83)]
    refine (sh (cs := ruleA 3) rfl HG5 (infoRS _ rfl) rfl (ruleA_one _) ?_)
    refine fun _ => enL fun u408 EX407 => ?_
    cases x3 with
    | false =>
     go_upto_region 5 with (fail)
     refine rgP [0,1,2,3,4] [] EX407 rfl ?_; intro hw409 hone
     refine qv (v := .pointer (some ⟨g5, 0, none⟩)) rfl (fun u hu => fieldRS_op (k := 0) (by decide) (ad := ⟨g5, 0, none⟩) u rfl) ⟨_, hw409⟩ ?_
     refine qv rfl (fun u hu => load_any_op u (box_rsF (i := 3) hu mH) rfl) ⟨_, hw409⟩ ?_
     refine qv rfl (fun u hu => load_any_op u (box_tr hu (mT (mT mH)) HB.out.len HD.out.len) rfl) ⟨_, hw409⟩ ?_
     (refine wpG_callV (f := 106) (args := #[.agg (trA b d)]) (caps := #[]) (all := #[.agg (trA b d)]) (v := .bool false) rfl rfl rfl rfl rfl Tryz.func106 rfl rfl (fun u hu => HC3.out u (nl hu)) ?_ hw409; intro K hK; go_big_quiet_op; go_big_quiet_on)
     refine qo rfl ⟨_, hw409⟩ ?_
     clear hone hw409; refine enP fun u411 EX410 => ?_
     go_upto_region 6 with (fail)
     refine rgQ [0,1,2] [] EX410 rfl fun hw => ?_
     refine qv (v := .pointer (some ⟨g5, 1, none⟩)) rfl (fun u hu => fieldRS_op (k := 1) (by decide) (ad := ⟨g5, 0, none⟩) u rfl) hw ?_
     refine qv rfl (fun u hu => load_any_op u (box_rsE (i := 3) hu mH) rfl) hw ?_
     refine qo rfl hw ?_
     refine enP fun u414 EX413 => ?_
     have HBE := hD (EnvX.bel EX413.out)
     go_wp2
     go_ret
     exact ⟨rfl, HBE.out⟩
    | true =>
     go_upto_region 5 with (fail)
     refine rgP [0,1,2,3,4] [] EX407 rfl ?_; intro hw409 hone
     refine qv (v := .pointer (some ⟨g5, 0, none⟩)) rfl (fun u hu => fieldRS_op (k := 0) (by decide) (ad := ⟨g5, 0, none⟩) u rfl) ⟨_, hw409⟩ ?_
     refine qv rfl (fun u hu => load_any_op u (box_rsF (i := 3) hu mH) rfl) ⟨_, hw409⟩ ?_
     refine qv rfl (fun u hu => load_any_op u (box_tr hu (mT (mT mH)) HB.out.len HD.out.len) rfl) ⟨_, hw409⟩ ?_
     (refine wpG_callV (f := 106) (args := #[.agg (trA b d)]) (caps := #[]) (all := #[.agg (trA b d)]) (v := .bool true) rfl rfl rfl rfl rfl Tryz.func106 rfl rfl (fun u hu => HC3.out u (nl hu)) ?_ hw409; intro K hK; go_big_quiet_op; go_big_quiet_on)
     refine qo rfl ⟨_, hw409⟩ ?_
     clear hone hw409; refine enP fun u411 EX410 => ?_
     go_wp2
     go_roundw
     case rel => exact ⟨4, by omega, by go_num, ⟨(fun _ => by simp), (fun _ => by simp), (fun _ => by simp), (fun _ => by simp), (fun h => absurd h (by omega))⟩, EX410.out.sub (fun _ h => mT h)⟩
     case measure => simp [intOf]
  · have C2 : Hid (decide (((4 : Nat) : Int) < 5) = true) := by show _ = _; decide
    obtain rfl : x0 = true := HX.out.1 (by omega)
    obtain rfl : x1 = true := HX.out.2.1 (by omega)
    obtain rfl : x2 = true := HX.out.2.2.1 (by omega)
    obtain rfl : x3 = true := HX.out.2.2.2.1 (by omega)
    go_upto_region 3 with (fail)
    refine rgQ [0] [] EK rfl fun hw => ?_
    refine qv rfl (fun u hu => ltZ_op u C2.out rfl rfl) hw ?_
    refine enP fun u503 EX502 => ?_
    go_upto_region 4 with (fail)
    refine rgQ [0] [1,2] EX502 rfl fun hw => ?_
    refine qv (v := .agg (ruleA 4)) rfl (fun u hu => idxRA_op (i := 4) (by decide) u rfl rfl) hw ?_
    refine wpG_nil ?_
    refine qn rfl (new_rs _) fun g5 HG5 he505 => ?_
    change lexH _ _ _ _ _ _ [(g5, oc rule0A 138), (g3, oc (rulesA) 139), (w.heap.size, oc (trA b d) 83)]
    refine (sh (cs := ruleA 4) rfl HG5 (infoRS _ rfl) rfl (ruleA_one _) ?_)
    refine fun _ => enL fun u508 EX507 => ?_
    cases x4 with
    | false =>
     go_upto_region 5 with (fail)
     refine rgP [0,1,2,3,4] [] EX507 rfl ?_; intro hw509 hone
     refine qv (v := .pointer (some ⟨g5, 0, none⟩)) rfl (fun u hu => fieldRS_op (k := 0) (by decide) (ad := ⟨g5, 0, none⟩) u rfl) ⟨_, hw509⟩ ?_
     refine qv rfl (fun u hu => load_any_op u (box_rsF (i := 4) hu mH) rfl) ⟨_, hw509⟩ ?_
     refine qv rfl (fun u hu => load_any_op u (box_tr hu (mT (mT mH)) HB.out.len HD.out.len) rfl) ⟨_, hw509⟩ ?_
     (refine wpG_callV (f := 107) (args := #[.agg (trA b d)]) (caps := #[]) (all := #[.agg (trA b d)]) (v := .bool false) rfl rfl rfl rfl rfl Tryz.func107 rfl rfl (fun u hu => HC4.out u (nl hu)) ?_ hw509; intro K hK; go_big_quiet_op; go_big_quiet_on)
     refine qo rfl ⟨_, hw509⟩ ?_
     clear hone hw509; refine enP fun u511 EX510 => ?_
     go_upto_region 6 with (fail)
     refine rgQ [0,1,2] [] EX510 rfl fun hw => ?_
     refine qv (v := .pointer (some ⟨g5, 1, none⟩)) rfl (fun u hu => fieldRS_op (k := 1) (by decide) (ad := ⟨g5, 0, none⟩) u rfl) hw ?_
     refine qv rfl (fun u hu => load_any_op u (box_rsE (i := 4) hu mH) rfl) hw ?_
     refine qo rfl hw ?_
     refine enP fun u514 EX513 => ?_
     have HBE := hD (EnvX.bel EX513.out)
     go_wp2
     go_ret
     exact ⟨rfl, HBE.out⟩
    | true =>
     go_upto_region 5 with (fail)
     refine rgP [0,1,2,3,4] [] EX507 rfl ?_; intro hw509 hone
     refine qv (v := .pointer (some ⟨g5, 0, none⟩)) rfl (fun u hu => fieldRS_op (k := 0) (by decide) (ad := ⟨g5, 0, none⟩) u rfl) ⟨_, hw509⟩ ?_
     refine qv rfl (fun u hu => load_any_op u (box_rsF (i := 4) hu mH) rfl) ⟨_, hw509⟩ ?_
     refine qv rfl (fun u hu => load_any_op u (box_tr hu (mT (mT mH)) HB.out.len HD.out.len) rfl) ⟨_, hw509⟩ ?_
     (refine wpG_callV (f := 107) (args := #[.agg (trA b d)]) (caps := #[]) (all := #[.agg (trA b d)]) (v := .bool true) rfl rfl rfl rfl rfl Tryz.func107 rfl rfl (fun u hu => HC4.out u (nl hu)) ?_ hw509; intro K hK; go_big_quiet_op; go_big_quiet_on)
     refine qo rfl ⟨_, hw509⟩ ?_
     clear hone hw509; refine enP fun u511 EX510 => ?_
     go_wp2
     go_roundw
     case rel => exact ⟨5, by omega, by go_num, ⟨(fun _ => by simp), (fun _ => by simp), (fun _ => by simp), (fun _ => by simp), (fun _ => by simp)⟩, EX510.out.sub (fun _ h => mT h)⟩
     case measure => simp [intOf]
  · have C2 : Hid (decide (((5 : Nat) : Int) < 5) = false) := by show _ = _; decide
    obtain rfl : x0 = true := HX.out.1 (by omega)
    obtain rfl : x1 = true := HX.out.2.1 (by omega)
    obtain rfl : x2 = true := HX.out.2.2.1 (by omega)
    obtain rfl : x3 = true := HX.out.2.2.2.1 (by omega)
    obtain rfl : x4 = true := HX.out.2.2.2.2 (by omega)
    go_upto_region 3 with (fail)
    refine rgQ [0] [] EK rfl fun hw => ?_
    refine qv rfl (fun u hu => ltZ_op u C2.out rfl rfl) hw ?_
    refine enP fun u603 EX602 => ?_
    go_upto_region 8 with (fail)
    refine rgQ [0] [] EX602 rfl fun hw => ?_
    refine qo rfl hw ?_
    refine enP fun u606 EX605 => ?_
    have HBE := hD (EnvX.bel EX605.out)
    go_wp2
    go_ret
    exact ⟨rfl, HBE.out⟩
end Go.Proofs.YtpanpohdnbgdpaaGreatDoor
